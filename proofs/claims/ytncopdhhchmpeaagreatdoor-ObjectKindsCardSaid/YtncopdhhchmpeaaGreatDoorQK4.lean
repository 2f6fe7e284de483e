/-
  Kf, Kg, Kh, Ki: what ObjectKinds reaches of them.
-/
import Derived.Test.YtncopdhhchmpeaaGreatDoorQK3
namespace Go.Proofs.YtncopdhhchmpeaaGreatDoor
open Go.ChangeShapes Go.WideShapes Go.ChangeAt Go.RowKit
set_option linter.unusedVariables false
set_option linter.unusedSimpArgs false
def jD4 : BSt := boughtD jD3 0 0 0
def kK : Nat → Int := upd (fun _ => 0) 0 4
def kT : Nat → Bool := upd (fun _ => false) 0 true
def kP : Nat → Int := upd (fun _ => 0) 0 (-1)
def kF : Nat → Bool := upd (fun _ => false) 0 true
def kS0 : Nat → Bool := upd (fun _ => false) 0 false
def kS1 : Nat → Bool := upd kS0 0 true
def kY : Nat → Nat → Nat → Int := upd (fun _ _ _ => 0) 0 (fun _ _ => 0)
theorem us3 (i : Nat) : 0 ≤ jD3.us i ∧ jD3.us i ≤ 2 := by
  have h := us2 i
  show 0 ≤ addL jD2.us _ 1 i ∧ addL jD2.us _ 1 i ≤ 2
  unfold addL
  split <;> omega
theorem th0 {n : Nat} {th : Nat → Bool} {vr : Nat → Int} (hn : 0 < n) (ht : th 0 = true) (hv : vr 0 = 0) : (thereB n th 0 && (vr ((0 : Int)).toNat == 0)) = true := by
  have h1 : ((0 : Int)).toNat = 0 := rfl
  simp [thereB, hn, ht, hv]
theorem lv2 {a b : Shp} {th th2 : Nat → Bool} {vr vr2 : Nat → Int} (hn : 0 < a.n) (ht : th 0 = true) (hv : vr 0 = 0) : liveB a b th vr th2 vr2 2 0 0 = true := by
  unfold liveB
  rw [if_pos rfl]
  exact th0 hn ht hv
theorem lv3 {a b : Shp} {th th2 : Nat → Bool} {vr vr2 : Nat → Int} (hn : 0 < b.n) (ht : th2 0 = true) (hv : vr2 0 = 0) : liveB a b th vr th2 vr2 3 0 0 = true := by
  unfold liveB
  rw [if_neg (by decide), if_pos rfl]
  exact th0 hn ht hv
section
variable {w0 w w' : World} {L : BLoc} {X : SLoc}
/-- The law's system: one of each. -/
structure SF (w0 w : World) (L : BLoc) (X : SLoc) (sl : Nat → Bool) : Prop where
  sk : SK w0 w L X jD4 kT kP kK kF sl kY
  an : 0 < L.a.n
  pn : 0 < L.b.n
  nn : 0 < L.n
theorem SF.below {sl : Nat → Bool} (h : SF w0 w L X sl) (hb : Below w.heap.size w w') : SF w0 w' L X sl := ⟨h.sk.below hb, h.an, h.pn, h.nn⟩
def nB (r : Int) : List Value := [.int .u32 r, .int .u32 0, .int .u32 0, .int .u32 0, .int .i64 0, .int .i64 0, .int .i64 0, .int .i64 0, .int .u32 0, .int .i64 0, .int .i64 0, .int .i64 0, .int .i64 0, .int .u32 0, .int .i64 0, .int .i64 0, .int .i64 0, .int .i64 0, .int .u32 0]
theorem nB_len (r : Int) : (nB r).length = 19 := rfl
theorem nB_one (r : Int) : ∀ v, v ∈ nB r → v.oneCell' = true := by simp [nB, Value.oneCell']
/-- What a key of a kind is, and what it answers. -/
structure KH (w : World) (s : Nat) (k k0 k1 k2 k3 k4 o x r : Int) : Prop where
  key : ∀ W, Below w.heap.size w W → Calls Tryz.prog 16 #[.pointer (some ⟨s, 0, none⟩), .int .i64 k, .int .i64 0] W fun e w' => e = .returned (Value.agg #[.int .i64 k0, .int .i64 k1, .int .i64 k2, .int .i64 k3, .int .u32 k4]) ∧ Below W.heap.size W w'
  ans : ∀ W, Below w.heap.size w W → Calls Tryz.prog 32 #[.pointer (some ⟨s, 0, none⟩), (Value.agg #[.int .i64 k0, .int .i64 k1, .int .i64 k2, .int .i64 k3, .int .u32 k4]), .agg #[.int .u32 o, .int .u32 x, .int .u32 x, .int .u32 x, .int .i64 0, .int .i64 0, .int .i64 0, .int .i64 0, .int .u32 0, .int .i64 0, .int .i64 0, .int .i64 0, .int .i64 0, .int .u32 0, .int .i64 0, .int .i64 0, .int .i64 0, .int .i64 0, .int .u32 0]] W fun e w' => e = .returned (.tuple #[.agg (nB r).toArray, .bool true]) ∧ Below W.heap.size W w'
theorem KH.keyAt {w : World} {s : Nat} {k k0 k1 k2 k3 k4 o x r : Int} (h : KH w s k k0 k1 k2 k3 k4 o x r) : Calls Tryz.prog 16 #[.pointer (some ⟨s, 0, none⟩), .int .i64 k, .int .i64 0] w fun e w' => e = .returned (Value.agg #[.int .i64 k0, .int .i64 k1, .int .i64 k2, .int .i64 k3, .int .u32 k4]) ∧ Below w.heap.size w w' := h.key w (Below.refl _ _)
theorem ans_gen (s : Nat) (k0 k1 k2 k3 k4 : Int) (o x r : Int) (h5 : (k0 == 5) = false) (h6 : (k0 == 6) = false) (vs vr : Value) (w : World) (hE : ErrsAt vs vr w)
    (hs : ∀ W, Below w.heap.size w W → Calls Tryz.prog 23 #[.pointer (some ⟨s, 0, none⟩), (Value.agg #[.int .i64 k0, .int .i64 k1, .int .i64 k2, .int .i64 k3, .int .u32 k4])] W fun e w' => e = .returned (Value.agg #[.int .i64 k0, .int .i64 k1, .int .i64 k2, .int .i64 k3, .int .u32 k4]) ∧ Below W.heap.size W w')
    (ha : ∀ cs, Hid (CallC cs s k0 k1 k2 k3 k4 o x) → ∀ W, Below w.heap.size w W → Calls Tryz.prog 81 #[(.agg cs.toArray)] W fun e w' => e = .returned (.agg (nB r).toArray) ∧ Below W.heap.size W w') (W : World) (hW : Below w.heap.size w W) :
    Calls Tryz.prog 32 #[.pointer (some ⟨s, 0, none⟩), (Value.agg #[.int .i64 k0, .int .i64 k1, .int .i64 k2, .int .i64 k3, .int .u32 k4]), .agg #[.int .u32 o, .int .u32 x, .int .u32 x, .int .u32 x, .int .i64 0, .int .i64 0, .int .i64 0, .int .i64 0, .int .u32 0, .int .i64 0, .int .i64 0, .int .i64 0, .int .i64 0, .int .u32 0, .int .i64 0, .int .i64 0, .int .i64 0, .int .i64 0, .int .u32 0]] W fun e w' => e = .returned (.tuple #[.agg (nB r).toArray, .bool true]) ∧ Below W.heap.size W w' := by
  refine (oanswer (Q := fun w' => Below W.heap.size W w') (N := W.heap.size) (nB_len r) (nB_one r) s k0 k1 k2 k3 k4 k0 k1 k2 k3 k4 o x x x 0 0 0 0 0 0 0 0 0 0 0 0 0 0 0 0 0 0 0 0 0 0 0 0 0 0 0 0 0 0 h5 h6 W (Nat.le_refl _) (fun w1 w2 h1 h2 => h1.trans h2) ?_ ?_ ?_ ?_ ?_).mono (fun e w' h9 => ⟨h9.1, h9.2.1⟩)
  · exact fun V hV => hs V (hW.trans (hV.mono hW.size))
  · exact fun V hV => oseen_void s vs vr V (hE.below (hW.trans (hV.mono hW.size)))
  · exact fun V hV => oseen_void s vs vr V (hE.below (hW.trans (hV.mono hW.size)))
  · exact fun V hV => oseen_void s vs vr V (hE.below (hW.trans (hV.mono hW.size)))
  · exact fun V hV => (ha _ (Lib.hid (c25_call s k0 k1 k2 k3 k4 o x x x 0 0 0 0 0 0 0 0 0 0 0 0 0 0 0)) V (hW.trans (hV.mono hW.size))).mono (fun e w' h9 => ⟨h9.1, hV.trans (h9.2.mono hV.size), UpT.below h9.2⟩)
theorem kh_void (k : Int) (hk : k = 0 ∨ k = 1 ∨ k = 5) (s : Nat) (o x : Int) (vs vr : Value) (w : World) (hE : ErrsAt vs vr w) : KH w s k 0 0 0 0 0 o x 1 :=
  ⟨fun W hW => skey_void s k 0 hk W, ans_gen s 0 0 0 0 0 o x 1 (by decide) (by decide) vs vr w hE (fun W hW => oseen_void s vs vr W (hE.below hW)) (fun cs hc W hW => oanswer_void hc W)⟩
variable {sl : Nat → Bool}
theorem kh_resume (o x : Int) (vs vr : Value) (w : World) (hE : ErrsAt vs vr w) (h : SF w0 w L X sl) : KH w X.s 6 0 0 0 0 0 o x 1 :=
  ⟨fun W hW => skey_resume 0 0 0 0 0 0 W (h.below hW).sk.b (fun V hV => dresume_no (th := jD4.dt) (vr_ := jD4.dv) (W := jD4.dW) 0 0 (Lib.hid z_castD) h.sk.sz.2.2 (Lib.hid rfl) 1 (Lib.hid (by show updS jD3.dW 0 0 zsD1 0 9 = _; rw [updS_D1 _ 0 9 (by decide)]; rfl)) (by decide) V ((h.below hW).below hV).sk.k.d), ans_gen X.s 0 0 0 0 0 o x 1 (by decide) (by decide) vs vr w hE (fun W hW => oseen_void X.s vs vr W (hE.below hW)) (fun cs hc W hW => oanswer_void hc W)⟩
theorem kh_node (o x : Int) (ho : 20 ≤ o) (vs vr : Value) (w : World) (hE : ErrsAt vs vr w) (h : SF w0 w L X sl) : KH w X.s 2 2 0 0 0 0 o x 2 :=
  ⟨fun W hW => skey_node 0 2 0 0 0 0 W (h.below hW).sk.b L.S (h.below hW).sk.k.mm.m0 (fun V hV => snodekey_in (a := L.a) (b := L.b) (th := jD4.nt) (vr_ := jD4.nv) (th2 := jD4.pt) (vr2 := jD4.pv) 0 0 0 (Lib.hid rfl) (by decide) (by decide) h.an (Lib.hid rfl) 0 (Lib.hid rfl) V ((h.below hW).below hV).sk.k.mm.sv.st), ans_gen X.s 2 0 0 0 0 o x 2 (by decide) (by decide) vs vr w hE (fun W hW => oseen_live 2 0 0 0 0 W (fun V hV => nvalid_ok 2 0 0 0 0 (Lib.hid (by decide)) vs vr V (hE.below (hW.trans (hV.mono hW.size)))) (fun V hV => (slive_mem (a := L.a) (b := L.b) (th := jD4.nt) (vr_ := jD4.nv) (th2 := jD4.pt) (vr2 := jD4.pv) X.s L.mb 2 0 0 0 0 (.inl rfl) true (Lib.hid (lv2 h.an rfl rfl)) V ((h.below hW).below hV).sk.b.c0 ((h.below hW).below hV).sk.k.mm.m0 ((h.below hW).below hV).sk.k.mm.sv.st))) (fun cs hc W hW => (oanswer_node (Q := fun w' => Below W.heap.size W w') (nB_len 2) (nB_one 2) hc W (Nat.le_refl _) (fun w1 w2 h1 h2 => h1.trans h2) (fun V hV => (bad_node hc ho V).mono (fun e w' h9 => ⟨h9.1, hV.trans (h9.2.mono hV.size), UpT.below h9.2⟩))).mono (fun e w' h9 => ⟨h9.1, h9.2.1⟩))⟩
theorem kh_page (o x : Int) (ho : 20 ≤ o) (vs vr : Value) (w : World) (hE : ErrsAt vs vr w) (h : SF w0 w L X sl) : KH w X.s 3 3 0 0 0 0 o x 2 :=
  ⟨fun W hW => skey_page 0 3 0 0 0 0 W (h.below hW).sk.b L.S (h.below hW).sk.k.mm.m0 (fun V hV => spagekey_in (a := L.a) (b := L.b) (th := jD4.nt) (vr_ := jD4.nv) (th2 := jD4.pt) (vr2 := jD4.pv) 0 0 (Lib.hid rfl) h.pn (Lib.hid rfl) 0 (Lib.hid rfl) V ((h.below hW).below hV).sk.k.mm.sv.st), ans_gen X.s 3 0 0 0 0 o x 2 (by decide) (by decide) vs vr w hE (fun W hW => oseen_live 3 0 0 0 0 W (fun V hV => nvalid_ok 3 0 0 0 0 (Lib.hid (by decide)) vs vr V (hE.below (hW.trans (hV.mono hW.size)))) (fun V hV => (slive_mem (a := L.a) (b := L.b) (th := jD4.nt) (vr_ := jD4.nv) (th2 := jD4.pt) (vr2 := jD4.pv) X.s L.mb 3 0 0 0 0 (.inr rfl) true (Lib.hid (lv3 h.pn rfl rfl)) V ((h.below hW).below hV).sk.b.c0 ((h.below hW).below hV).sk.k.mm.m0 ((h.below hW).below hV).sk.k.mm.sv.st))) (fun cs hc W hW => (oanswer_page (Q := fun w' => Below W.heap.size W w') (nB_len 2) (nB_one 2) hc W (Nat.le_refl _) (fun w1 w2 h1 h2 => h1.trans h2) (fun V hV => (bad_page hc ho V).mono (fun e w' h9 => ⟨h9.1, hV.trans (h9.2.mono hV.size), UpT.below h9.2⟩))).mono (fun e w' h9 => ⟨h9.1, h9.2.1⟩))⟩
theorem kh_domain (o x : Int) (ho : 20 ≤ o) (vs vr : Value) (w : World) (hE : ErrsAt vs vr w) (h : SF w0 w L X sl) : KH w X.s 4 4 0 0 0 0 o x 2 :=
  ⟨fun W hW => skey_dom 0 4 0 0 0 0 W (h.below hW).sk.b (fun V hV => dkey_of 0 4 0 0 0 0 V (fun U hU => dkeyof_in (th := jD4.dt) (vr_ := jD4.dv) 4 0 0 0 (Lib.hid z_castD) h.sk.sz.2.2 (Lib.hid rfl) (by decide) 0 (Lib.hid rfl) U (((h.below hW).below hV).below hU).sk.k.d)), ans_gen X.s 4 0 0 0 0 o x 2 (by decide) (by decide) vs vr w hE (fun W hW => oseen_live 4 0 0 0 0 W (fun V hV => nvalid_ok 4 0 0 0 0 (Lib.hid (by decide)) vs vr V (hE.below (hW.trans (hV.mono hW.size)))) (fun V hV => (slive_dom 0 0 0 0 L.dp L.dR L.dn L.dc L.dB jD4.dt jD4.dv true (Lib.hid (th0 h.sk.sz.2.2 rfl rfl)) V ((h.below hW).below hV).sk.b ((h.below hW).below hV).sk.k.d.pl.f0 ((h.below hW).below hV).sk.k.d.pl.ar))) (fun cs hc W hW => (oanswer_domain (Q := fun w' => Below W.heap.size W w') (nB_len 2) (nB_one 2) hc W (Nat.le_refl _) (fun w1 w2 h1 h2 => h1.trans h2) (fun V hV => (bad_domain hc ho L.dP zd1 true (Lib.hid (fun j _ => zd1_one j)) V ((h.below hW).below hV).sk.b.c1 (fun U hU => dget_ok (th := jD4.dt) (vr_ := jD4.dv) (W := jD4.dW) 0 0 (Lib.hid z_castD) h.sk.sz.2.2 (Lib.hid rfl) zd1 (Lib.hid (fun j hj => updS_D1 _ 0 j hj)) (Lib.hid (fun j _ => zd1_one j)) U (((h.below hW).below hV).below hU).sk.k.d)).mono (fun e w' h9 => ⟨h9.1, hV.trans (h9.2.mono hV.size), UpT.below h9.2⟩))).mono (fun e w' h9 => ⟨h9.1, h9.2.1⟩))⟩
theorem kh_meter (o x : Int) (ho : 20 ≤ o) (vs vr : Value) (w : World) (hE : ErrsAt vs vr w) (h : SF w0 w L X sl) : KH w X.s 7 7 0 0 0 0 o x 2 :=
  ⟨fun W hW => skey_meter 0 0 X.tp W (h.below hW).sk.b (h.below hW).sk.t.f0 (fun V hV => aver_in (n := X.tn) (vr := fun _ => 0) 0 h.sk.sz.1 0 (Lib.hid rfl) V ((h.below hW).below hV).sk.t.ar) (fun V hV => slive_meter 0 0 0 0 X.tp X.tR X.tn X.tn X.tB kT (fun _ => 0) true (Lib.hid (th0 h.sk.sz.1 rfl rfl)) V ((h.below hW).below hV).sk.b ((h.below hW).below hV).sk.t.f0 ((h.below hW).below hV).sk.t.ar), ans_gen X.s 7 0 0 0 0 o x 2 (by decide) (by decide) vs vr w hE (fun W hW => oseen_live 7 0 0 0 0 W (fun V hV => nvalid_ok 7 0 0 0 0 (Lib.hid (by decide)) vs vr V (hE.below (hW.trans (hV.mono hW.size)))) (fun V hV => (slive_meter 0 0 0 0 X.tp X.tR X.tn X.tn X.tB kT (fun _ => 0) true (Lib.hid (th0 h.sk.sz.1 rfl rfl)) V ((h.below hW).below hV).sk.b ((h.below hW).below hV).sk.t.f0 ((h.below hW).below hV).sk.t.ar))) (fun cs hc W hW => (oanswer_meter (Q := fun w' => Below W.heap.size W w') (nB_len 2) (nB_one 2) hc W (Nat.le_refl _) (fun w1 w2 h1 h2 => h1.trans h2) (fun V hV => (bad_meter hc ho V).mono (fun e w' h9 => ⟨h9.1, hV.trans (h9.2.mono hV.size), UpT.below h9.2⟩))).mono (fun e w' h9 => ⟨h9.1, h9.2.1⟩))⟩
theorem kh_bank (o x : Int) (ho : 20 ≤ o) (vs vr : Value) (w : World) (hE : ErrsAt vs vr w) (h : SF w0 w L X sl) : KH w X.s 8 8 0 0 0 0 o x 2 :=
  ⟨fun W hW => skey_bank 0 0 L.p W (h.below hW).sk.b (h.below hW).sk.k.kk.f0 (fun V hV => aver_in (n := L.n) (vr := fun _ => 0) 0 h.nn 0 (Lib.hid rfl) V ((h.below hW).below hV).sk.k.kk.ar) (fun V hV => slive_bank 0 0 0 0 L.p L.B L.n L.c L.bB (thN jD4.nb) (fun _ => 0) true (Lib.hid (th0 h.nn rfl rfl)) V ((h.below hW).below hV).sk.b ((h.below hW).below hV).sk.k.kk.f0 ((h.below hW).below hV).sk.k.kk.ar), ans_gen X.s 8 0 0 0 0 o x 2 (by decide) (by decide) vs vr w hE (fun W hW => oseen_live 8 0 0 0 0 W (fun V hV => nvalid_ok 8 0 0 0 0 (Lib.hid (by decide)) vs vr V (hE.below (hW.trans (hV.mono hW.size)))) (fun V hV => (slive_bank 0 0 0 0 L.p L.B L.n L.c L.bB (thN jD4.nb) (fun _ => 0) true (Lib.hid (th0 h.nn rfl rfl)) V ((h.below hW).below hV).sk.b ((h.below hW).below hV).sk.k.kk.f0 ((h.below hW).below hV).sk.k.kk.ar))) (fun cs hc W hW => (oanswer_bank (Q := fun w' => Below W.heap.size W w') (nB_len 2) (nB_one 2) hc W (Nat.le_refl _) (fun w1 w2 h1 h2 => h1.trans h2) (fun V hV => (bad_bank hc ho V).mono (fun e w' h9 => ⟨h9.1, hV.trans (h9.2.mono hV.size), UpT.below h9.2⟩))).mono (fun e w' h9 => ⟨h9.1, h9.2.1⟩))⟩
theorem kh_builder (o x : Int) (ho : 20 ≤ o) (vs vr : Value) (w : World) (hE : ErrsAt vs vr w) (h : SF w0 w L X kS0) : KH w X.s 10 10 0 0 0 0 o x 2 :=
  ⟨fun W hW => skey_builder 0 0 X.fp W (h.below hW).sk.b (h.below hW).sk.f.f0 (fun V hV => aver_in (n := X.fn) (vr := fun _ => 0) 0 h.sk.sz.2.1 0 (Lib.hid rfl) V ((h.below hW).below hV).sk.f.ar) (fun V hV => slive_builder 0 0 0 0 X.fp X.fR X.fn X.fn X.fB kF (fun _ => 0) false (Lib.hid (th0 h.sk.sz.2.1 rfl rfl)) V ((h.below hW).below hV).sk.b ((h.below hW).below hV).sk.f.f0 ((h.below hW).below hV).sk.f.ar (fun U hU => mksealed_in (sl := kS0) (ky := kY) 0 h.sk.sz.2.1 (Lib.hid rfl) false (Lib.hid rfl) U (((h.below hW).below hV).below hU).sk.f)), ans_gen X.s 10 0 0 0 0 o x 2 (by decide) (by decide) vs vr w hE (fun W hW => oseen_live 10 0 0 0 0 W (fun V hV => nvalid_ok 10 0 0 0 0 (Lib.hid (by decide)) vs vr V (hE.below (hW.trans (hV.mono hW.size)))) (fun V hV => (slive_builder 0 0 0 0 X.fp X.fR X.fn X.fn X.fB kF (fun _ => 0) false (Lib.hid (th0 h.sk.sz.2.1 rfl rfl)) V ((h.below hW).below hV).sk.b ((h.below hW).below hV).sk.f.f0 ((h.below hW).below hV).sk.f.ar (fun U hU => mksealed_in (sl := kS0) (ky := kY) 0 h.sk.sz.2.1 (Lib.hid rfl) false (Lib.hid rfl) U (((h.below hW).below hV).below hU).sk.f)))) (fun cs hc W hW => (oanswer_builder (Q := fun w' => Below W.heap.size W w') (nB_len 2) (nB_one 2) hc W (Nat.le_refl _) (fun w1 w2 h1 h2 => h1.trans h2) (fun V hV => (bad_builder hc ho V).mono (fun e w' h9 => ⟨h9.1, hV.trans (h9.2.mono hV.size), UpT.below h9.2⟩))).mono (fun e w' h9 => ⟨h9.1, h9.2.1⟩))⟩
theorem kh_maker (o x : Int) (ho : 20 ≤ o) (vs vr : Value) (w : World) (hE : ErrsAt vs vr w) (h : SF w0 w L X kS1) : KH w X.s 9 9 0 0 0 0 o x 2 :=
  ⟨fun W hW => skey_maker 0 0 X.fp W (h.below hW).sk.b (h.below hW).sk.f.f0 (fun V hV => aver_in (n := X.fn) (vr := fun _ => 0) 0 h.sk.sz.2.1 0 (Lib.hid rfl) V ((h.below hW).below hV).sk.f.ar) (fun V hV => slive_maker 0 0 0 0 X.fp X.fR X.fn X.fn X.fB kF (fun _ => 0) true (Lib.hid (th0 h.sk.sz.2.1 rfl rfl)) V ((h.below hW).below hV).sk.b ((h.below hW).below hV).sk.f.f0 ((h.below hW).below hV).sk.f.ar (fun U hU => mksealed_in (sl := kS1) (ky := kY) 0 h.sk.sz.2.1 (Lib.hid rfl) true (Lib.hid rfl) U (((h.below hW).below hV).below hU).sk.f)), ans_gen X.s 9 0 0 0 0 o x 2 (by decide) (by decide) vs vr w hE (fun W hW => oseen_live 9 0 0 0 0 W (fun V hV => nvalid_ok 9 0 0 0 0 (Lib.hid (by decide)) vs vr V (hE.below (hW.trans (hV.mono hW.size)))) (fun V hV => (slive_maker 0 0 0 0 X.fp X.fR X.fn X.fn X.fB kF (fun _ => 0) true (Lib.hid (th0 h.sk.sz.2.1 rfl rfl)) V ((h.below hW).below hV).sk.b ((h.below hW).below hV).sk.f.f0 ((h.below hW).below hV).sk.f.ar (fun U hU => mksealed_in (sl := kS1) (ky := kY) 0 h.sk.sz.2.1 (Lib.hid rfl) true (Lib.hid rfl) U (((h.below hW).below hV).below hU).sk.f)))) (fun cs hc W hW => (oanswer_maker (Q := fun w' => Below W.heap.size W w') (nB_len 2) (nB_one 2) hc W (Nat.le_refl _) (fun w1 w2 h1 h2 => h1.trans h2) (fun V hV => (bad_maker hc ho V).mono (fun e w' h9 => ⟨h9.1, hV.trans (h9.2.mono hV.size), UpT.below h9.2⟩))).mono (fun e w' h9 => ⟨h9.1, h9.2.1⟩))⟩
/-- Before it is sealed a factory has no Maker's key. -/
theorem kmaker_no (w : World) (h : SF w0 w L X kS0) : Calls Tryz.prog 16 #[.pointer (some ⟨X.s, 0, none⟩), .int .i64 9, .int .i64 0] w fun e w' => e = .returned (Value.agg #[.int .i64 0, .int .i64 0, .int .i64 0, .int .i64 0, .int .u32 0]) ∧ Below w.heap.size w w' :=
  skey_maker_no 0 0 X.fp w h.sk.b h.sk.f.f0 (fun V hV => aver_in (n := X.fn) (vr := fun _ => 0) 0 h.sk.sz.2.1 0 (Lib.hid rfl) V (h.below hV).sk.f.ar) (fun V hV => slive_maker 0 0 0 0 X.fp X.fR X.fn X.fn X.fB kF (fun _ => 0) false (Lib.hid (th0 h.sk.sz.2.1 rfl rfl)) V (h.below hV).sk.b (h.below hV).sk.f.f0 (h.below hV).sk.f.ar (fun U hU => mksealed_in (sl := kS0) (ky := kY) 0 h.sk.sz.2.1 (Lib.hid rfl) false (Lib.hid rfl) U ((h.below hV).below hU).sk.f))
theorem kh_creator (o x : Int) (ho : 20 ≤ o) (s : Nat) (vs vr : Value) (w : World) (hE : ErrsAt vs vr w) : KH w s 11 11 0 0 0 0 o x 2 :=
  ⟨fun W hW => skey_plain s 11 0 (by decide) W, ans_gen s 11 0 0 0 0 o x 2 (by decide) (by decide) vs vr w hE (fun W hW => oseen_live 11 0 0 0 0 W (fun V hV => nvalid_ok 11 0 0 0 0 (Lib.hid (by decide)) vs vr V (hE.below (hW.trans (hV.mono hW.size)))) (fun V hV => (slive_plain s 11 0 0 0 0 (by decide) V))) (fun cs hc W hW => (oanswer_creator (Q := fun w' => Below W.heap.size W w') (nB_len 2) (nB_one 2) hc W (Nat.le_refl _) (fun w1 w2 h1 h2 => h1.trans h2) (fun V hV => (bad_creator hc ho V).mono (fun e w' h9 => ⟨h9.1, hV.trans (h9.2.mono hV.size), UpT.below h9.2⟩))).mono (fun e w' h9 => ⟨h9.1, h9.2.1⟩))⟩
theorem kh_console (o x : Int) (ho : 20 ≤ o) (s : Nat) (vs vr : Value) (w : World) (hE : ErrsAt vs vr w) : KH w s 13 13 0 0 0 0 o x 2 :=
  ⟨fun W hW => skey_plain s 13 0 (by decide) W, ans_gen s 13 0 0 0 0 o x 2 (by decide) (by decide) vs vr w hE (fun W hW => oseen_live 13 0 0 0 0 W (fun V hV => nvalid_ok 13 0 0 0 0 (Lib.hid (by decide)) vs vr V (hE.below (hW.trans (hV.mono hW.size)))) (fun V hV => (slive_plain s 13 0 0 0 0 (by decide) V))) (fun cs hc W hW => (oanswer_console (Q := fun w' => Below W.heap.size W w') (nB_len 2) (nB_one 2) hc W (Nat.le_refl _) (fun w1 w2 h1 h2 => h1.trans h2) (fun V hV => (bad_console hc ho V).mono (fun e w' h9 => ⟨h9.1, hV.trans (h9.2.mono hV.size), UpT.below h9.2⟩))).mono (fun e w' h9 => ⟨h9.1, h9.2.1⟩))⟩
theorem kh_clock (o x : Int) (ho : 20 ≤ o) (s : Nat) (vs vr : Value) (w : World) (hE : ErrsAt vs vr w) : KH w s 14 14 0 0 0 0 o x 2 :=
  ⟨fun W hW => skey_plain s 14 0 (by decide) W, ans_gen s 14 0 0 0 0 o x 2 (by decide) (by decide) vs vr w hE (fun W hW => oseen_live 14 0 0 0 0 W (fun V hV => nvalid_ok 14 0 0 0 0 (Lib.hid (by decide)) vs vr V (hE.below (hW.trans (hV.mono hW.size)))) (fun V hV => (slive_plain s 14 0 0 0 0 (by decide) V))) (fun cs hc W hW => (oanswer_clock (Q := fun w' => Below W.heap.size W w') (nB_len 2) (nB_one 2) hc W (Nat.le_refl _) (fun w1 w2 h1 h2 => h1.trans h2) (fun V hV => (bad_clock hc ho V).mono (fun e w' h9 => ⟨h9.1, hV.trans (h9.2.mono hV.size), UpT.below h9.2⟩))).mono (fun e w' h9 => ⟨h9.1, h9.2.1⟩))⟩
end
end Go.Proofs.YtncopdhhchmpeaaGreatDoor
namespace Go.Proofs.YtncopdhhchmpeaaGreatDoor
open Go.ChangeShapes Go.WideShapes Go.ChangeAt Go.RowKit
set_option linter.unusedVariables false
set_option linter.unusedSimpArgs false
section
variable {w0 w w' : World} {L : BLoc} {X : SLoc}
theorem sj_root2 (hn : 0 < L.n) (w : World) (h : SJ w0 w L X st0) : Calls Tryz.prog 12 #[.pointer (some ⟨L.P, 0, none⟩), .int .i64 10] w fun e w' => e = .returned (.tuple #[.int .i64 0, .int .i64 0, .nilIface]) ∧ SJ w0 w' L X jD1 ∧ UpT L.T w w' :=
  (bwroot_w (D := st0) 10 (by decide) (by decide) 0 (Lib.hid rfl) hn w h.k).mono (fun e w' h9 => ⟨h9.1, h.step h9.2.1 h9.2.2, h9.2.2.up⟩)
theorem sj_node2 (hn : 0 < L.a.n) (vs vr : Value) (w : World) (hE : ErrsAt vs vr w) (h : SJ w0 w L X jD1) : Calls Tryz.prog 15 #[.pointer (some ⟨L.P, 0, none⟩), .int .i64 0, .slice none 0 0] w fun e w' => e = .returned (.tuple #[.int .i64 0, .int .i64 0, .nilIface]) ∧ SJ w0 w' L X jD2 ∧ UpT L.T w w' :=
  (bnode_w (D := jD1) 0 (by decide) vs vr none 0 0 (fun _ _ => 0) (Lib.hid (fun i hi => by omega)) (by decide) 0 hn (Lib.hid (by rfl)) (Lib.hid (fun i hi => by omega)) 0 (Lib.hid (by rfl)) (Lib.hid (by rw [chain0 h rfl rfl]; rfl)) (Lib.hid (fun i _ => by simp [jD1, openedB, st0, upd])) w h.k hE (srcv_none L w _)).mono (fun e w' h9 => ⟨h9.1, h.step h9.2.1 h9.2.2, h9.2.2.up⟩)
theorem sj_page2 (hn : 0 < L.b.n) (w : World) (h : SJ w0 w L X jD2) : Calls Tryz.prog 17 #[.pointer (some ⟨L.P, 0, none⟩), .int .i64 0, .slice none 0 0] w fun e w' => e = .returned (.tuple #[.int .i64 0, .int .i64 0, .nilIface]) ∧ SJ w0 w' L X jD3 ∧ UpT L.T w w' :=
  (bpage_w (D := jD2) 0 (by decide) none 0 0 [] (Lib.hid rfl) (by decide) 0 hn (Lib.hid (by rfl)) (Lib.hid (fun i hi => by omega)) 0 (Lib.hid (by rfl)) (Lib.hid (by
    rw [chain0 h rfl rfl]
    have h1 := us2 0
    have h2 : jD2.lm 0 = 10 := rfl
    have h3 : ((0 : Nat) : Int).toNat = 0 := rfl
    simp only [List.any_cons, List.any_nil, Bool.or_false, fullB, h3, h2]
    exact decide_eq_false (by omega))) (Lib.hid (fun i _ => by have := us2 i; omega)) w h.k (srcw_none L w)).mono (fun e w' h9 => ⟨h9.1, h.step h9.2.1 h9.2.2, h9.2.2.up⟩)
theorem sj_domain2 (hn : 0 < L.dn) (w : World) (h : SJ w0 w L X jD3) : Calls Tryz.prog 18 #[.pointer (some ⟨L.P, 0, none⟩), .int .i64 0] w fun e w' => e = .returned (.tuple #[.int .i64 0, .int .i64 0, .nilIface]) ∧ SJ w0 w' L X jD4 ∧ UpT L.T w w' :=
  (bdomain_w (D := jD3) 0 (by decide) 0 0 hn (Lib.hid (by rfl)) (Lib.hid (fun i hi => by omega)) (Lib.hid (by rfl)) (Lib.hid (by
    rw [chain0 h rfl rfl]
    have h1 := us3 0
    have h2 : jD3.lm 0 = 10 := rfl
    have h3 : ((0 : Nat) : Int).toNat = 0 := rfl
    simp only [List.any_cons, List.any_nil, Bool.or_false, fullB, h3, h2]
    exact decide_eq_false (by omega))) (Lib.hid (fun i _ => by have := us3 i; omega)) w h.k).mono (fun e w' h9 => ⟨h9.1, h.step h9.2.1 h9.2.2, h9.2.2.up⟩)
theorem sk_meter2 (w : World) (h : SK w0 w L X jD4 (fun _ => false) (fun _ => 0) (fun _ => 0) (fun _ => false) (fun _ => false) (fun _ _ _ => 0)) : Calls Tryz.prog 19 #[.pointer (some ⟨X.tP, 0, none⟩), .int .i64 (-1), .int .i64 4] w fun e w' => e = .returned (.tuple #[.int .i64 0, .int .i64 0, .nilIface]) ∧ SK w0 w' L X jD4 kT kP kK (fun _ => false) (fun _ => false) (fun _ _ _ => 0)  ∧ PBelow w w' X.tR X.tG :=
  (mmake_zero (n := X.tn) (th := fun _ => false) (vr := fun _ => 0) (pr := fun _ => 0) (tk := fun _ => 0) 4 (by decide) (by decide) h.sz.1 (Lib.hid (by rfl)) 0 (Lib.hid rfl) w h.t).mono (fun e w' h9 => ⟨h9.1, h.meter h9.2.1 h9.2.2, h9.2.2⟩)
theorem sk_maker2 (w : World) (h : SK w0 w L X jD4 kT kP kK (fun _ => false) (fun _ => false) (fun _ _ _ => 0)) : Calls Tryz.prog 30 #[.pointer (some ⟨X.fP, 0, none⟩)] w fun e w' => e = .returned (.tuple #[.int .i64 0, .int .i64 0, .nilIface]) ∧ SK w0 w' L X jD4 kT kP kK kF kS0 kY  ∧ PBelow w w' X.fR X.fG :=
  (mkmake_is (n := X.fn) (th := fun _ => false) (vr_ := fun _ => 0) (sl := fun _ => false) (ky := fun _ _ _ => 0) 0 0 (Lib.hid rfl) h.sz.2.1 (Lib.hid (by rfl)) (Lib.hid (fun i hi => by omega)) 0 (Lib.hid rfl) w h.f).mono (fun e w' h9 => ⟨h9.1, h.maker h9.2.1 h9.2.2, h9.2.2⟩)
theorem sf_seal2 (w : World) (h : SF w0 w L X kS0) : Calls Tryz.prog 31 #[.pointer (some ⟨X.fP, 0, none⟩), .int .i64 0] w fun e w' => e = .returned .nilIface ∧ SF w0 w' L X kS1  ∧ PBelow w w' X.fR X.fG :=
  (mkseal_ok (n := X.fn) (th := kF) (vr_ := fun _ => 0) (sl := kS0) (ky := kY) 0 h.sk.sz.2.1 (Lib.hid rfl) (Lib.hid rfl) w h.sk.f).mono (fun e w' h9 => ⟨h9.1, ⟨h.sk.maker h9.2.1 h9.2.2, h.an, h.pn, h.nn⟩, h9.2.2⟩)
theorem UpT.hi {T N : Nat} (h : UpT T w w') (hN : T ≤ N) : UpT N w w' := ⟨h.1, fun k h1 h2 => h.2 k (Nat.le_trans hN h1) h2⟩
theorem RI.up {N g : Nat} {xs : List Int} (h : RI w (some ⟨g, 0, none⟩) xs) (hu : UpT N w w') (hg : N ≤ g) : RI w' (some ⟨g, 0, none⟩) xs := by
  intro i hi
  obtain ⟨ad, h1, h2, h3⟩ := h i hi
  have e : ad = ⟨g, 0, none⟩ := by simpa using h1.symm
  subst e
  have hb := hu.2 g hg h2
  refine ⟨_, rfl, Nat.lt_of_lt_of_le h2 hu.1, ?_⟩
  by_cases h0 : i = 0
  · subst h0
    have h4 : w.cell? ⟨g, 0, none⟩ = some (.int .i64 (xs.getD 0 0)) := by simpa [Addr.add] using h3
    simpa [Addr.add] using (World.cell?_of_block (a := ⟨g, 0, none⟩) hb).trans h4
  · have h4 : w.cell? ⟨g, i, none⟩ = some (.int .i64 (xs.getD i 0)) := by simpa [Addr.add, h0] using h3
    simpa [Addr.add, h0] using (World.cell?_of_block (a := ⟨g, i, none⟩) hb).trans h4
theorem kinds_is2 (w : World) : Calls Tryz.prog 28 #[] w fun e w' => ∃ g, e = .returned (.slice (some ⟨g, 0, none⟩) 12 12) ∧ RI w' (some ⟨g, 0, none⟩) kinds12 ∧ w.heap.size ≤ g ∧ Below w.heap.size w w' := by
  go_enter Tryz.func28, Tryz.ntmps28
  go_wp2_with fail
  go_ret
  exact ⟨w.heap.size, rfl, ri_new w _, Nat.le_refl _, (Below.refl _ _).alloc (Nat.le_refl _) _⟩
theorem us4 (h : SF w0 w L X kS0) : jD4.us 0 = 3 := by
  have c : chL jD1.pr ((0 : Nat) : Int) = [((0 : Nat) : Int)] := chL_root (nb := 1) (pr := jD1.pr) h.sk.k.pk (by decide) 0 (by decide) rfl
  have e1 : jD1.us 0 = 0 := rfl
  show addL (addL (addL jD1.us (chL jD1.pr ((0 : Nat) : Int)) 1) (chL jD1.pr ((0 : Nat) : Int)) 1) (chL jD1.pr ((0 : Nat) : Int)) 1 0 = 3
  rw [c]
  simp [addL, e1]
theorem used3 {sl : Nat → Bool} (hs : sl = kS0 ∨ sl = kS1) (w : World) (h : SF w0 w L X sl) (h3 : jD4.us 0 = 3) : Calls Tryz.prog 34 #[.pointer (some ⟨L.P, 0, none⟩), .int .i64 0] w fun e w' => e = .returned (.int .i64 3) ∧ w = w' :=
  bused_is 0 0 3 (Lib.hid rfl) (by decide) h.nn (Lib.hid h3) w h.sk.k.kk
/-- A key of an elder version is seen as a Void. -/
theorem ans_dead {sl : Nat → Bool} (vs vr : Value) (w : World) (hE : ErrsAt vs vr w) (h : SF w0 w L X sl) (W : World) (hW : Below w.heap.size w W) :
    Calls Tryz.prog 32 #[.pointer (some ⟨X.s, 0, none⟩), .agg #[.int .i64 2, .int .i64 0, .int .i64 7, .int .i64 0, .int .u32 0], .agg #[.int .u32 0, .int .u32 0, .int .u32 0, .int .u32 0, .int .i64 0, .int .i64 0, .int .i64 0, .int .i64 0, .int .u32 0, .int .i64 0, .int .i64 0, .int .i64 0, .int .i64 0, .int .u32 0, .int .i64 0, .int .i64 0, .int .i64 0, .int .i64 0, .int .u32 0]] W fun e w' => e = .returned (.tuple #[.agg (nB 1).toArray, .bool true]) ∧ Below W.heap.size W w' := by
  refine (oanswer (Q := fun w' => Below W.heap.size W w') (N := W.heap.size) (nB_len 1) (nB_one 1) X.s 2 0 7 0 0 0 0 0 0 0 0 0 0 0 0 0 0 0 0 0 0 0 0 0 0 0 0 0 0 0 0 0 0 0 0 0 0 0 0 0 0 0 0 0 (by decide) (by decide) W (Nat.le_refl _) (fun w1 w2 h1 h2 => h1.trans h2) ?_ ?_ ?_ ?_ ?_).mono (fun e w' h9 => ⟨h9.1, h9.2.1⟩)
  · intro V hV
    have h2 := h.below (hW.trans (hV.mono hW.size))
    refine oseen_dead 2 0 7 0 0 V (fun U hU => nvalid_ok 2 0 7 0 0 (Lib.hid (by decide)) vs vr U ((hE.below (hW.trans (hV.mono hW.size))).below hU)) (fun U hU => slive_mem (a := L.a) (b := L.b) (th := jD4.nt) (vr_ := jD4.nv) (th2 := jD4.pt) (vr2 := jD4.pv) X.s L.mb 2 0 7 0 0 (.inl rfl) false (Lib.hid ?_) U (h2.below hU).sk.b.c0 (h2.below hU).sk.k.mm.m0 (h2.below hU).sk.k.mm.sv.st)
    have e : jD4.nv ((0 : Int)).toNat = 0 := rfl
    unfold liveB
    rw [if_pos rfl, e]
    simp
  · exact fun V hV => oseen_void X.s vs vr V (hE.below (hW.trans (hV.mono hW.size)))
  · exact fun V hV => oseen_void X.s vs vr V (hE.below (hW.trans (hV.mono hW.size)))
  · exact fun V hV => oseen_void X.s vs vr V (hE.below (hW.trans (hV.mono hW.size)))
  · exact fun V hV => (oanswer_void (Lib.hid (c25_call X.s 0 0 0 0 0 0 0 0 0 0 0 0 0 0 0 0 0 0 0 0 0 0 0 0)) V).mono (fun e w' h9 => ⟨h9.1, hV.trans (h9.2.mono hV.size), UpT.below h9.2⟩)
end
end Go.Proofs.YtncopdhhchmpeaaGreatDoor
namespace Go.Proofs.YtncopdhhchmpeaaGreatDoor
open Go.ChangeShapes Go.WideShapes Go.ChangeAt Go.RowKit
set_option linter.unusedVariables false
set_option linter.unusedSimpArgs false
theorem key_same2 {w w' : World} {b : Nat} {k0 k1 k2 k3 k4 : Int} (h : KeyC w b k0 k1 k2 k3 k4) (hs : w.heap.size ≤ w'.heap.size) (hb : w'.heap[b]? = w.heap[b]?) : KeyC w' b k0 k1 k2 k3 k4 :=
  ⟨Nat.lt_of_lt_of_le h.lt hs, (World.cell?_of_block (a := ⟨b, 0, none⟩) hb).trans h.c0, (World.cell?_of_block (a := ⟨b, 1, none⟩) hb).trans h.c1, (World.cell?_of_block (a := ⟨b, 2, none⟩) hb).trans h.c2, (World.cell?_of_block (a := ⟨b, 3, none⟩) hb).trans h.c3, (World.cell?_of_block (a := ⟨b, 4, none⟩) hb).trans h.c4, fun j => (World.frozen?_of_block (a := ⟨b, j, none⟩) hb).trans (h.fr j)⟩
theorem SF.low {w0 w w' : World} {L : BLoc} {X : SLoc} {sl : Nat → Bool} {N : Nat} (h : SF w0 w L X sl) (hb : Below N w w') (h1 : L.T ≤ N) (h2 : X.s < N) (h3 : X.tP < N ∧ X.tp < N ∧ X.tR < N ∧ X.tG < N) (h4 : X.fP < N ∧ X.fp < N ∧ X.fR < N ∧ X.fG < N) : SF w0 w' L X sl := by
  have hT := h.sk.k.tt.1
  have hdl := h.sk.k.dl
  have hdb := h.sk.k.db
  exact ⟨⟨h.sk.k.keep (hb.mono (by omega)) (hb.block _ (by omega)) (hb.block _ (by omega)) (hb.block _ (by omega)) (hb.block _ (by omega)) (hb.block _ (by omega)) (fun k _ k2 => hb.block k (by omega)), h.sk.t.same hb.size (hb.block _ h3.1) (hb.block _ h3.2.1) (hb.block _ h3.2.2.1) (hb.block _ h3.2.2.2), h.sk.f.same hb.size (hb.block _ h4.1) (hb.block _ h4.2.1) (hb.block _ h4.2.2.1) (hb.block _ h4.2.2.2), h.sk.b.same hb.size (hb.block _ h2), h.sk.lo, h.sk.sz⟩, h.an, h.pn, h.nn⟩
theorem RI.low {w w' : World} {N g : Nat} {xs : List Int} (h : RI w (some ⟨g, 0, none⟩) xs) (hb : Below N w w') (hg : g < N) : RI w' (some ⟨g, 0, none⟩) xs := by
  intro i hi
  obtain ⟨ad, h1, h2, h3⟩ := h i hi
  have e : ad = ⟨g, 0, none⟩ := by simpa using h1.symm
  subst e
  exact ⟨_, rfl, Nat.lt_of_lt_of_le h2 hb.size, (hb.cell (p := (⟨g, 0, none⟩ : Addr).add i) (by rw [add_block']; exact hg)).trans h3⟩
set_option maxRecDepth 100000 in
set_option maxHeartbeats 16000000 in
theorem kinds_in (a0 a1 a2 A kd k0 k1 k2 k3 k4 : Int) (hk1 : (kd == 1) = false) (hk9 : (kd == 9) = false) (hin : Hid (kinds12.contains kd = true)) (hA : Hid (a1.tmod 100 = A)) (u1 : 0 ≤ A ∧ A ≤ 99) (hCR : ∀ w, Calls Tryz.prog 14 #[.int .i64 a0, .int .i64 15] w fun e w' => e = .returned (.int .i64 kd) ∧ w = w') (vs vr : Value) (w : World) (hE : ErrsAt vs vr w)
    (hKH : Hid (∀ w0 w L X, SF w0 w L X kS0 → ErrsAt vs vr w → KH w X.s kd k0 k1 k2 k3 k4 (A + 20) a2 2)) :
    Calls Tryz.prog 4 #[.int .i64 a0, .int .u32 a1, .int .u32 a2] w fun e w' => e = .returned (.bool true) ∧ Below w.heap.size w w' := by
  have HE := Lib.hid hE
  have HCR := Lib.hid hCR
  clear hE hCR
  have d20 : (A + 20) % 4294967296 = A + 20 := by omega
  have ho : 20 ≤ A + 20 := by omega
  go_enter Tryz.func4, Tryz.ntmps4
  go_upto_region 8 with (first
    | (go_at_call 27; (with_reducible refine (first22_is vs vr _ HE.out).mono ?_); rintro e w1 ⟨rfl, hb⟩; have HB1 := Lib.hid hb; clear hb)
    | (go_at_call 11; (with_reducible refine (script_ok _).mono ?_); rintro e w2 ⟨L, X, x, rfl, hs, hn, hb⟩; have HJ2 := Lib.hid hs.sj; have HN := Lib.hid hn.out; clear hs hn hb)
    | (go_at_call 28; (with_reducible refine (kinds_is2 _).mono ?_); rintro e w3 ⟨g, rfl, hr, hgl, hb⟩; have H3 : Hid (SJ w1 w3 L X st0 ∧ RI w3 (some ⟨g, 0, none⟩) kinds12 ∧ w2.heap.size ≤ g ∧ Below w2.heap.size w2 w3) := (Lib.hid ⟨HJ2.out.below hb, hr, hgl, hb⟩); clear hr hgl hb))
  have HT2 : Hid (L.T ≤ w2.heap.size ∧ X.tR < w2.heap.size ∧ X.tG < w2.heap.size ∧ X.fR < w2.heap.size ∧ X.fG < w2.heap.size) := Lib.hid ⟨HJ2.out.k.tw, HJ2.out.t.ar.lt.2, (HJ2.out.t.row.lt X.tG rfl).2, HJ2.out.f.ar.lt.2, (HJ2.out.f.row.lt X.fG rfl).2⟩
  have hnb : 0 < L.n := by have := HN.out.2.2.2.2.1; omega
  have hna : 0 < L.a.n := by have := HN.out.1; omega
  have hnp : 0 < L.b.n := by have := HN.out.2.1; omega
  have hnd : 0 < L.dn := by have := HN.out.2.2.1; omega
  have hnt : 0 < X.tn := by have := HN.out.2.2.2.1; omega
  have hnf : 0 < X.fn := by have := HN.out.2.2.2.2.2; omega
  have HRn : Hid (RI (w3.alloc (.cells #[.int .i64 1, .int .i64 2, .int .i64 3, .int .i64 4, .int .i64 7, .int .i64 8, .int .i64 9, .int .i64 10, .int .i64 11, .int .i64 12, .int .i64 13, .int .i64 14] 3 (0, 0))) (some ⟨w3.heap.size, 0, none⟩) kinds12 ∧ RI (w3.alloc (.cells #[.int .i64 1, .int .i64 2, .int .i64 3, .int .i64 4, .int .i64 7, .int .i64 8, .int .i64 9, .int .i64 10, .int .i64 11, .int .i64 12, .int .i64 13, .int .i64 14] 3 (0, 0))) (some ⟨g, 0, none⟩) kinds12) := Lib.hid ⟨ri_new w3 3, H3.out.2.1.below ((Below.refl _ _).alloc (Nat.le_refl _) _)⟩
  have hl12 : Hid (kinds12.length = 12) := Lib.hid rfl
  go_upto_region 10 with (first
    | (go_at_call 29; (with_reducible refine (sameints_yes (some ⟨g, 0, none⟩) (some ⟨w3.heap.size, 0, none⟩) 12 12 12 kinds12 hl12 (by decide) _ HRn.out.2 HRn.out.1).mono ?_); rintro e w5 ⟨rfl, hb⟩; have H5 : Hid (SJ w1 w5 L X st0 ∧ RI w5 (some ⟨g, 0, none⟩) kinds12) := (Lib.hid (by have hb5 : Below w3.heap.size w3 w5 := (Below.trans ((Below.refl w3.heap.size w3).alloc (Nat.le_refl _) _) (hb.mono (by simp))); exact ⟨H3.out.1.below hb5, H3.out.2.1.below hb5⟩)); clear hb))
  clear hl12
  go_upto_region 12 with (first
    | (go_at_call 14; (with_reducible refine (HCR.out _).mono ?_); rintro e wz ⟨rfl, rfl⟩))
  rw [hA.out, d20]
  have sc := H5.out.1.b.c3
  have HgN := Lib.hid H3.out.2.2.1
  have HEJ : Hid (∀ W D, SJ w1 W L X D → ErrsAt vs vr W) := Lib.hid (fun W D h => HE.out.below (HB1.out.trans (h.k.bel.mono HB1.out.size)))
  go_upto_region 16 with (first
    | (go_at_call 12; (with_reducible refine (sj_root2 hnb _ H5.out.1).mono ?_); rintro e w6 ⟨rfl, hj, hu⟩; have H6 : Hid (SJ w1 w6 L X jD1 ∧ RI w6 (some ⟨g, 0, none⟩) kinds12) := (Lib.hid ⟨hj, H5.out.2.up (hu.hi HT2.out.1) HgN.out⟩); clear hj hu sc; have sc := H6.out.1.b.c3)
    | (go_at_call 15; (with_reducible refine (sj_node2 hna vs vr _ (HEJ.out _ _ H6.out.1) H6.out.1).mono ?_); rintro e w7 ⟨rfl, hj, hu⟩; have H7 : Hid (SJ w1 w7 L X jD2 ∧ RI w7 (some ⟨g, 0, none⟩) kinds12) := (Lib.hid ⟨hj, H6.out.2.up (hu.hi HT2.out.1) HgN.out⟩); clear hj hu sc; have sc := H7.out.1.b.c3)
    | (go_at_call 17; (with_reducible refine (sj_page2 hnp _ H7.out.1).mono ?_); rintro e w8 ⟨rfl, hj, hu⟩; have H8 : Hid (SJ w1 w8 L X jD3 ∧ RI w8 (some ⟨g, 0, none⟩) kinds12) := (Lib.hid ⟨hj, H7.out.2.up (hu.hi HT2.out.1) HgN.out⟩); clear hj hu sc; have sc := H8.out.1.b.c3)
    | (go_at_call 18; (with_reducible refine (sj_domain2 hnd _ H8.out.1).mono ?_); rintro e w9 ⟨rfl, hj, hu⟩; have H9 : Hid (SK w1 w9 L X jD4 (fun _ => false) (fun _ => 0) (fun _ => 0) (fun _ => false) (fun _ => false) (fun _ _ _ => 0) ∧ RI w9 (some ⟨g, 0, none⟩) kinds12) := (Lib.hid ⟨hj.sk ⟨hnt, hnf, hnd⟩, H8.out.2.up (hu.hi HT2.out.1) HgN.out⟩); clear hj hu sc; have sc := H9.out.1.b.c2))
  go_upto_region 17 with (first
    | (go_at_call 19; (with_reducible refine (sk_meter2 _ H9.out.1).mono ?_); rintro e w10 ⟨rfl, hj, hu⟩; have H10 : Hid (SK w1 w10 L X jD4 kT kP kK (fun _ => false) (fun _ => false) (fun _ _ _ => 0) ∧ RI w10 (some ⟨g, 0, none⟩) kinds12) := (Lib.hid ⟨hj, H9.out.2.up (UpT.pb hu HT2.out.2.1 HT2.out.2.2.1) HgN.out⟩); clear hj hu sc; have sc := H10.out.1.b.c4))
  go_upto_region 18 with (first
    | (go_at_call 30; (with_reducible refine (sk_maker2 _ H10.out.1).mono ?_); rintro e w11 ⟨rfl, hj, hu⟩; have H11 : Hid (SF w1 w11 L X kS0 ∧ RI w11 (some ⟨g, 0, none⟩) kinds12) := (Lib.hid ⟨⟨hj, hna, hnp, hnb⟩, H10.out.2.up (UpT.pb hu HT2.out.2.2.2.1 HT2.out.2.2.2.2) HgN.out⟩); clear hj hu sc))
  have HP11 : Hid (Below w.heap.size w w11) := Lib.hid (HB1.out.trans (H11.out.1.sk.k.bel.mono HB1.out.size))
  have HE11 := Lib.hid (HE.out.below HP11.out)
  have HU4 := Lib.hid (us4 H11.out.1)
  have HKH := Lib.hid (hKH.out w1 w11 L X H11.out.1 HE11.out)
  go_upto_region 19 with (first
    | (go_at_call 16; (with_reducible refine HKH.out.keyAt.mono ?_); rintro e w12 ⟨rfl, hb⟩; have HB12 : Hid (Below w11.heap.size w11 w12) := Lib.hid hb; clear hb))
  generalize hg : World.alloc w12 _ = w13
  obtain ⟨kB, hkB⟩ : ∃ kB, kB = w12.heap.size := ⟨_, rfl⟩
  have H13 : Hid (Below w11.heap.size w11 w13 ∧ KeyC w13 kB k0 k1 k2 k3 k4) := Lib.hid (by rw [← hg, hkB]; exact ⟨HB12.out.alloc HB12.out.size _, KeyC.new _ _ _ _ _ _ _⟩)
  rw [← hkB]
  clear hg hkB
  obtain ⟨q0, q1, q2, q3, q4⟩ := ofive H13.out.2
  have hz2 : (nB 2).toArray.size = 19 := rfl
  have hz1 : (nB 1).toArray.size = 19 := rfl
  go_upto_region 24 with fail
  go_upto_region 25 with (first
    | (go_at_call 32; (with_reducible refine (HKH.out.ans _ H13.out.1).mono ?_); rintro e w14 ⟨rfl, hb⟩; have HB14 : Hid (Below w11.heap.size w11 w14) := Lib.hid (H13.out.1.trans (hb.mono H13.out.1.size)); clear hb)
    | (refine wpList_store_mid (by rfl) _ _ _ (by rfl) w14.heap.size 0 (nB 2).toArray (by rfl) (by rfl) (by rw [hz2]; exact nthere_new _ _ 19 (by rfl) _) (by rw [hz2]; exact infoNote) (all_one (nB_one _)) ?_))
  generalize hg : World.setCells _ w14.heap.size 0 _ = w15; obtain ⟨N0, hN⟩ : ∃ N, N = w14.heap.size := ⟨_, rfl⟩; have HN0 : Hid (Below w14.heap.size w14 w15 ∧ World.rangeAt w15 N0 0 (nB 2) ∧ N0 < w15.heap.size) := (Lib.hid (by have hb : Below w14.heap.size w14 w15 := (by rw [← hg]; exact nbelow_cells ((Below.refl w14.heap.size w14).alloc (Nat.le_refl _) _) (Nat.le_refl _) _ _); have hr : World.rangeAt w15 N0 0 (nB 2) := (by rw [← hg, hN]; exact World.rangeAt_setCells_same _ w14.heap.size 0 (nB 2) (by rw [nB_len]; exact nthere_new _ _ 19 (by rfl) _)); exact ⟨hb, hr, cell_lt (CallC.cell hr 0 _ rfl)⟩)); rw [← hN]; clear hg hN
  have H15 : Hid (Below w11.heap.size w11 w15) := Lib.hid (HB14.out.trans (HN0.out.1.mono HB14.out.size))
  have hl12 : Hid (kinds12.length = 12) := Lib.hid rfl
  go_upto_region 28 with (first
    | (go_at_call 33; (with_reducible refine (among_is (some ⟨g, 0, none⟩) 12 12 kinds12 hl12 (by decide) kd true hin _ (H11.out.2.below H15.out)).mono ?_); rintro e w16 ⟨rfl, hb⟩; have HB16 : Hid (Below w15.heap.size w15 w16 ∧ Below w11.heap.size w11 w16) := Lib.hid ⟨hb, H15.out.trans (hb.mono H15.out.size)⟩; clear hb)
    | (go_at_call 32; (with_reducible refine (ans_dead vs vr w11 HE11.out H11.out.1 _ HB16.out.2).mono ?_); rintro e w17 ⟨rfl, hb⟩; have HB17 : Hid (Below w15.heap.size w15 w17 ∧ Below w11.heap.size w11 w17) := Lib.hid ⟨HB16.out.1.trans (hb.mono HB16.out.1.size), HB16.out.2.trans (hb.mono HB16.out.2.size)⟩; clear hb)
    | (refine wpList_store_mid (by rfl) _ _ _ (by rfl) w17.heap.size 0 (nB 1).toArray (by rfl) (by rfl) (by rw [hz1]; exact nthere_new _ _ 19 (by rfl) _) (by rw [hz1]; exact infoNote) (all_one (nB_one _)) ?_))
  generalize hg : World.setCells _ w17.heap.size 0 _ = w18; obtain ⟨N1, hN⟩ : ∃ N, N = w17.heap.size := ⟨_, rfl⟩; have HN1 : Hid (Below w17.heap.size w17 w18 ∧ World.rangeAt w18 N1 0 (nB 1) ∧ N1 < w18.heap.size) := (Lib.hid (by have hb : Below w17.heap.size w17 w18 := (by rw [← hg]; exact nbelow_cells ((Below.refl w17.heap.size w17).alloc (Nat.le_refl _) _) (Nat.le_refl _) _ _); have hr : World.rangeAt w18 N1 0 (nB 1) := (by rw [← hg, hN]; exact World.rangeAt_setCells_same _ w17.heap.size 0 (nB 1) (by rw [nB_len]; exact nthere_new _ _ 19 (by rfl) _)); exact ⟨hb, hr, cell_lt (CallC.cell hr 0 _ rfl)⟩)); rw [← hN]; clear hg hN
  have H18 : Hid (Below w11.heap.size w11 w18 ∧ Below w15.heap.size w15 w18) := Lib.hid ⟨HB17.out.2.trans (HN1.out.1.mono HB17.out.2.size), HB17.out.1.trans (HN1.out.1.mono HB17.out.1.size)⟩
  have c0 := CallC.cell (range_below HN0.out.2.1 H18.out.2 HN0.out.2.2) 0 _ rfl
  have c1 := CallC.cell HN1.out.2.1 0 _ rfl
  have sc := (H11.out.1.below H18.out.1).sk.b.c3
  go_wp2_with (first
    | (go_at_call 34; (with_reducible refine (used3 (.inl rfl) _ (H11.out.1.below H18.out.1) HU4.out).mono ?_); rintro e wz ⟨rfl, rfl⟩))
  go_ret
  exact ⟨rfl, HP11.out.trans (H18.out.1.mono HP11.out.size)⟩
set_option maxRecDepth 100000 in
set_option maxHeartbeats 16000000 in
theorem kinds_out (a0 a1 a2 A kd k0 k1 k2 k3 k4 : Int) (hk1 : (kd == 1) = false) (hk9 : (kd == 9) = false) (hin : Hid (kinds12.contains kd = false)) (hA : Hid (a1.tmod 100 = A)) (u1 : 0 ≤ A ∧ A ≤ 99) (hCR : ∀ w, Calls Tryz.prog 14 #[.int .i64 a0, .int .i64 15] w fun e w' => e = .returned (.int .i64 kd) ∧ w = w') (vs vr : Value) (w : World) (hE : ErrsAt vs vr w)
    (hKH : Hid (∀ w0 w L X, SF w0 w L X kS0 → ErrsAt vs vr w → KH w X.s kd k0 k1 k2 k3 k4 (A + 20) a2 1)) :
    Calls Tryz.prog 4 #[.int .i64 a0, .int .u32 a1, .int .u32 a2] w fun e w' => e = .returned (.bool true) ∧ Below w.heap.size w w' := by
  have HE := Lib.hid hE
  have HCR := Lib.hid hCR
  clear hE hCR
  have d20 : (A + 20) % 4294967296 = A + 20 := by omega
  have ho : 20 ≤ A + 20 := by omega
  go_enter Tryz.func4, Tryz.ntmps4
  go_upto_region 8 with (first
    | (go_at_call 27; (with_reducible refine (first22_is vs vr _ HE.out).mono ?_); rintro e w1 ⟨rfl, hb⟩; have HB1 := Lib.hid hb; clear hb)
    | (go_at_call 11; (with_reducible refine (script_ok _).mono ?_); rintro e w2 ⟨L, X, x, rfl, hs, hn, hb⟩; have HJ2 := Lib.hid hs.sj; have HN := Lib.hid hn.out; clear hs hn hb)
    | (go_at_call 28; (with_reducible refine (kinds_is2 _).mono ?_); rintro e w3 ⟨g, rfl, hr, hgl, hb⟩; have H3 : Hid (SJ w1 w3 L X st0 ∧ RI w3 (some ⟨g, 0, none⟩) kinds12 ∧ w2.heap.size ≤ g ∧ Below w2.heap.size w2 w3) := (Lib.hid ⟨HJ2.out.below hb, hr, hgl, hb⟩); clear hr hgl hb))
  have HT2 : Hid (L.T ≤ w2.heap.size ∧ X.tR < w2.heap.size ∧ X.tG < w2.heap.size ∧ X.fR < w2.heap.size ∧ X.fG < w2.heap.size) := Lib.hid ⟨HJ2.out.k.tw, HJ2.out.t.ar.lt.2, (HJ2.out.t.row.lt X.tG rfl).2, HJ2.out.f.ar.lt.2, (HJ2.out.f.row.lt X.fG rfl).2⟩
  have hnb : 0 < L.n := by have := HN.out.2.2.2.2.1; omega
  have hna : 0 < L.a.n := by have := HN.out.1; omega
  have hnp : 0 < L.b.n := by have := HN.out.2.1; omega
  have hnd : 0 < L.dn := by have := HN.out.2.2.1; omega
  have hnt : 0 < X.tn := by have := HN.out.2.2.2.1; omega
  have hnf : 0 < X.fn := by have := HN.out.2.2.2.2.2; omega
  have HRn : Hid (RI (w3.alloc (.cells #[.int .i64 1, .int .i64 2, .int .i64 3, .int .i64 4, .int .i64 7, .int .i64 8, .int .i64 9, .int .i64 10, .int .i64 11, .int .i64 12, .int .i64 13, .int .i64 14] 3 (0, 0))) (some ⟨w3.heap.size, 0, none⟩) kinds12 ∧ RI (w3.alloc (.cells #[.int .i64 1, .int .i64 2, .int .i64 3, .int .i64 4, .int .i64 7, .int .i64 8, .int .i64 9, .int .i64 10, .int .i64 11, .int .i64 12, .int .i64 13, .int .i64 14] 3 (0, 0))) (some ⟨g, 0, none⟩) kinds12) := Lib.hid ⟨ri_new w3 3, H3.out.2.1.below ((Below.refl _ _).alloc (Nat.le_refl _) _)⟩
  have hl12 : Hid (kinds12.length = 12) := Lib.hid rfl
  go_upto_region 10 with (first
    | (go_at_call 29; (with_reducible refine (sameints_yes (some ⟨g, 0, none⟩) (some ⟨w3.heap.size, 0, none⟩) 12 12 12 kinds12 hl12 (by decide) _ HRn.out.2 HRn.out.1).mono ?_); rintro e w5 ⟨rfl, hb⟩; have H5 : Hid (SJ w1 w5 L X st0 ∧ RI w5 (some ⟨g, 0, none⟩) kinds12) := (Lib.hid (by have hb5 : Below w3.heap.size w3 w5 := (Below.trans ((Below.refl w3.heap.size w3).alloc (Nat.le_refl _) _) (hb.mono (by simp))); exact ⟨H3.out.1.below hb5, H3.out.2.1.below hb5⟩)); clear hb))
  clear hl12
  go_upto_region 12 with (first
    | (go_at_call 14; (with_reducible refine (HCR.out _).mono ?_); rintro e wz ⟨rfl, rfl⟩))
  rw [hA.out, d20]
  have sc := H5.out.1.b.c3
  have HgN := Lib.hid H3.out.2.2.1
  have HEJ : Hid (∀ W D, SJ w1 W L X D → ErrsAt vs vr W) := Lib.hid (fun W D h => HE.out.below (HB1.out.trans (h.k.bel.mono HB1.out.size)))
  go_upto_region 16 with (first
    | (go_at_call 12; (with_reducible refine (sj_root2 hnb _ H5.out.1).mono ?_); rintro e w6 ⟨rfl, hj, hu⟩; have H6 : Hid (SJ w1 w6 L X jD1 ∧ RI w6 (some ⟨g, 0, none⟩) kinds12) := (Lib.hid ⟨hj, H5.out.2.up (hu.hi HT2.out.1) HgN.out⟩); clear hj hu sc; have sc := H6.out.1.b.c3)
    | (go_at_call 15; (with_reducible refine (sj_node2 hna vs vr _ (HEJ.out _ _ H6.out.1) H6.out.1).mono ?_); rintro e w7 ⟨rfl, hj, hu⟩; have H7 : Hid (SJ w1 w7 L X jD2 ∧ RI w7 (some ⟨g, 0, none⟩) kinds12) := (Lib.hid ⟨hj, H6.out.2.up (hu.hi HT2.out.1) HgN.out⟩); clear hj hu sc; have sc := H7.out.1.b.c3)
    | (go_at_call 17; (with_reducible refine (sj_page2 hnp _ H7.out.1).mono ?_); rintro e w8 ⟨rfl, hj, hu⟩; have H8 : Hid (SJ w1 w8 L X jD3 ∧ RI w8 (some ⟨g, 0, none⟩) kinds12) := (Lib.hid ⟨hj, H7.out.2.up (hu.hi HT2.out.1) HgN.out⟩); clear hj hu sc; have sc := H8.out.1.b.c3)
    | (go_at_call 18; (with_reducible refine (sj_domain2 hnd _ H8.out.1).mono ?_); rintro e w9 ⟨rfl, hj, hu⟩; have H9 : Hid (SK w1 w9 L X jD4 (fun _ => false) (fun _ => 0) (fun _ => 0) (fun _ => false) (fun _ => false) (fun _ _ _ => 0) ∧ RI w9 (some ⟨g, 0, none⟩) kinds12) := (Lib.hid ⟨hj.sk ⟨hnt, hnf, hnd⟩, H8.out.2.up (hu.hi HT2.out.1) HgN.out⟩); clear hj hu sc; have sc := H9.out.1.b.c2))
  go_upto_region 17 with (first
    | (go_at_call 19; (with_reducible refine (sk_meter2 _ H9.out.1).mono ?_); rintro e w10 ⟨rfl, hj, hu⟩; have H10 : Hid (SK w1 w10 L X jD4 kT kP kK (fun _ => false) (fun _ => false) (fun _ _ _ => 0) ∧ RI w10 (some ⟨g, 0, none⟩) kinds12) := (Lib.hid ⟨hj, H9.out.2.up (UpT.pb hu HT2.out.2.1 HT2.out.2.2.1) HgN.out⟩); clear hj hu sc; have sc := H10.out.1.b.c4))
  go_upto_region 18 with (first
    | (go_at_call 30; (with_reducible refine (sk_maker2 _ H10.out.1).mono ?_); rintro e w11 ⟨rfl, hj, hu⟩; have H11 : Hid (SF w1 w11 L X kS0 ∧ RI w11 (some ⟨g, 0, none⟩) kinds12) := (Lib.hid ⟨⟨hj, hna, hnp, hnb⟩, H10.out.2.up (UpT.pb hu HT2.out.2.2.2.1 HT2.out.2.2.2.2) HgN.out⟩); clear hj hu sc))
  have HP11 : Hid (Below w.heap.size w w11) := Lib.hid (HB1.out.trans (H11.out.1.sk.k.bel.mono HB1.out.size))
  have HE11 := Lib.hid (HE.out.below HP11.out)
  have HU4 := Lib.hid (us4 H11.out.1)
  have HKH := Lib.hid (hKH.out w1 w11 L X H11.out.1 HE11.out)
  go_upto_region 19 with (first
    | (go_at_call 16; (with_reducible refine HKH.out.keyAt.mono ?_); rintro e w12 ⟨rfl, hb⟩; have HB12 : Hid (Below w11.heap.size w11 w12) := Lib.hid hb; clear hb))
  generalize hg : World.alloc w12 _ = w13
  obtain ⟨kB, hkB⟩ : ∃ kB, kB = w12.heap.size := ⟨_, rfl⟩
  have H13 : Hid (Below w11.heap.size w11 w13 ∧ KeyC w13 kB k0 k1 k2 k3 k4) := Lib.hid (by rw [← hg, hkB]; exact ⟨HB12.out.alloc HB12.out.size _, KeyC.new _ _ _ _ _ _ _⟩)
  rw [← hkB]
  clear hg hkB
  obtain ⟨q0, q1, q2, q3, q4⟩ := ofive H13.out.2
  have hz2 : (nB 1).toArray.size = 19 := rfl
  have hz1 : (nB 1).toArray.size = 19 := rfl
  go_upto_region 24 with fail
  go_upto_region 25 with (first
    | (go_at_call 32; (with_reducible refine (HKH.out.ans _ H13.out.1).mono ?_); rintro e w14 ⟨rfl, hb⟩; have HB14 : Hid (Below w11.heap.size w11 w14) := Lib.hid (H13.out.1.trans (hb.mono H13.out.1.size)); clear hb)
    | (refine wpList_store_mid (by rfl) _ _ _ (by rfl) w14.heap.size 0 (nB 1).toArray (by rfl) (by rfl) (by rw [hz2]; exact nthere_new _ _ 19 (by rfl) _) (by rw [hz2]; exact infoNote) (all_one (nB_one _)) ?_))
  generalize hg : World.setCells _ w14.heap.size 0 _ = w15; obtain ⟨N0, hN⟩ : ∃ N, N = w14.heap.size := ⟨_, rfl⟩; have HN0 : Hid (Below w14.heap.size w14 w15 ∧ World.rangeAt w15 N0 0 (nB 1) ∧ N0 < w15.heap.size) := (Lib.hid (by have hb : Below w14.heap.size w14 w15 := (by rw [← hg]; exact nbelow_cells ((Below.refl w14.heap.size w14).alloc (Nat.le_refl _) _) (Nat.le_refl _) _ _); have hr : World.rangeAt w15 N0 0 (nB 1) := (by rw [← hg, hN]; exact World.rangeAt_setCells_same _ w14.heap.size 0 (nB 1) (by rw [nB_len]; exact nthere_new _ _ 19 (by rfl) _)); exact ⟨hb, hr, cell_lt (CallC.cell hr 0 _ rfl)⟩)); rw [← hN]; clear hg hN
  have H15 : Hid (Below w11.heap.size w11 w15) := Lib.hid (HB14.out.trans (HN0.out.1.mono HB14.out.size))
  have hl12 : Hid (kinds12.length = 12) := Lib.hid rfl
  go_upto_region 26 with (first
    | (go_at_call 33; (with_reducible refine (among_is (some ⟨g, 0, none⟩) 12 12 kinds12 hl12 (by decide) kd false hin _ (H11.out.2.below H15.out)).mono ?_); rintro e w16 ⟨rfl, hb⟩; have HB16 : Hid (Below w15.heap.size w15 w16 ∧ Below w11.heap.size w11 w16) := Lib.hid ⟨hb, H15.out.trans (hb.mono H15.out.size)⟩; clear hb))
  have c0 := CallC.cell (range_below HN0.out.2.1 HB16.out.1 HN0.out.2.2) 0 _ rfl
  go_wp2_with fail
  go_ret
  exact ⟨rfl, HP11.out.trans (HB16.out.2.mono HP11.out.size)⟩
set_option maxRecDepth 100000 in
set_option maxHeartbeats 16000000 in
theorem kinds_one (a0 a1 a2 A : Int) (hA : Hid (a1.tmod 100 = A)) (u1 : 0 ≤ A ∧ A ≤ 99) (g2 : 0 ≤ a2 ∧ a2 ≤ 4294967295) (hCR : ∀ w, Calls Tryz.prog 14 #[.int .i64 a0, .int .i64 15] w fun e w' => e = .returned (.int .i64 1) ∧ w = w') (vs vr : Value) (w : World) (hE : ErrsAt vs vr w) :
    Calls Tryz.prog 4 #[.int .i64 a0, .int .u32 a1, .int .u32 a2] w fun e w' => e = .returned (.bool true) ∧ Below w.heap.size w w' := by
  have HE := Lib.hid hE
  have HCR := Lib.hid hCR
  clear hE hCR
  have d20 : (A + 20) % 4294967296 = A + 20 := by omega
  have ho : 20 ≤ A + 20 := by omega
  go_enter Tryz.func4, Tryz.ntmps4
  go_upto_region 8 with (first
    | (go_at_call 27; (with_reducible refine (first22_is vs vr _ HE.out).mono ?_); rintro e w1 ⟨rfl, hb⟩; have HB1 := Lib.hid hb; clear hb)
    | (go_at_call 11; (with_reducible refine (script_ok _).mono ?_); rintro e w2 ⟨L, X, x, rfl, hs, hn, hb⟩; have HJ2 := Lib.hid hs.sj; have HN := Lib.hid hn.out; clear hs hn hb)
    | (go_at_call 28; (with_reducible refine (kinds_is2 _).mono ?_); rintro e w3 ⟨g, rfl, hr, hgl, hb⟩; have H3 : Hid (SJ w1 w3 L X st0 ∧ RI w3 (some ⟨g, 0, none⟩) kinds12 ∧ w2.heap.size ≤ g ∧ Below w2.heap.size w2 w3) := (Lib.hid ⟨HJ2.out.below hb, hr, hgl, hb⟩); clear hr hgl hb))
  have HT2 : Hid (L.T ≤ w2.heap.size ∧ X.tR < w2.heap.size ∧ X.tG < w2.heap.size ∧ X.fR < w2.heap.size ∧ X.fG < w2.heap.size) := Lib.hid ⟨HJ2.out.k.tw, HJ2.out.t.ar.lt.2, (HJ2.out.t.row.lt X.tG rfl).2, HJ2.out.f.ar.lt.2, (HJ2.out.f.row.lt X.fG rfl).2⟩
  have hnb : 0 < L.n := by have := HN.out.2.2.2.2.1; omega
  have hna : 0 < L.a.n := by have := HN.out.1; omega
  have hnp : 0 < L.b.n := by have := HN.out.2.1; omega
  have hnd : 0 < L.dn := by have := HN.out.2.2.1; omega
  have hnt : 0 < X.tn := by have := HN.out.2.2.2.1; omega
  have hnf : 0 < X.fn := by have := HN.out.2.2.2.2.2; omega
  have HRn : Hid (RI (w3.alloc (.cells #[.int .i64 1, .int .i64 2, .int .i64 3, .int .i64 4, .int .i64 7, .int .i64 8, .int .i64 9, .int .i64 10, .int .i64 11, .int .i64 12, .int .i64 13, .int .i64 14] 3 (0, 0))) (some ⟨w3.heap.size, 0, none⟩) kinds12 ∧ RI (w3.alloc (.cells #[.int .i64 1, .int .i64 2, .int .i64 3, .int .i64 4, .int .i64 7, .int .i64 8, .int .i64 9, .int .i64 10, .int .i64 11, .int .i64 12, .int .i64 13, .int .i64 14] 3 (0, 0))) (some ⟨g, 0, none⟩) kinds12) := Lib.hid ⟨ri_new w3 3, H3.out.2.1.below ((Below.refl _ _).alloc (Nat.le_refl _) _)⟩
  have hl12 : Hid (kinds12.length = 12) := Lib.hid rfl
  go_upto_region 10 with (first
    | (go_at_call 29; (with_reducible refine (sameints_yes (some ⟨g, 0, none⟩) (some ⟨w3.heap.size, 0, none⟩) 12 12 12 kinds12 hl12 (by decide) _ HRn.out.2 HRn.out.1).mono ?_); rintro e w5 ⟨rfl, hb⟩; have H5 : Hid (SJ w1 w5 L X st0 ∧ RI w5 (some ⟨g, 0, none⟩) kinds12) := (Lib.hid (by have hb5 : Below w3.heap.size w3 w5 := (Below.trans ((Below.refl w3.heap.size w3).alloc (Nat.le_refl _) _) (hb.mono (by simp))); exact ⟨H3.out.1.below hb5, H3.out.2.1.below hb5⟩)); clear hb))
  clear hl12
  go_upto_region 12 with (first
    | (go_at_call 14; (with_reducible refine (HCR.out _).mono ?_); rintro e wz ⟨rfl, rfl⟩))
  rw [hA.out, d20]
  have sc := H5.out.1.b.c3
  have HgN := Lib.hid H3.out.2.2.1
  have HEJ : Hid (∀ W D, SJ w1 W L X D → ErrsAt vs vr W) := Lib.hid (fun W D h => HE.out.below (HB1.out.trans (h.k.bel.mono HB1.out.size)))
  go_upto_region 16 with (first
    | (go_at_call 12; (with_reducible refine (sj_root2 hnb _ H5.out.1).mono ?_); rintro e w6 ⟨rfl, hj, hu⟩; have H6 : Hid (SJ w1 w6 L X jD1 ∧ RI w6 (some ⟨g, 0, none⟩) kinds12) := (Lib.hid ⟨hj, H5.out.2.up (hu.hi HT2.out.1) HgN.out⟩); clear hj hu sc; have sc := H6.out.1.b.c3)
    | (go_at_call 15; (with_reducible refine (sj_node2 hna vs vr _ (HEJ.out _ _ H6.out.1) H6.out.1).mono ?_); rintro e w7 ⟨rfl, hj, hu⟩; have H7 : Hid (SJ w1 w7 L X jD2 ∧ RI w7 (some ⟨g, 0, none⟩) kinds12) := (Lib.hid ⟨hj, H6.out.2.up (hu.hi HT2.out.1) HgN.out⟩); clear hj hu sc; have sc := H7.out.1.b.c3)
    | (go_at_call 17; (with_reducible refine (sj_page2 hnp _ H7.out.1).mono ?_); rintro e w8 ⟨rfl, hj, hu⟩; have H8 : Hid (SJ w1 w8 L X jD3 ∧ RI w8 (some ⟨g, 0, none⟩) kinds12) := (Lib.hid ⟨hj, H7.out.2.up (hu.hi HT2.out.1) HgN.out⟩); clear hj hu sc; have sc := H8.out.1.b.c3)
    | (go_at_call 18; (with_reducible refine (sj_domain2 hnd _ H8.out.1).mono ?_); rintro e w9 ⟨rfl, hj, hu⟩; have H9 : Hid (SK w1 w9 L X jD4 (fun _ => false) (fun _ => 0) (fun _ => 0) (fun _ => false) (fun _ => false) (fun _ _ _ => 0) ∧ RI w9 (some ⟨g, 0, none⟩) kinds12) := (Lib.hid ⟨hj.sk ⟨hnt, hnf, hnd⟩, H8.out.2.up (hu.hi HT2.out.1) HgN.out⟩); clear hj hu sc; have sc := H9.out.1.b.c2))
  go_upto_region 17 with (first
    | (go_at_call 19; (with_reducible refine (sk_meter2 _ H9.out.1).mono ?_); rintro e w10 ⟨rfl, hj, hu⟩; have H10 : Hid (SK w1 w10 L X jD4 kT kP kK (fun _ => false) (fun _ => false) (fun _ _ _ => 0) ∧ RI w10 (some ⟨g, 0, none⟩) kinds12) := (Lib.hid ⟨hj, H9.out.2.up (UpT.pb hu HT2.out.2.1 HT2.out.2.2.1) HgN.out⟩); clear hj hu sc; have sc := H10.out.1.b.c4))
  go_upto_region 18 with (first
    | (go_at_call 30; (with_reducible refine (sk_maker2 _ H10.out.1).mono ?_); rintro e w11 ⟨rfl, hj, hu⟩; have H11 : Hid (SF w1 w11 L X kS0 ∧ RI w11 (some ⟨g, 0, none⟩) kinds12) := (Lib.hid ⟨⟨hj, hna, hnp, hnb⟩, H10.out.2.up (UpT.pb hu HT2.out.2.2.2.1 HT2.out.2.2.2.2) HgN.out⟩); clear hj hu sc))
  have HP11 : Hid (Below w.heap.size w w11) := Lib.hid (HB1.out.trans (H11.out.1.sk.k.bel.mono HB1.out.size))
  have HE11 := Lib.hid (HE.out.below HP11.out)
  have HU4 := Lib.hid (us4 H11.out.1)
  have hin : Hid (kinds12.contains 1 = true) := Lib.hid (by decide)
  have hR1 : Hid (rightB 1 0 0 0 a2 = true) := Lib.hid (right_of_code (codeOf_0 1 0 0 0 a2 (by decide) ⟨by decide, by decide, by decide, by decide, by decide, by decide, g2.2⟩))
  have HAN := Lib.hid (ans_gen X.s 1 0 0 0 a2 (A + 20) a2 2 (by decide) (by decide) vs vr w11 HE11.out (fun W hW => oseen_live 1 0 0 0 a2 W (fun V hV => nvalid_ok 1 0 0 0 a2 hR1 vs vr V (HE11.out.below (hW.trans (hV.mono hW.size)))) (fun V hV => slive_plain X.s 1 0 0 0 a2 (by decide) V)) (fun cs hc W hW => (oanswer_number (Q := fun w' => Below W.heap.size W w') (nB_len 2) (nB_one 2) hc W (Nat.le_refl _) (fun w1 w2 h1 h2 => h1.trans h2) (fun V hV => (bad_number hc ho V).mono (fun e w' h9 => ⟨h9.1, hV.trans (h9.2.mono hV.size), UpT.below h9.2⟩))).mono (fun e w' h9 => ⟨h9.1, h9.2.1⟩)))
  go_upto_region 19 with (first
    | (go_at_call 16; (with_reducible refine (skey_void X.s 1 0 (.inr (.inl rfl)) _).mono ?_); rintro e w12 ⟨rfl, hb⟩; have HB12 : Hid (Below w11.heap.size w11 w12) := Lib.hid hb; clear hb))
  generalize hg : World.alloc w12 _ = w13
  obtain ⟨kB, hkB⟩ : ∃ kB, kB = w12.heap.size := ⟨_, rfl⟩
  have H13a : Hid (Below w11.heap.size w11 w13 ∧ KeyC w13 kB 0 0 0 0 0 ∧ w11.heap.size ≤ kB) := Lib.hid (by rw [← hg, hkB]; exact ⟨HB12.out.alloc HB12.out.size _, KeyC.new _ _ _ _ _ _ _, HB12.out.size⟩)
  rw [← hkB]
  clear hg hkB
  have z0 := H13a.out.2.1.c0; have z1 := H13a.out.2.1.c1; have z2 := H13a.out.2.1.c2; have z3 := H13a.out.2.1.c3; have z4 := H13a.out.2.1.c4; have f0 := H13a.out.2.1.fr 0; have f1 := H13a.out.2.1.fr 1; have f2 := H13a.out.2.1.fr 2; have f3 := H13a.out.2.1.fr 3; have f4 := H13a.out.2.1.fr 4
  go_upto_region 21 with fail
  obtain ⟨wS, hS⟩ : ∃ wS, wS = (((((w13.setCell ⟨kB, 0, none⟩ (.int .i64 1)).setCell ⟨kB, 1, none⟩ (.int .i64 0)).setCell ⟨kB, 2, none⟩ (.int .i64 0)).setCell ⟨kB, 3, none⟩ (.int .i64 0)).setCell ⟨kB, 4, none⟩ (.int .u32 a2)) := ⟨_, rfl⟩
  rw [← hS]
  have H13 : Hid (Below w11.heap.size w11 wS ∧ KeyC wS kB 1 0 0 0 a2) := Lib.hid (by
    have hk := H13a.out.2.2
    rw [hS]
    exact ⟨((((H13a.out.1.setCell hk _).setCell hk _).setCell hk _).setCell hk _).setCell hk _, H13a.out.2.1.set 1 0 0 0 a2⟩)
  clear hS z0 z1 z2 z3 z4 f0 f1 f2 f3 f4
  obtain ⟨q0, q1, q2, q3, q4⟩ := ofive H13.out.2
  have hz2 : (nB 2).toArray.size = 19 := rfl
  have hz1 : (nB 1).toArray.size = 19 := rfl
  go_upto_region 24 with fail
  go_upto_region 25 with (first
    | (go_at_call 32; (with_reducible refine (HAN.out _ H13.out.1).mono ?_); rintro e w14 ⟨rfl, hb⟩; have HB14 : Hid (Below w11.heap.size w11 w14) := Lib.hid (H13.out.1.trans (hb.mono H13.out.1.size)); clear hb)
    | (refine wpList_store_mid (by rfl) _ _ _ (by rfl) w14.heap.size 0 (nB 2).toArray (by rfl) (by rfl) (by rw [hz2]; exact nthere_new _ _ 19 (by rfl) _) (by rw [hz2]; exact infoNote) (all_one (nB_one _)) ?_))
  generalize hg : World.setCells _ w14.heap.size 0 _ = w15; obtain ⟨N0, hN⟩ : ∃ N, N = w14.heap.size := ⟨_, rfl⟩; have HN0 : Hid (Below w14.heap.size w14 w15 ∧ World.rangeAt w15 N0 0 (nB 2) ∧ N0 < w15.heap.size) := (Lib.hid (by have hb : Below w14.heap.size w14 w15 := (by rw [← hg]; exact nbelow_cells ((Below.refl w14.heap.size w14).alloc (Nat.le_refl _) _) (Nat.le_refl _) _ _); have hr : World.rangeAt w15 N0 0 (nB 2) := (by rw [← hg, hN]; exact World.rangeAt_setCells_same _ w14.heap.size 0 (nB 2) (by rw [nB_len]; exact nthere_new _ _ 19 (by rfl) _)); exact ⟨hb, hr, cell_lt (CallC.cell hr 0 _ rfl)⟩)); rw [← hN]; clear hg hN
  have H15 : Hid (Below w11.heap.size w11 w15) := Lib.hid (HB14.out.trans (HN0.out.1.mono HB14.out.size))
  have hl12 : Hid (kinds12.length = 12) := Lib.hid rfl
  go_upto_region 28 with (first
    | (go_at_call 33; (with_reducible refine (among_is (some ⟨g, 0, none⟩) 12 12 kinds12 hl12 (by decide) 1 true hin _ (H11.out.2.below H15.out)).mono ?_); rintro e w16 ⟨rfl, hb⟩; have HB16 : Hid (Below w15.heap.size w15 w16 ∧ Below w11.heap.size w11 w16) := Lib.hid ⟨hb, H15.out.trans (hb.mono H15.out.size)⟩; clear hb)
    | (go_at_call 32; (with_reducible refine (ans_dead vs vr w11 HE11.out H11.out.1 _ HB16.out.2).mono ?_); rintro e w17 ⟨rfl, hb⟩; have HB17 : Hid (Below w15.heap.size w15 w17 ∧ Below w11.heap.size w11 w17) := Lib.hid ⟨HB16.out.1.trans (hb.mono HB16.out.1.size), HB16.out.2.trans (hb.mono HB16.out.2.size)⟩; clear hb)
    | (refine wpList_store_mid (by rfl) _ _ _ (by rfl) w17.heap.size 0 (nB 1).toArray (by rfl) (by rfl) (by rw [hz1]; exact nthere_new _ _ 19 (by rfl) _) (by rw [hz1]; exact infoNote) (all_one (nB_one _)) ?_))
  generalize hg : World.setCells _ w17.heap.size 0 _ = w18; obtain ⟨N1, hN⟩ : ∃ N, N = w17.heap.size := ⟨_, rfl⟩; have HN1 : Hid (Below w17.heap.size w17 w18 ∧ World.rangeAt w18 N1 0 (nB 1) ∧ N1 < w18.heap.size) := (Lib.hid (by have hb : Below w17.heap.size w17 w18 := (by rw [← hg]; exact nbelow_cells ((Below.refl w17.heap.size w17).alloc (Nat.le_refl _) _) (Nat.le_refl _) _ _); have hr : World.rangeAt w18 N1 0 (nB 1) := (by rw [← hg, hN]; exact World.rangeAt_setCells_same _ w17.heap.size 0 (nB 1) (by rw [nB_len]; exact nthere_new _ _ 19 (by rfl) _)); exact ⟨hb, hr, cell_lt (CallC.cell hr 0 _ rfl)⟩)); rw [← hN]; clear hg hN
  have H18 : Hid (Below w11.heap.size w11 w18 ∧ Below w15.heap.size w15 w18) := Lib.hid ⟨HB17.out.2.trans (HN1.out.1.mono HB17.out.2.size), HB17.out.1.trans (HN1.out.1.mono HB17.out.1.size)⟩
  have c0 := CallC.cell (range_below HN0.out.2.1 H18.out.2 HN0.out.2.2) 0 _ rfl
  have c1 := CallC.cell HN1.out.2.1 0 _ rfl
  have sc := (H11.out.1.below H18.out.1).sk.b.c3
  go_wp2_with (first
    | (go_at_call 34; (with_reducible refine (used3 (.inl rfl) _ (H11.out.1.below H18.out.1) HU4.out).mono ?_); rintro e wz ⟨rfl, rfl⟩))
  go_ret
  exact ⟨rfl, HP11.out.trans (H18.out.1.mono HP11.out.size)⟩
set_option maxRecDepth 100000 in
set_option maxHeartbeats 16000000 in
theorem kinds_nine (a0 a1 a2 A : Int) (hA : Hid (a1.tmod 100 = A)) (u1 : 0 ≤ A ∧ A ≤ 99) (hCR : ∀ w, Calls Tryz.prog 14 #[.int .i64 a0, .int .i64 15] w fun e w' => e = .returned (.int .i64 9) ∧ w = w') (vs vr : Value) (w : World) (hE : ErrsAt vs vr w) :
    Calls Tryz.prog 4 #[.int .i64 a0, .int .u32 a1, .int .u32 a2] w fun e w' => e = .returned (.bool true) ∧ Below w.heap.size w w' := by
  have HE := Lib.hid hE
  have HCR := Lib.hid hCR
  clear hE hCR
  have d20 : (A + 20) % 4294967296 = A + 20 := by omega
  have ho : 20 ≤ A + 20 := by omega
  go_enter Tryz.func4, Tryz.ntmps4
  go_upto_region 8 with (first
    | (go_at_call 27; (with_reducible refine (first22_is vs vr _ HE.out).mono ?_); rintro e w1 ⟨rfl, hb⟩; have HB1 := Lib.hid hb; clear hb)
    | (go_at_call 11; (with_reducible refine (script_ok _).mono ?_); rintro e w2 ⟨L, X, x, rfl, hs, hn, hb⟩; have HJ2 := Lib.hid hs.sj; have HN := Lib.hid hn.out; clear hs hn hb)
    | (go_at_call 28; (with_reducible refine (kinds_is2 _).mono ?_); rintro e w3 ⟨g, rfl, hr, hgl, hb⟩; have H3 : Hid (SJ w1 w3 L X st0 ∧ RI w3 (some ⟨g, 0, none⟩) kinds12 ∧ w2.heap.size ≤ g ∧ Below w2.heap.size w2 w3) := (Lib.hid ⟨HJ2.out.below hb, hr, hgl, hb⟩); clear hr hgl hb))
  have HT2 : Hid (L.T ≤ w2.heap.size ∧ X.tR < w2.heap.size ∧ X.tG < w2.heap.size ∧ X.fR < w2.heap.size ∧ X.fG < w2.heap.size) := Lib.hid ⟨HJ2.out.k.tw, HJ2.out.t.ar.lt.2, (HJ2.out.t.row.lt X.tG rfl).2, HJ2.out.f.ar.lt.2, (HJ2.out.f.row.lt X.fG rfl).2⟩
  have hnb : 0 < L.n := by have := HN.out.2.2.2.2.1; omega
  have hna : 0 < L.a.n := by have := HN.out.1; omega
  have hnp : 0 < L.b.n := by have := HN.out.2.1; omega
  have hnd : 0 < L.dn := by have := HN.out.2.2.1; omega
  have hnt : 0 < X.tn := by have := HN.out.2.2.2.1; omega
  have hnf : 0 < X.fn := by have := HN.out.2.2.2.2.2; omega
  have HRn : Hid (RI (w3.alloc (.cells #[.int .i64 1, .int .i64 2, .int .i64 3, .int .i64 4, .int .i64 7, .int .i64 8, .int .i64 9, .int .i64 10, .int .i64 11, .int .i64 12, .int .i64 13, .int .i64 14] 3 (0, 0))) (some ⟨w3.heap.size, 0, none⟩) kinds12 ∧ RI (w3.alloc (.cells #[.int .i64 1, .int .i64 2, .int .i64 3, .int .i64 4, .int .i64 7, .int .i64 8, .int .i64 9, .int .i64 10, .int .i64 11, .int .i64 12, .int .i64 13, .int .i64 14] 3 (0, 0))) (some ⟨g, 0, none⟩) kinds12) := Lib.hid ⟨ri_new w3 3, H3.out.2.1.below ((Below.refl _ _).alloc (Nat.le_refl _) _)⟩
  have hl12 : Hid (kinds12.length = 12) := Lib.hid rfl
  go_upto_region 10 with (first
    | (go_at_call 29; (with_reducible refine (sameints_yes (some ⟨g, 0, none⟩) (some ⟨w3.heap.size, 0, none⟩) 12 12 12 kinds12 hl12 (by decide) _ HRn.out.2 HRn.out.1).mono ?_); rintro e w5 ⟨rfl, hb⟩; have H5 : Hid (SJ w1 w5 L X st0 ∧ RI w5 (some ⟨g, 0, none⟩) kinds12) := (Lib.hid (by have hb5 : Below w3.heap.size w3 w5 := (Below.trans ((Below.refl w3.heap.size w3).alloc (Nat.le_refl _) _) (hb.mono (by simp))); exact ⟨H3.out.1.below hb5, H3.out.2.1.below hb5⟩)); clear hb))
  clear hl12
  go_upto_region 12 with (first
    | (go_at_call 14; (with_reducible refine (HCR.out _).mono ?_); rintro e wz ⟨rfl, rfl⟩))
  rw [hA.out, d20]
  have sc := H5.out.1.b.c3
  have HgN := Lib.hid H3.out.2.2.1
  have HEJ : Hid (∀ W D, SJ w1 W L X D → ErrsAt vs vr W) := Lib.hid (fun W D h => HE.out.below (HB1.out.trans (h.k.bel.mono HB1.out.size)))
  go_upto_region 16 with (first
    | (go_at_call 12; (with_reducible refine (sj_root2 hnb _ H5.out.1).mono ?_); rintro e w6 ⟨rfl, hj, hu⟩; have H6 : Hid (SJ w1 w6 L X jD1 ∧ RI w6 (some ⟨g, 0, none⟩) kinds12) := (Lib.hid ⟨hj, H5.out.2.up (hu.hi HT2.out.1) HgN.out⟩); clear hj hu sc; have sc := H6.out.1.b.c3)
    | (go_at_call 15; (with_reducible refine (sj_node2 hna vs vr _ (HEJ.out _ _ H6.out.1) H6.out.1).mono ?_); rintro e w7 ⟨rfl, hj, hu⟩; have H7 : Hid (SJ w1 w7 L X jD2 ∧ RI w7 (some ⟨g, 0, none⟩) kinds12) := (Lib.hid ⟨hj, H6.out.2.up (hu.hi HT2.out.1) HgN.out⟩); clear hj hu sc; have sc := H7.out.1.b.c3)
    | (go_at_call 17; (with_reducible refine (sj_page2 hnp _ H7.out.1).mono ?_); rintro e w8 ⟨rfl, hj, hu⟩; have H8 : Hid (SJ w1 w8 L X jD3 ∧ RI w8 (some ⟨g, 0, none⟩) kinds12) := (Lib.hid ⟨hj, H7.out.2.up (hu.hi HT2.out.1) HgN.out⟩); clear hj hu sc; have sc := H8.out.1.b.c3)
    | (go_at_call 18; (with_reducible refine (sj_domain2 hnd _ H8.out.1).mono ?_); rintro e w9 ⟨rfl, hj, hu⟩; have H9 : Hid (SK w1 w9 L X jD4 (fun _ => false) (fun _ => 0) (fun _ => 0) (fun _ => false) (fun _ => false) (fun _ _ _ => 0) ∧ RI w9 (some ⟨g, 0, none⟩) kinds12) := (Lib.hid ⟨hj.sk ⟨hnt, hnf, hnd⟩, H8.out.2.up (hu.hi HT2.out.1) HgN.out⟩); clear hj hu sc; have sc := H9.out.1.b.c2))
  go_upto_region 17 with (first
    | (go_at_call 19; (with_reducible refine (sk_meter2 _ H9.out.1).mono ?_); rintro e w10 ⟨rfl, hj, hu⟩; have H10 : Hid (SK w1 w10 L X jD4 kT kP kK (fun _ => false) (fun _ => false) (fun _ _ _ => 0) ∧ RI w10 (some ⟨g, 0, none⟩) kinds12) := (Lib.hid ⟨hj, H9.out.2.up (UpT.pb hu HT2.out.2.1 HT2.out.2.2.1) HgN.out⟩); clear hj hu sc; have sc := H10.out.1.b.c4))
  go_upto_region 18 with (first
    | (go_at_call 30; (with_reducible refine (sk_maker2 _ H10.out.1).mono ?_); rintro e w11 ⟨rfl, hj, hu⟩; have H11 : Hid (SF w1 w11 L X kS0 ∧ RI w11 (some ⟨g, 0, none⟩) kinds12) := (Lib.hid ⟨⟨hj, hna, hnp, hnb⟩, H10.out.2.up (UpT.pb hu HT2.out.2.2.2.1 HT2.out.2.2.2.2) HgN.out⟩); clear hj hu sc))
  have HP11 : Hid (Below w.heap.size w w11) := Lib.hid (HB1.out.trans (H11.out.1.sk.k.bel.mono HB1.out.size))
  have HE11 := Lib.hid (HE.out.below HP11.out)
  have HU4 := Lib.hid (us4 H11.out.1)
  have hin : Hid (kinds12.contains 9 = true) := Lib.hid (by decide)
  go_upto_region 19 with (first
    | (go_at_call 16; (with_reducible refine (kmaker_no _ H11.out.1).mono ?_); rintro e w12 ⟨rfl, hb⟩; have HB12 : Hid (Below w11.heap.size w11 w12) := Lib.hid hb; clear hb))
  generalize hg : World.alloc w12 _ = w13
  obtain ⟨kB, hkB⟩ : ∃ kB, kB = w12.heap.size := ⟨_, rfl⟩
  have H13a : Hid (Below w11.heap.size w11 w13 ∧ KeyC w13 kB 0 0 0 0 0 ∧ w11.heap.size ≤ kB) := Lib.hid (by rw [← hg, hkB]; exact ⟨HB12.out.alloc HB12.out.size _, KeyC.new _ _ _ _ _ _ _, HB12.out.size⟩)
  rw [← hkB]
  clear hg hkB
  have HF13 := Lib.hid (H11.out.1.below H13a.out.1)
  have hff : X.fR < w11.heap.size ∧ X.fG < w11.heap.size := ⟨H11.out.1.sk.f.ar.lt.2, (H11.out.1.sk.f.row.lt X.fG rfl).2⟩
  have sc := HF13.out.sk.b.c4
  go_upto_region 23 with (first
    | (go_at_call 31; (with_reducible refine (sf_seal2 _ HF13.out).mono ?_); rintro e ws ⟨rfl, hj, hu⟩; have HZs := Lib.hid hu.2.2.2.1; have HFs : Hid (SF w1 ws L X kS1 ∧ RI ws (some ⟨g, 0, none⟩) kinds12 ∧ KeyC ws kB 0 0 0 0 0) := (Lib.hid ⟨hj, (H11.out.2.below H13a.out.1).up (UpT.pb hu HT2.out.2.2.2.1 HT2.out.2.2.2.2) HgN.out, key_same2 H13a.out.2.1 hu.2.2.2.1 (hu.2.2.2.2 kB H13a.out.2.1.lt (by have := H13a.out.2.2; omega) (by have := H13a.out.2.2; omega))⟩); clear hj hu sc))
  have HPs : Hid (Below w.heap.size w ws) := Lib.hid (HB1.out.trans (HFs.out.1.sk.k.bel.mono HB1.out.size))
  have HEs := Lib.hid (HE.out.below HPs.out)
  have HKH := Lib.hid (kh_maker (A + 20) a2 ho vs vr ws HEs.out HFs.out.1)
  have HKL := Lib.hid HFs.out.2.2.lt
  go_upto_region 24 with (first
    | (go_at_call 16; (with_reducible refine HKH.out.keyAt.mono ?_); rintro e wt ⟨rfl, hb⟩; have HBt : Hid (Below ws.heap.size ws wt ∧ KeyC wt kB 0 0 0 0 0) := Lib.hid ⟨hb, HFs.out.2.2.below hb⟩; clear hb; have z0 := HBt.out.2.c0; have z1 := HBt.out.2.c1; have z2 := HBt.out.2.c2; have z3 := HBt.out.2.c3; have z4 := HBt.out.2.c4; have f0 := HBt.out.2.fr 0; have f1 := HBt.out.2.fr 1; have f2 := HBt.out.2.fr 2; have f3 := HBt.out.2.fr 3; have f4 := HBt.out.2.fr 4))
  obtain ⟨wS, hS⟩ : ∃ wS, wS = (((((wt.setCell ⟨kB, 0, none⟩ (.int .i64 9)).setCell ⟨kB, 1, none⟩ (.int .i64 0)).setCell ⟨kB, 2, none⟩ (.int .i64 0)).setCell ⟨kB, 3, none⟩ (.int .i64 0)).setCell ⟨kB, 4, none⟩ (.int .u32 0)) := ⟨_, rfl⟩
  rw [← hS]
  clear z0 z1 z2 z3 z4 f0 f1 f2 f3 f4
  have HNN : Hid (Below w11.heap.size ws wS) := Lib.hid (by
    have hk := H13a.out.2.2
    have h0 : Below w11.heap.size ws wt := HBt.out.1.mono (Nat.le_trans H13a.out.1.size HZs.out)
    rw [hS]
    exact ((((h0.setCell hk _).setCell hk _).setCell hk _).setCell hk _).setCell hk _)
  have HFS : Hid (SF w1 wS L X kS1) := Lib.hid (HFs.out.1.low HNN.out H11.out.1.sk.k.tw H11.out.1.sk.b.lt H11.out.1.sk.t.low2.2.2.2.2 ⟨H11.out.1.sk.f.pl, H11.out.1.sk.f.ar.pl, H11.out.1.sk.f.ar.lt.2, (H11.out.1.sk.f.row.lt X.fG rfl).2⟩)
  have HRS : Hid (RI wS (some ⟨g, 0, none⟩) kinds12) := Lib.hid (HFs.out.2.1.low HNN.out (by
    obtain ⟨ad, h1, h2, _⟩ := H11.out.2 0 (by decide)
    have e : ad = ⟨g, 0, none⟩ := by simpa using h1.symm
    subst e
    exact h2))
  have HKS : Hid (KeyC wS kB 9 0 0 0 0) := Lib.hid (by rw [hS]; exact HBt.out.2.set 9 0 0 0 0)
  have HPS : Hid (Below w.heap.size w wS) := Lib.hid (HB1.out.trans (HFS.out.sk.k.bel.mono HB1.out.size))
  have HES := Lib.hid (HE.out.below HPS.out)
  have HKT := Lib.hid (kh_maker (A + 20) a2 ho vs vr wS HES.out HFS.out)
  clear hS HKH
  have H13 : Hid (Below wS.heap.size wS wS ∧ KeyC wS kB 9 0 0 0 0) := Lib.hid ⟨Below.refl _ _, HKS.out⟩
  obtain ⟨q0, q1, q2, q3, q4⟩ := ofive H13.out.2
  have hz2 : (nB 2).toArray.size = 19 := rfl
  have hz1 : (nB 1).toArray.size = 19 := rfl
  go_upto_region 24 with fail
  go_upto_region 25 with (first
    | (go_at_call 32; (with_reducible refine (HKT.out.ans _ H13.out.1).mono ?_); rintro e w14 ⟨rfl, hb⟩; have HB14 : Hid (Below wS.heap.size wS w14) := Lib.hid (H13.out.1.trans (hb.mono H13.out.1.size)); clear hb)
    | (refine wpList_store_mid (by rfl) _ _ _ (by rfl) w14.heap.size 0 (nB 2).toArray (by rfl) (by rfl) (by rw [hz2]; exact nthere_new _ _ 19 (by rfl) _) (by rw [hz2]; exact infoNote) (all_one (nB_one _)) ?_))
  generalize hg : World.setCells _ w14.heap.size 0 _ = w15; obtain ⟨N0, hN⟩ : ∃ N, N = w14.heap.size := ⟨_, rfl⟩; have HN0 : Hid (Below w14.heap.size w14 w15 ∧ World.rangeAt w15 N0 0 (nB 2) ∧ N0 < w15.heap.size) := (Lib.hid (by have hb : Below w14.heap.size w14 w15 := (by rw [← hg]; exact nbelow_cells ((Below.refl w14.heap.size w14).alloc (Nat.le_refl _) _) (Nat.le_refl _) _ _); have hr : World.rangeAt w15 N0 0 (nB 2) := (by rw [← hg, hN]; exact World.rangeAt_setCells_same _ w14.heap.size 0 (nB 2) (by rw [nB_len]; exact nthere_new _ _ 19 (by rfl) _)); exact ⟨hb, hr, cell_lt (CallC.cell hr 0 _ rfl)⟩)); rw [← hN]; clear hg hN
  have H15 : Hid (Below wS.heap.size wS w15) := Lib.hid (HB14.out.trans (HN0.out.1.mono HB14.out.size))
  have hl12 : Hid (kinds12.length = 12) := Lib.hid rfl
  go_upto_region 28 with (first
    | (go_at_call 33; (with_reducible refine (among_is (some ⟨g, 0, none⟩) 12 12 kinds12 hl12 (by decide) 9 true hin _ (HRS.out.below H15.out)).mono ?_); rintro e w16 ⟨rfl, hb⟩; have HB16 : Hid (Below w15.heap.size w15 w16 ∧ Below wS.heap.size wS w16) := Lib.hid ⟨hb, H15.out.trans (hb.mono H15.out.size)⟩; clear hb)
    | (go_at_call 32; (with_reducible refine (ans_dead vs vr wS HES.out HFS.out _ HB16.out.2).mono ?_); rintro e w17 ⟨rfl, hb⟩; have HB17 : Hid (Below w15.heap.size w15 w17 ∧ Below wS.heap.size wS w17) := Lib.hid ⟨HB16.out.1.trans (hb.mono HB16.out.1.size), HB16.out.2.trans (hb.mono HB16.out.2.size)⟩; clear hb)
    | (refine wpList_store_mid (by rfl) _ _ _ (by rfl) w17.heap.size 0 (nB 1).toArray (by rfl) (by rfl) (by rw [hz1]; exact nthere_new _ _ 19 (by rfl) _) (by rw [hz1]; exact infoNote) (all_one (nB_one _)) ?_))
  generalize hg : World.setCells _ w17.heap.size 0 _ = w18; obtain ⟨N1, hN⟩ : ∃ N, N = w17.heap.size := ⟨_, rfl⟩; have HN1 : Hid (Below w17.heap.size w17 w18 ∧ World.rangeAt w18 N1 0 (nB 1) ∧ N1 < w18.heap.size) := (Lib.hid (by have hb : Below w17.heap.size w17 w18 := (by rw [← hg]; exact nbelow_cells ((Below.refl w17.heap.size w17).alloc (Nat.le_refl _) _) (Nat.le_refl _) _ _); have hr : World.rangeAt w18 N1 0 (nB 1) := (by rw [← hg, hN]; exact World.rangeAt_setCells_same _ w17.heap.size 0 (nB 1) (by rw [nB_len]; exact nthere_new _ _ 19 (by rfl) _)); exact ⟨hb, hr, cell_lt (CallC.cell hr 0 _ rfl)⟩)); rw [← hN]; clear hg hN
  have H18 : Hid (Below wS.heap.size wS w18 ∧ Below w15.heap.size w15 w18) := Lib.hid ⟨HB17.out.2.trans (HN1.out.1.mono HB17.out.2.size), HB17.out.1.trans (HN1.out.1.mono HB17.out.1.size)⟩
  have c0 := CallC.cell (range_below HN0.out.2.1 H18.out.2 HN0.out.2.2) 0 _ rfl
  have c1 := CallC.cell HN1.out.2.1 0 _ rfl
  have sc := (HFS.out.below H18.out.1).sk.b.c3
  go_wp2_with (first
    | (go_at_call 34; (with_reducible refine (used3 (.inr rfl) _ (HFS.out.below H18.out.1) HU4.out).mono ?_); rintro e wz ⟨rfl, rfl⟩))
  go_ret
  exact ⟨rfl, HPS.out.trans (H18.out.1.mono HPS.out.size)⟩
end Go.Proofs.YtncopdhhchmpeaaGreatDoor
namespace Go.Proofs.YtncopdhhchmpeaaGreatDoor
open Go.ChangeShapes Go.WideShapes Go.ChangeAt Go.RowKit
set_option linter.unusedVariables false
set_option linter.unusedSimpArgs false
section
variable {cs nt : List Value} {s N : Nat} {k1 k2 k3 k4 o x : Int} {Q : World → Prop}
set_option maxRecDepth 100000 in
set_option maxHeartbeats 2000000 in
theorem oanswer_judge2 (hnl : nt.length = 19) (hn1 : ∀ v, v ∈ nt → v.oneCell' = true) (hc : Hid (CallC cs s 12 k1 k2 k3 k4 o x)) (w : World) (hN : N ≤ w.heap.size) (hQ : ∀ w1 w2, Q w1 → Below N w1 w2 → Q w2)
    (hm : ∀ W, Below w.heap.size w W → Calls Tryz.prog 121 #[(.agg cs.toArray)] W fun e w' => e = .returned (.agg nt.toArray) ∧ Q w' ∧ UpT N W w') :
    Calls Tryz.prog 81 #[(.agg cs.toArray)] w fun e w' => e = .returned (.agg nt.toArray) ∧ Q w' ∧ UpT N w w' := by
  have HQ := Lib.hid hQ
  have HM := Lib.hid hm
  have hsz : nt.toArray.size = 19 := by simp [hnl]
  clear hQ hm
  go_enter Tryz.func81, Tryz.ntmps81; go_upto_region 1 with fail; generalize hA : World.alloc w _ = wK; obtain ⟨C, hC⟩ : ∃ C, C = w.heap.size := ⟨_, rfl⟩; have HK : Hid (Below w.heap.size w wK ∧ wK.rangeAt C 0 cs ∧ wK.heap.size = C + 1) := Lib.hid (by rw [← hA, hC]; exact ⟨(Below.refl _ _).alloc (Nat.le_refl _) _, cbox _ _ _, by simp⟩); have HCl : Hid (w.heap.size ≤ C) := Lib.hid (by rw [hC]; exact Nat.le_refl _); rw [← hC]; clear hA hC; generalize hA : World.alloc wK _ = wA; obtain ⟨R, hR⟩ : ∃ R, R = C + 1 := ⟨_, rfl⟩; have HA : Hid (Below w.heap.size w wA ∧ wA.rangeAt C 0 cs ∧ World.there wA R 0 19 ∧ C < R ∧ R < wA.heap.size) := Lib.hid (by rw [← hA, hR, ← HK.out.2.2]; exact ⟨HK.out.1.alloc HK.out.1.size _, range_below HK.out.2.1 ((Below.refl _ _).alloc (Nat.le_refl _) _) (by have := HK.out.2.2; omega), nthere_new _ _ 19 (by rfl) _, by have := HK.out.2.2; omega, by simp⟩); rw [← hR]; clear hA hR
  have q1 := CallC.cell HA.out.2.1 1 _ hc.out.c1
  go_upto_region 21 with fail
  go_wp2_with (first
    | (refine wpList_load_mid (by rfl) _ _ (by rfl) C 0 (by rfl) cs _ HA.out.2.1 Tryz.underlying129 rfl (by rw [hc.out.len]; exact infoCall) ?_)
    | (go_at_call 121; (with_reducible refine (HM.out _ HA.out.1).mono ?_); rintro e w1 ⟨rfl, hq, hu⟩; have H1 := Lib.hid hq; have HU1 := Lib.hid hu; have HT1 : Hid (World.there w1 R 0 19) := Lib.hid (nthere_same HA.out.2.2.1 (hu.2 R (by have := HA.out.2.2.2.1; have := HCl.out; omega) HA.out.2.2.2.2)); clear hq hu)
    | (refine wpList_store_mid (by rfl) _ _ _ (by rfl) R 0 nt.toArray (by rfl) (by rfl) (by rw [hsz]; exact HT1.out) (by rw [hsz]; exact infoNote) (all_one hn1) ?_))
  have hRn : w.heap.size ≤ R := by have := HA.out.2.2.2.1; have := HCl.out; omega
  have HS : Hid (Below w.heap.size w1 (w1.setCells R 0 nt.toArray.toList) ∧ (w1.setCells R 0 nt.toArray.toList).rangeAt R 0 nt) := Lib.hid ⟨nbelow_cells (Below.refl _ _) hRn _ _, World.rangeAt_setCells_same w1 R 0 nt (by rw [hnl]; exact HT1.out)⟩
  have hld := nload hnl HS.out.2
  refine bodyPost_ret (v := (.agg nt.toArray)) (by simp [results, Tryz.results81, Act.put, asAddr, hld]) rfl ⟨rfl, HQ.out _ _ H1.out (HS.out.1.mono hN), ((UpT.below HA.out.1).trans HU1.out).low HS.out.1 (Nat.le_refl _)⟩
end
section
variable {cs : List Value} {s : Nat} {o m0 m1 m2 m3 m4 n0 n1 n2 n3 n4 : Int}
set_option maxRecDepth 100000 in
set_option maxHeartbeats 4000000 in
theorem bad_judge (hc : Hid (CallJ cs s o m0 m1 m2 m3 m4 n0 n1 n2 n3 n4)) (ho : 20 ≤ o) (w : World) : Calls Tryz.prog 121 #[(.agg cs.toArray)] w fun e w' => e = .returned (Value.agg #[.int .u32 2, .int .u32 0, .int .u32 0, .int .u32 0, .int .i64 0, .int .i64 0, .int .i64 0, .int .i64 0, .int .u32 0, .int .i64 0, .int .i64 0, .int .i64 0, .int .i64 0, .int .u32 0, .int .i64 0, .int .i64 0, .int .i64 0, .int .i64 0, .int .u32 0]) ∧ Below w.heap.size w w' := by
  have e0 : (o == 0) = false := (by rw [beq_eq_false_iff_ne]; omega); have e1 : (o == 1) = false := (by rw [beq_eq_false_iff_ne]; omega); have e2 : (o == 2) = false := (by rw [beq_eq_false_iff_ne]; omega); have e3 : (o == 3) = false := (by rw [beq_eq_false_iff_ne]; omega); have e4 : (o == 4) = false := (by rw [beq_eq_false_iff_ne]; omega); have e5 : (o == 5) = false := (by rw [beq_eq_false_iff_ne]; omega); have e6 : (o == 6) = false := (by rw [beq_eq_false_iff_ne]; omega); have e7 : (o == 7) = false := (by rw [beq_eq_false_iff_ne]; omega); have e8 : (o == 8) = false := (by rw [beq_eq_false_iff_ne]; omega); have e9 : (o == 9) = false := (by rw [beq_eq_false_iff_ne]; omega); have en : (o != 0) = true := (by rw [bne_iff_ne]; omega)
  go_enter Tryz.func121, Tryz.ntmps121; go_upto_region 1 with fail; generalize hA : World.alloc w _ = wK; obtain ⟨C, hC⟩ : ∃ C, C = w.heap.size := ⟨_, rfl⟩; have HK : Hid (Below w.heap.size w wK ∧ wK.rangeAt C 0 cs ∧ wK.heap.size = C + 1) := Lib.hid (by rw [← hA, hC]; exact ⟨(Below.refl _ _).alloc (Nat.le_refl _) _, cbox _ _ _, by simp⟩); have HCl : Hid (w.heap.size ≤ C) := Lib.hid (by rw [hC]; exact Nat.le_refl _); rw [← hC]; clear hA hC; generalize hA : World.alloc wK _ = wA; obtain ⟨R, hR⟩ : ∃ R, R = C + 1 := ⟨_, rfl⟩; have HA : Hid (Below w.heap.size w wA ∧ wA.rangeAt C 0 cs ∧ World.there wA R 0 19 ∧ C < R ∧ R < wA.heap.size) := Lib.hid (by rw [← hA, hR, ← HK.out.2.2]; exact ⟨HK.out.1.alloc HK.out.1.size _, range_below HK.out.2.1 ((Below.refl _ _).alloc (Nat.le_refl _) _) (by have := HK.out.2.2; omega), nthere_new _ _ 19 (by rfl) _, by have := HK.out.2.2; omega, by simp⟩); rw [← hR]; clear hA hR; go_upto_region 2 with (first | (refine wpList_load_mid (by rfl) _ _ (by rfl) C 0 (by rfl) cs _ HA.out.2.1 Tryz.underlying129 rfl (by rw [hc.out.len]; exact infoCall) ?_) | (go_at_call 139; (with_reducible refine (osent_is hc _).mono ?_); rintro e w1 ⟨rfl, hb⟩; have HB1 : Hid (Below wA.heap.size wA w1) := Lib.hid hb; clear hb)); generalize hA : World.alloc w1 _ = w2; obtain ⟨J, hJ⟩ : ∃ J, J = w1.heap.size := ⟨_, rfl⟩; have H2 : Hid (Below wA.heap.size wA w2 ∧ KeyC w2 J m0 m1 m2 m3 m4 ∧ w2.rangeAt C 0 cs ∧ World.there w2 R 0 19 ∧ R < w2.heap.size) := Lib.hid (by have hb2 : Below wA.heap.size wA w2 := (by rw [← hA]; exact HB1.out.alloc HB1.out.size _); exact ⟨hb2, by rw [← hA, hJ]; exact KeyC.new _ _ _ _ _ _ _, range_below HA.out.2.1 hb2 (Nat.lt_trans HA.out.2.2.2.1 HA.out.2.2.2.2), nthere_below HA.out.2.2.1 hb2 HA.out.2.2.2.2, Nat.lt_of_lt_of_le HA.out.2.2.2.2 hb2.size⟩); have HJR : Hid (wA.heap.size ≤ J) := Lib.hid (by rw [hJ]; exact HB1.out.size); rw [← hJ]; clear hA hJ; have g6 := CallC.cell H2.out.2.2.1 6 _ hc.out.c6; obtain ⟨q0, q1, q2, q3, q4⟩ := ofive H2.out.2.1
  go_wp2_with (first
    | (go_at_call 124; (with_reducible refine (ofails_is 2 (by decide) (by decide) _).mono ?_); rintro e w4 ⟨rfl, hb⟩; have HB4 : Hid (Below wA.heap.size wA w4) := Lib.hid (H2.out.1.trans (hb.mono H2.out.1.size)); have HT := Lib.hid (nthere_below HA.out.2.2.1 HB4.out HA.out.2.2.2.2); clear hb)
    | (refine wpList_store_mid (by rfl) _ _ _ (by rfl) R 0 ([.int .u32 2, .int .u32 0, .int .u32 0, .int .u32 0, .int .i64 0, .int .i64 0, .int .i64 0, .int .i64 0, .int .u32 0, .int .i64 0, .int .i64 0, .int .i64 0, .int .i64 0, .int .u32 0, .int .i64 0, .int .i64 0, .int .i64 0, .int .i64 0, .int .u32 0] : List Value).toArray (by rfl) (by rfl) HT.out infoNote (note_one _ _ _ _ _ _ _ _ _ _ _ _ _ _ _ _ _ _ _) ?_))
  generalize hS : World.setCells w4 _ _ _ = wS; have hRn : w.heap.size ≤ R := (by have := HA.out.2.2.2.1; have := HCl.out; omega); have HS : Hid (Below w.heap.size w wS ∧ wS.rangeAt R 0 [.int .u32 2, .int .u32 0, .int .u32 0, .int .u32 0, .int .i64 0, .int .i64 0, .int .i64 0, .int .i64 0, .int .u32 0, .int .i64 0, .int .i64 0, .int .i64 0, .int .i64 0, .int .u32 0, .int .i64 0, .int .i64 0, .int .i64 0, .int .i64 0, .int .u32 0]) := Lib.hid (by rw [← hS]; exact ⟨nbelow_cells (HA.out.1.trans ((HB4).out.mono HA.out.1.size)) hRn _ _, World.rangeAt_setCells_same w4 R 0 [.int .u32 2, .int .u32 0, .int .u32 0, .int .u32 0, .int .i64 0, .int .i64 0, .int .i64 0, .int .i64 0, .int .u32 0, .int .i64 0, .int .i64 0, .int .i64 0, .int .i64 0, .int .u32 0, .int .i64 0, .int .i64 0, .int .i64 0, .int .i64 0, .int .u32 0] HT.out⟩); have hld := nload rfl HS.out.2; refine bodyPost_ret (v := (Value.agg #[.int .u32 2, .int .u32 0, .int .u32 0, .int .u32 0, .int .i64 0, .int .i64 0, .int .i64 0, .int .i64 0, .int .u32 0, .int .i64 0, .int .i64 0, .int .i64 0, .int .i64 0, .int .u32 0, .int .i64 0, .int .i64 0, .int .i64 0, .int .i64 0, .int .u32 0])) (by simp [results, Tryz.results121, Act.put, asAddr, hld]) rfl ⟨rfl, HS.out.1⟩
end
theorem ans_genj (s : Nat) (k0 k1 k2 k3 k4 : Int) (o x r : Int) (h5 : (k0 == 5) = false) (h6 : (k0 == 6) = false) (vs vr : Value) (w : World) (hE : ErrsAt vs vr w)
    (hs : ∀ W, Below w.heap.size w W → Calls Tryz.prog 23 #[.pointer (some ⟨s, 0, none⟩), (Value.agg #[.int .i64 k0, .int .i64 k1, .int .i64 k2, .int .i64 k3, .int .u32 k4])] W fun e w' => e = .returned (Value.agg #[.int .i64 k0, .int .i64 k1, .int .i64 k2, .int .i64 k3, .int .u32 k4]) ∧ Below W.heap.size W w')
    (ha : ∀ cs, Hid (CallC cs s k0 k1 k2 k3 k4 o x) → Hid (CallJ cs s o 0 0 0 0 0 0 0 0 0 0) → ∀ W, Below w.heap.size w W → Calls Tryz.prog 81 #[(.agg cs.toArray)] W fun e w' => e = .returned (.agg (nB r).toArray) ∧ Below W.heap.size W w') (W : World) (hW : Below w.heap.size w W) :
    Calls Tryz.prog 32 #[.pointer (some ⟨s, 0, none⟩), (Value.agg #[.int .i64 k0, .int .i64 k1, .int .i64 k2, .int .i64 k3, .int .u32 k4]), .agg #[.int .u32 o, .int .u32 x, .int .u32 x, .int .u32 x, .int .i64 0, .int .i64 0, .int .i64 0, .int .i64 0, .int .u32 0, .int .i64 0, .int .i64 0, .int .i64 0, .int .i64 0, .int .u32 0, .int .i64 0, .int .i64 0, .int .i64 0, .int .i64 0, .int .u32 0]] W fun e w' => e = .returned (.tuple #[.agg (nB r).toArray, .bool true]) ∧ Below W.heap.size W w' := by
  refine (oanswer (Q := fun w' => Below W.heap.size W w') (N := W.heap.size) (nB_len r) (nB_one r) s k0 k1 k2 k3 k4 k0 k1 k2 k3 k4 o x x x 0 0 0 0 0 0 0 0 0 0 0 0 0 0 0 0 0 0 0 0 0 0 0 0 0 0 0 0 0 0 h5 h6 W (Nat.le_refl _) (fun w1 w2 h1 h2 => h1.trans h2) ?_ ?_ ?_ ?_ ?_).mono (fun e w' h9 => ⟨h9.1, h9.2.1⟩)
  · exact fun V hV => hs V (hW.trans (hV.mono hW.size))
  · exact fun V hV => oseen_void s vs vr V (hE.below (hW.trans (hV.mono hW.size)))
  · exact fun V hV => oseen_void s vs vr V (hE.below (hW.trans (hV.mono hW.size)))
  · exact fun V hV => oseen_void s vs vr V (hE.below (hW.trans (hV.mono hW.size)))
  · exact fun V hV => (ha _ (Lib.hid (c25_call s k0 k1 k2 k3 k4 o x x x 0 0 0 0 0 0 0 0 0 0 0 0 0 0 0)) (Lib.hid (c25_j s k0 k1 k2 k3 k4 o x x x 0 0 0 0 0 0 0 0 0 0 0 0 0 0 0)) V (hW.trans (hV.mono hW.size))).mono (fun e w' h9 => ⟨h9.1, hV.trans (h9.2.mono hV.size), UpT.below h9.2⟩)
theorem kh_judge (o x : Int) (ho : 20 ≤ o) (s : Nat) (vs vr : Value) (w : World) (hE : ErrsAt vs vr w) : KH w s 12 12 0 0 0 0 o x 2 :=
  ⟨fun W hW => skey_plain s 12 0 (by decide) W, ans_genj s 12 0 0 0 0 o x 2 (by decide) (by decide) vs vr w hE (fun W hW => oseen_live 12 0 0 0 0 W (fun V hV => nvalid_ok 12 0 0 0 0 (Lib.hid (by decide)) vs vr V (hE.below (hW.trans (hV.mono hW.size)))) (fun V hV => (slive_plain s 12 0 0 0 0 (by decide) V))) (fun cs hc hj W hW => (oanswer_judge2 (Q := fun w' => Below W.heap.size W w') (nB_len 2) (nB_one 2) hc W (Nat.le_refl _) (fun w1 w2 h1 h2 => h1.trans h2) (fun V hV => (bad_judge hj ho V).mono (fun e w' h9 => ⟨h9.1, hV.trans (h9.2.mono hV.size), UpT.below h9.2⟩))).mono (fun e w' h9 => ⟨h9.1, h9.2.1⟩))⟩
theorem walk_ObjectKinds (a0 : Int) (a1 : Int) (a2 : Int) (w : World) (w0 : (Lit.int .i64 a0).wf = true) (w1 : (Lit.int .u32 a1).wf = true) (w2 : (Lit.int .u32 a2).wf = true) (hL : laidMetH Tryz.prog Rows.objectKindsRow.laid w) :
    Calls Tryz.prog 4 #[.int .i64 a0, .int .u32 a1, .int .u32 a2] w fun e w' => e = .returned (.bool true) ∧ Below w.heap.size w w' := by
  obtain ⟨vs, vr, hE⟩ := (errs2 hL ⟨_, by repeat (first | exact List.Mem.head _ | apply List.Mem.tail)⟩ ⟨_, by repeat (first | exact List.Mem.head _ | apply List.Mem.tail)⟩)
  clear hL
  obtain ⟨R, hR, CR⟩ := number_nat a0 15 15 rfl (by decide) (by decide) (fit64 w0).1 (fit64 w0).2
  have b1 := fit32 w1
  have b2 := fit32 w2
  have m1 := Int.emod_lt_of_pos a1 (show (0 : Int) < 100 by decide)
  have n1 := Int.emod_nonneg a1 (show (100 : Int) ≠ 0 by decide)
  have hA : Hid (a1.tmod 100 = a1 % 100) := Lib.hid (Int.tmod_eq_emod_of_nonneg b1.1)
  have ho : 20 ≤ a1 % 100 + 20 := by omega
  obtain rfl | rfl | rfl | rfl | rfl | rfl | rfl | rfl | rfl | rfl | rfl | rfl | rfl | rfl | rfl : R = 0 ∨ R = 1 ∨ R = 2 ∨ R = 3 ∨ R = 4 ∨ R = 5 ∨ R = 6 ∨ R = 7 ∨ R = 8 ∨ R = 9 ∨ R = 10 ∨ R = 11 ∨ R = 12 ∨ R = 13 ∨ R = 14 := by omega
  · exact kinds_out a0 a1 a2 (a1 % 100) 0 0 0 0 0 0 (by decide) (by decide) (Lib.hid (by decide)) hA (by omega) CR vs vr w hE (Lib.hid (fun v0 v L X h hE => kh_void 0 (.inl rfl) X.s (a1 % 100 + 20) a2 vs vr v hE))
  · exact kinds_one a0 a1 a2 (a1 % 100) hA (by omega) b2 CR vs vr w hE
  · exact kinds_in a0 a1 a2 (a1 % 100) 2 2 0 0 0 0 (by decide) (by decide) (Lib.hid (by decide)) hA (by omega) CR vs vr w hE (Lib.hid (fun v0 v L X h hE => (kh_node (a1 % 100 + 20) a2 ho vs vr v hE h)))
  · exact kinds_in a0 a1 a2 (a1 % 100) 3 3 0 0 0 0 (by decide) (by decide) (Lib.hid (by decide)) hA (by omega) CR vs vr w hE (Lib.hid (fun v0 v L X h hE => (kh_page (a1 % 100 + 20) a2 ho vs vr v hE h)))
  · exact kinds_in a0 a1 a2 (a1 % 100) 4 4 0 0 0 0 (by decide) (by decide) (Lib.hid (by decide)) hA (by omega) CR vs vr w hE (Lib.hid (fun v0 v L X h hE => (kh_domain (a1 % 100 + 20) a2 ho vs vr v hE h)))
  · exact kinds_out a0 a1 a2 (a1 % 100) 5 0 0 0 0 0 (by decide) (by decide) (Lib.hid (by decide)) hA (by omega) CR vs vr w hE (Lib.hid (fun v0 v L X h hE => kh_void 5 (.inr (.inr rfl)) X.s (a1 % 100 + 20) a2 vs vr v hE))
  · exact kinds_out a0 a1 a2 (a1 % 100) 6 0 0 0 0 0 (by decide) (by decide) (Lib.hid (by decide)) hA (by omega) CR vs vr w hE (Lib.hid (fun v0 v L X h hE => kh_resume (a1 % 100 + 20) a2 vs vr v hE h))
  · exact kinds_in a0 a1 a2 (a1 % 100) 7 7 0 0 0 0 (by decide) (by decide) (Lib.hid (by decide)) hA (by omega) CR vs vr w hE (Lib.hid (fun v0 v L X h hE => (kh_meter (a1 % 100 + 20) a2 ho vs vr v hE h)))
  · exact kinds_in a0 a1 a2 (a1 % 100) 8 8 0 0 0 0 (by decide) (by decide) (Lib.hid (by decide)) hA (by omega) CR vs vr w hE (Lib.hid (fun v0 v L X h hE => (kh_bank (a1 % 100 + 20) a2 ho vs vr v hE h)))
  · exact kinds_nine a0 a1 a2 (a1 % 100) hA (by omega) CR vs vr w hE
  · exact kinds_in a0 a1 a2 (a1 % 100) 10 10 0 0 0 0 (by decide) (by decide) (Lib.hid (by decide)) hA (by omega) CR vs vr w hE (Lib.hid (fun v0 v L X h hE => (kh_builder (a1 % 100 + 20) a2 ho vs vr v hE h)))
  · exact kinds_in a0 a1 a2 (a1 % 100) 11 11 0 0 0 0 (by decide) (by decide) (Lib.hid (by decide)) hA (by omega) CR vs vr w hE (Lib.hid (fun v0 v L X h hE => (kh_creator (a1 % 100 + 20) a2 ho X.s vs vr v hE)))
  · exact kinds_in a0 a1 a2 (a1 % 100) 12 12 0 0 0 0 (by decide) (by decide) (Lib.hid (by decide)) hA (by omega) CR vs vr w hE (Lib.hid (fun v0 v L X h hE => (kh_judge (a1 % 100 + 20) a2 ho X.s vs vr v hE)))
  · exact kinds_in a0 a1 a2 (a1 % 100) 13 13 0 0 0 0 (by decide) (by decide) (Lib.hid (by decide)) hA (by omega) CR vs vr w hE (Lib.hid (fun v0 v L X h hE => (kh_console (a1 % 100 + 20) a2 ho X.s vs vr v hE)))
  · exact kinds_in a0 a1 a2 (a1 % 100) 14 14 0 0 0 0 (by decide) (by decide) (Lib.hid (by decide)) hA (by omega) CR vs vr w hE (Lib.hid (fun v0 v L X h hE => (kh_clock (a1 % 100 + 20) a2 ho X.s vs vr v hE)))
end Go.Proofs.YtncopdhhchmpeaaGreatDoor
