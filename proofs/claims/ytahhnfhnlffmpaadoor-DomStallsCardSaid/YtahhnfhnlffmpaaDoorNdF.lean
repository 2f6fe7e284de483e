/-
  Chapter 6's first.
-/
import Derived.Test.YtahhnfhnlffmpaaDoorNd3
namespace Go.Proofs.YtahhnfhnlffmpaaDoor
open Go.ChangeShapes Go.WideShapes Go.ChangeAt Go.RowKit
set_option linter.unusedVariables false
/-- Nodes over a law's start. -/
structure NV (W0 w : World) (base P p B G n c : Nat) (th : Nat → Bool) (vr_ : Nat → Int) (W : Nat → Nat → Value) : Prop where
  bel : Below W0.heap.size W0 w
  wb : W0.heap.size ≤ base
  nd : NdAt w base P p B G n c th vr_ W
section
variable {W0 w w' : World} {base P p B G n c : Nat} {th th' : Nat → Bool} {vr_ vr' : Nat → Int} {W W' : Nat → Nat → Value}
theorem NV.lo (h : NV W0 w base P p B G n c th vr_ W) : W0.heap.size ≤ B ∧ W0.heap.size ≤ G := ⟨Nat.le_trans h.wb h.nd.ar.lt.1, Nat.le_trans h.wb (h.nd.row.lt G rfl).1⟩
theorem NV.step (h : NV W0 w base P p B G n c th vr_ W) (hb : Below w.heap.size w w') : NV W0 w' base P p B G n c th vr_ W := ⟨h.bel.trans (hb.mono h.bel.size), h.wb, h.nd.below hb⟩
theorem NV.made (h : NV W0 w base P p B G n c th vr_ W) (hP : NdAt w' base P p B G n c th' vr' W') (hb : PBelow w w' B G) : NV W0 w' base P p B G n c th' vr' W' := ⟨h.bel.trans (hb.below h.lo.1 h.lo.2 h.bel.size), h.wb, hP⟩
end
theorem srcK_none (w : World) (B G : Nat) (kk : Nat → Nat → Int) : SrcK w none 0 kk B G := ⟨fun i hi => by omega⟩
theorem freshV_void (W : Nat → Nat → Value) (i : Nat) (kk : Nat → Nat → Int) (b : Nat) (hb : b < 80) : freshV W i (kcs kk 0) i b = zc b := freshV_out W i _ b (by rw [kcs_len]; omega) hb
theorem nfits_none (vs vr : Value) (w : World) (hE : ErrsAt vs vr w) :
    Calls Tryd.prog 57 #[.slice none 0 0] w fun e w' => e = .returned .nilIface ∧ Below w.heap.size w w' :=
  nfits_ok (B := 0) (G := 0) vs vr none 0 0 (by decide) (fun _ _ => 0) (Lib.hid (by intro i hi; omega)) w hE (srcK_none w 0 0 _)
theorem nmake_at {base P p B G n c : Nat} {th : Nat → Bool} {vr_ : Nat → Int} {W : Nat → Nat → Value} (id : Int) (vs vr : Value) (a : Option Addr) (m c2 : Nat) (kk : Nat → Nat → Int) (hx : m ≤ 16) (hk : Hid (∀ i, i < m → KRight kk i)) (j : Nat) (hid : Hid (id = j)) (hj : j < n) (hyes : Hid (freeB th vr_ j = true)) (hno : Hid (∀ i, i < j → freeB th vr_ i = false)) (v : Int) (hv : Hid (vr_ j = v)) (w : World) (hE : ErrsAt vs vr w) (h : NdAt w base P p B G n c th vr_ W) (hs : SrcK w a m kk B G) :
    Calls Tryd.prog 15 #[.pointer (some ⟨P, 0, none⟩), .slice a m c2] w fun e w' => e = .returned (.tuple #[.int .i64 id, .int .i64 v, .nilIface]) ∧ NdAt w' base P p B G n c (upd th j true) vr_ (freshV W j (kcs kk m)) ∧ PBelow w w' B G := by
  rw [hid.out]
  exact nmake_ok vs vr a m c2 kk hx hk j hj hyes hno v hv w hE h hs
theorem nget_at {base P p B G n c : Nat} {th : Nat → Bool} {vr_ : Nat → Int} {W : Nat → Nat → Value} (x y : Int) (k s : Nat) (hx : Hid (x = k)) (hy : Hid (y = s)) (hk : k < n) (hs : s < 16) (ht : Hid (th k = true)) (y0 y1 y2 y3 y4 : Int) (h0 : Hid (W k (s * 5) = .int .i64 y0)) (h1 : Hid (W k (s * 5 + 1) = .int .i64 y1)) (h2 : Hid (W k (s * 5 + 2) = .int .i64 y2)) (h3 : Hid (W k (s * 5 + 3) = .int .i64 y3)) (h4 : Hid (W k (s * 5 + 4) = .int .u32 y4)) (w : World) (h : NdAt w base P p B G n c th vr_ W) :
    Calls Tryd.prog 19 #[.pointer (some ⟨P, 0, none⟩), .int .i64 x, .int .i64 y] w fun e w' => e = .returned (.tuple #[(Value.agg #[.int .i64 y0, .int .i64 y1, .int .i64 y2, .int .i64 y3, .int .u32 y4]), .bool true]) ∧ Below w.heap.size w w' := by
  rw [hx.out, hy.out]
  exact nget_is k s hk hs ht y0 y1 y2 y3 y4 h0.out h1.out h2.out h3.out h4.out w h
set_option maxRecDepth 100000 in
theorem nfirst_is (vs vr : Value) (w : World) (hE : ErrsAt vs vr w) : Calls Tryd.prog 10 #[] w fun e w' => e = .returned (.bool true) ∧ Below w.heap.size w w' := by
  have HE := Lib.hid hE
  clear hE
  go_enter Tryd.func10, Tryd.ntmps10
  go_wp2_with (first
    | (go_at_call 11; (with_reducible refine (nnew_ok 4 4 (Lib.hid rfl) (by decide) (by decide) _).mono ?_); rintro e w1 ⟨P, p, B, G, rfl, hP, hb⟩; have HV := Lib.hid (NV.mk hb (Nat.le_refl _) hP : NV w w1 w.heap.size P p B G 4 4 _ _ _); clear hP hb)
    | (go_at_call 15; (with_reducible refine (nmake_at 0 vs vr none 0 0 (fun _ _ => 0) (by decide) (Lib.hid (by intro i hi; omega)) 0 (Lib.hid rfl) (by decide) (Lib.hid (by decide)) (Lib.hid (by intro i hi; omega)) 0 (Lib.hid rfl) _ (HE.out.below HV.out.bel) HV.out.nd (srcK_none _ _ _ _)).mono ?_); rintro e w2 ⟨rfl, hM, hb⟩; have HV2 := Lib.hid (HV.out.made hM hb); clear hM hb)
    | (go_at_call 19; (with_reducible refine (nget_at (n := 4) 0 15 0 15 (Lib.hid rfl) (Lib.hid rfl) (by decide) (by decide) (Lib.hid (by decide)) 0 0 0 0 0 (Lib.hid (freshV_void _ 0 _ 75 (by decide))) (Lib.hid (freshV_void _ 0 _ 76 (by decide))) (Lib.hid (freshV_void _ 0 _ 77 (by decide))) (Lib.hid (freshV_void _ 0 _ 78 (by decide))) (Lib.hid (freshV_void _ 0 _ 79 (by decide))) _ HV2.out.nd).mono ?_); rintro e w3 ⟨rfl, hb⟩; have HB3 := Lib.hid (HV2.out.bel.trans (hb.mono HV2.out.bel.size)); clear hb)
    | (go_at_call 20; (with_reducible refine (samekey_any 0 0 0 0 0 0 0 0 0 0 _).mono ?_); rintro e w4 ⟨rfl, hb⟩; have HB4 := Lib.hid ((HB3.out.alloc HB3.out.size _).trans (hb.mono (by simp; have := HB3.out.size; omega))); clear hb))
  go_ret
  exact ⟨rfl, HB4.out⟩
end Go.Proofs.YtahhnfhnlffmpaaDoor
