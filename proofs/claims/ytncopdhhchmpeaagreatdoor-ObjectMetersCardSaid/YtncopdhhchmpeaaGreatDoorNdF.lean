/-
  Chapter 6's first.
-/
import Derived.Test.YtncopdhhchmpeaaGreatDoorNd3
namespace Go.Proofs.YtncopdhhchmpeaaGreatDoor
open Go.ChangeShapes Go.WideShapes Go.ChangeAt Go.RowKit
set_option linter.unusedVariables false
/-- Nodes over a law's start. -/
structure NV (W0 w : World) (base P p B G n c : Nat) (th : Nat → Bool) (vr_ : Nat → Int) (W : Nat → Nat → Value) : Prop where
  bel : Below W0.heap.size W0 w
  wb : W0.heap.size ≤ base
  nd : NdAt w base P p B G n c th vr_ W
section
variable {W0 w w' : World} {base P p B G n c : Nat} {th th' : Nat → Bool} {vr_ vr' : Nat → Int} {W W' : Nat → Nat → Value}
theorem NV.lo (h : NV W0 w base P p B G n c th vr_ W) : W0.heap.size ≤ B ∧ W0.heap.size ≤ G := ⟨Nat.le_trans h.wb h.nd.ar.lt.1, Nat.le_trans h.wb (h.nd.row.lt G rfl).1⟩
theorem NV.step (h : NV W0 w base P p B G n c th vr_ W) (hb : Below w.heap.size w w') : NV W0 w' base P p B G n c th vr_ W := ⟨h.bel.trans (hb.mono h.bel.size), h.wb, h.nd.below hb⟩
theorem NV.made (h : NV W0 w base P p B G n c th vr_ W) (hP : NdAt w' base P p B G n c th' vr' W') (hb : PBelow w w' B G) : NV W0 w' base P p B G n c th' vr' W' := ⟨h.bel.trans (hb.below h.lo.1 h.lo.2 h.bel.size), h.wb, hP⟩
end
theorem srcK_none (w : World) (B G : Nat) (kk : Nat → Nat → Int) : SrcK w none 0 kk B G := ⟨fun i hi => by omega⟩
theorem freshV_void (W : Nat → Nat → Value) (i : Nat) (kk : Nat → Nat → Int) (b : Nat) (hb : b < 80) : freshV W i (kcs kk 0) i b = zc b := freshV_out W i _ b (by rw [kcs_len]; omega) hb
theorem nfits_none (vs vr : Value) (w : World) (hE : ErrsAt vs vr w) :
    Calls Tryz.prog 92 #[.slice none 0 0] w fun e w' => e = .returned .nilIface ∧ Below w.heap.size w w' :=
  nfits_ok (B := 0) (G := 0) vs vr none 0 0 (by decide) (fun _ _ => 0) (Lib.hid (by intro i hi; omega)) w hE (srcK_none w 0 0 _)
theorem nmake_at {base P p B G n c : Nat} {th : Nat → Bool} {vr_ : Nat → Int} {W : Nat → Nat → Value} (id : Int) (vs vr : Value) (a : Option Addr) (m c2 : Nat) (kk : Nat → Nat → Int) (hx : m ≤ 16) (hk : Hid (∀ i, i < m → KRight kk i)) (j : Nat) (hid : Hid (id = j)) (hj : j < n) (hyes : Hid (freeB th vr_ j = true)) (hno : Hid (∀ i, i < j → freeB th vr_ i = false)) (v : Int) (hv : Hid (vr_ j = v)) (w : World) (hE : ErrsAt vs vr w) (h : NdAt w base P p B G n c th vr_ W) (hs : SrcK w a m kk B G) :
    Calls Tryz.prog 52 #[.pointer (some ⟨P, 0, none⟩), .slice a m c2] w fun e w' => e = .returned (.tuple #[.int .i64 id, .int .i64 v, .nilIface]) ∧ NdAt w' base P p B G n c (upd th j true) vr_ (freshV W j (kcs kk m)) ∧ PBelow w w' B G := by
  rw [hid.out]
  exact nmake_ok vs vr a m c2 kk hx hk j hj hyes hno v hv w hE h hs
theorem nget_at {base P p B G n c : Nat} {th : Nat → Bool} {vr_ : Nat → Int} {W : Nat → Nat → Value} (x y : Int) (k s : Nat) (hx : Hid (x = k)) (hy : Hid (y = s)) (hk : k < n) (hs : s < 16) (ht : Hid (th k = true)) (y0 y1 y2 y3 y4 : Int) (h0 : Hid (W k (s * 5) = .int .i64 y0)) (h1 : Hid (W k (s * 5 + 1) = .int .i64 y1)) (h2 : Hid (W k (s * 5 + 2) = .int .i64 y2)) (h3 : Hid (W k (s * 5 + 3) = .int .i64 y3)) (h4 : Hid (W k (s * 5 + 4) = .int .u32 y4)) (w : World) (h : NdAt w base P p B G n c th vr_ W) :
    Calls Tryz.prog 173 #[.pointer (some ⟨P, 0, none⟩), .int .i64 x, .int .i64 y] w fun e w' => e = .returned (.tuple #[(Value.agg #[.int .i64 y0, .int .i64 y1, .int .i64 y2, .int .i64 y3, .int .u32 y4]), .bool true]) ∧ Below w.heap.size w w' := by
  rw [hx.out, hy.out]
  exact nget_is k s hk hs ht y0 y1 y2 y3 y4 h0.out h1.out h2.out h3.out h4.out w h
end Go.Proofs.YtncopdhhchmpeaaGreatDoor
