/-
  Chapter 18: Root and Sub over it all; made; first.
-/
import Derived.Test.YtkogmhgpkacehaaDoorBk9
namespace Go.Proofs.YtkogmhgpkacehaaDoor
open Go.ChangeShapes Go.WideShapes Go.ChangeAt Go.RowKit
set_option linter.unusedVariables false
set_option linter.unusedSimpArgs false
/-- One more bank, within y. -/
def openedB (D : BSt) (y lim : Int) : BSt := { D with nb := D.nb + 1, pr := upd D.pr D.nb y, us := upd D.us D.nb 0, lm := upd D.lm D.nb lim }
theorem BW.opened {w0 w w' : World} {L : BLoc} {D : BSt} (h : BW w0 w L D) (y lim : Int) (hy0 : -1 ≤ y) (hy1 : y < D.nb) (hn : D.nb < L.n) (hk : BkAt w' L.bB L.P L.p L.B L.A L.G1 L.G2 L.G3 L.n L.c L.mb L.dP (thN (D.nb + 1)) (fun _ => 0) (upd D.pr D.nb y) (upd D.us D.nb 0) (upd D.lm D.nb lim) D.o1 D.v1 D.o2 D.v2 D.o3 D.v3) (hb : PBelow w w' L.B L.A) : BW w0 w' L (openedB D y lim) ∧ UpT L.T w w' :=
  ⟨BW.bank h (D' := openedB D y lim) hk (hb.below h.kk.ar.lt.1 h.kk.ac.lt.1 h.bl) rfl (prok_put h.pk y hy0 hy1) hn, UpT.pb hb (by have := h.tt; omega) (by have := h.tt; omega)⟩
theorem bwroot_ok {w0 : World} {L : BLoc} {D : BSt} (lim : Int) (hl0 : 0 ≤ lim) (hl1 : lim ≤ 512) (k : Int) (hk : Hid ((D.nb : Int) = k)) (hn : D.nb < L.n) (w : World) (h : BW w0 w L D) :
    Calls Tryd.prog 75 #[.pointer (some ⟨L.P, 0, none⟩), .int .i64 lim] w fun e w' => e = .returned (.tuple #[.int .i64 k, .int .i64 0, .nilIface]) ∧ BW w0 w' L (openedB D (-1) lim) ∧ UpT L.T w w' := by
  rw [← hk.out]
  refine broot_of (P := L.P) _ _ _ _ rfl ((bopen_ok (-1) lim (by omega) (by omega) hl0 hl1 hn (Lib.hid h.pk) (Lib.hid (by rw [chL_neg _ _ (by omega)]; decide)) w h.kk).mono fun e w' ⟨h1, h2, h3⟩ => ⟨h1, h.opened (-1) lim (by omega) (by omega) hn h2 h3⟩)
theorem bwroot_range {w0 : World} {L : BLoc} {D : BSt} (lim : Int) (hl : ¬ (0 ≤ lim ∧ lim ≤ 512)) (w : World) (v : Value) (hE : w.cell? ⟨1, 0, none⟩ = some v) (h : BW w0 w L D) :
    Calls Tryd.prog 75 #[.pointer (some ⟨L.P, 0, none⟩), .int .i64 lim] w fun e w' => e = .returned (.tuple #[.int .i64 0, .int .i64 0, v]) ∧ Below w.heap.size w w' :=
  broot_of (P := L.P) _ _ _ _ rfl (bopen_range (P := L.P) (-1) lim hl w v hE)
theorem bwsub_ok {w0 : World} {L : BLoc} {D : BSt} (x : Int) (q : Nat) (hx : Hid (x = (q : Int))) (lim : Int) (hl0 : 0 ≤ lim) (hl1 : lim ≤ 512) (hq : q < D.nb) (k : Int) (hk : Hid ((D.nb : Int) = k)) (hn : D.nb < L.n) (hch : Hid ((chL D.pr q).length < 8)) (w : World) (h : BW w0 w L D) :
    Calls Tryd.prog 76 #[.pointer (some ⟨L.P, 0, none⟩), .int .i64 x, .int .i64 lim] w fun e w' => e = .returned (.tuple #[.int .i64 k, .int .i64 0, .nilIface]) ∧ BW w0 w' L (openedB D q lim) ∧ UpT L.T w w' := by
  rw [← hk.out, hx.out]
  exact bsub_of q lim hq h.nn _ _ _ _ rfl w h.kk ((bopen_ok (q : Int) lim (by omega) (by omega) hl0 hl1 hn (Lib.hid h.pk) hch w h.kk).mono fun e w' ⟨h1, h2, h3⟩ => ⟨h1, h.opened (q : Int) lim (by omega) (by omega) hn h2 h3⟩)
theorem bwsub_many {w0 : World} {L : BLoc} {D : BSt} (x : Int) (q : Nat) (hx : Hid (x = (q : Int))) (lim : Int) (hl0 : 0 ≤ lim) (hl1 : lim ≤ 512) (hq : q < D.nb) (hch : Hid (8 ≤ (chL D.pr q).length)) (w : World) (v : Value) (h : BW w0 w L D) (hE : w.cell? ⟨2, 0, none⟩ = some v) (hl : 2 < w.heap.size) :
    Calls Tryd.prog 76 #[.pointer (some ⟨L.P, 0, none⟩), .int .i64 x, .int .i64 lim] w fun e w' => e = .returned (.tuple #[.int .i64 0, .int .i64 0, v]) ∧ Below w.heap.size w w' := by
  rw [hx.out]
  exact bsub_of q lim hq h.nn _ _ _ _ rfl w h.kk (bopen_many (q : Int) lim (by omega) (by omega) hl0 hl1 h.nn (Lib.hid h.pk) hch w h.kk v hE hl)
/-- Nothing yet. -/
def st0 : BSt := ⟨fun _ => false, fun _ => 0, fun _ b => zc b, fun _ => false, fun _ => 0, fun _ _ => 0, fun _ => false, fun _ => 0, fun _ b => zd b, 0, fun _ => 0, fun _ => 0, fun _ => 0, fun _ => -1, fun _ => 0, fun _ => -1, fun _ => 0, fun _ => -1, fun _ => 0⟩
set_option maxRecDepth 100000 in
set_option maxHeartbeats 2000000 in
theorem made18_is (x y z u : Int) (nn np nd nb : Nat) (hx : Hid (x = nn ∧ y = np ∧ z = nd ∧ u = nb)) (h1 : 1 ≤ nn ∧ nn ≤ 256) (h2 : 1 ≤ np ∧ np ≤ 256) (h3 : 1 ≤ nd ∧ nd ≤ 256) (h4 : 1 ≤ nb ∧ nb ≤ 256) (w : World) :
    Calls Tryd.prog 74 #[.int .i64 x, .int .i64 y, .int .i64 z, .int .i64 u] w fun e w' => ∃ L, e = .returned (.tuple #[.pointer (some ⟨L.P, 0, none⟩), .pointer (some ⟨L.mb, 0, none⟩), .pointer (some ⟨L.dP, 0, none⟩)]) ∧ BW w w' L st0 ∧ Hid (L.a.n = nn ∧ L.b.n = np ∧ L.dn = nd ∧ L.n = nb) := by
  go_enter Tryd.func74, Tryd.ntmps74
  go_wp2_with (first
    | (go_at_call 143; (with_reducible refine (mnew_ok x y 4 nn np (Lib.hid hx.out.1) (Lib.hid hx.out.2.1) h1.1 h1.2 h2.1 h2.2 (by decide) (by decide) _).mono ?_); rintro e w1 ⟨mb, S, a, b, N, cb, rfl, hm, hn⟩; have HM := Lib.hid hm; have HN := Lib.hid hn.out; clear hm hn)
    | (go_at_call 51; (with_reducible refine (dnew_ok z nd (Lib.hid hx.out.2.2.1) h3.1 h3.2 _).mono ?_); rintro e w2 ⟨dP, dp, dR, dG, dQ, rfl, hd, hb⟩; have HD := Lib.hid hd; have HB2 := Lib.hid hb; clear hd hb)
    | (go_at_call 144; (with_reducible refine (bknew_ok u nb mb dP (Lib.hid hx.out.2.2.2) h4.1 h4.2 _).mono ?_); rintro e w3 ⟨P, p, B, A, G1, G2, G3, rfl, hk, hb⟩; have HK := Lib.hid hk; have HB3 := Lib.hid hb; clear hk hb))
  go_ret3
  refine ⟨⟨mb, S, a, b, N, cb, w1.heap.size, dP, dp, dR, dG, dQ, nd, nd, w2.heap.size, P, p, B, A, G1, G2, G3, nb, nb, w3.heap.size⟩, rfl, ?_, Lib.hid ⟨HN.out.1, HN.out.2, rfl, rfl⟩⟩
  have e : thN 0 = fun _ => false := by funext i; simp [thN]
  have hm := HM.out
  have hd := HD.out
  have hk := HK.out
  have s2 := HB2.out.size
  have s3 := HB3.out.size
  have hQ := (hd.qs.lt dQ rfl).2
  refine ⟨(hm.below HB2.out).below HB3.out, hd.below HB3.out, ?_, ⟨hm.ml, hm.ca.cl, hm.nN⟩, ⟨hd.pl.pl, hd.pl.ar.pl, hd.pl.ar.lt.2, hd.pl.gl.2, hQ⟩, s2, fun i hi => by simp [st0] at hi, Nat.zero_le _, ⟨s3, hk.pl, hk.ar.pl, hk.ar.lt.2, hk.ac.lt.2, hk.t1.lt.2, hk.t2.lt.2, hk.t3.lt.2⟩, Nat.le_refl _⟩
  show BkAt w3 _ _ _ _ _ _ _ _ _ _ _ _ (thN 0) _ _ _ _ _ _ _ _ _ _
  rw [e]
  exact hk
theorem bwpage_ok {w0 : World} {L : BLoc} {D : BSt} (y z : Int) (q : Nat) (hy : Hid (y = (q : Int))) (hq : q < D.nb) (a : Option Addr) (m c2 : Nat) (xs : List Int) (hm : Hid (xs.length = m)) (hx0 : m ≤ 32) (j : Nat) (hz : Hid ((j : Int) = z)) (hj : j < L.b.n) (hyes : Hid (freeB D.pt D.pv j = true)) (hno : Hid (∀ i, i < j → freeB D.pt D.pv i = false)) (v : Int) (hv : Hid (D.pv j = v)) (hfull : Hid ((chL D.pr q).any (fullB D.us D.lm) = false)) (hu : Hid (∀ i, i < L.n → -1000000 ≤ D.us i ∧ D.us i ≤ 1000000)) (w : World) (h : BW w0 w L D) (hs : SrcW L w a xs) :
    Calls Tryd.prog 81 #[.pointer (some ⟨L.P, 0, none⟩), .int .i64 y, .slice a m c2] w fun e w' => e = .returned (.tuple #[.int .i64 z, .int .i64 v, .nilIface]) ∧ BW w0 w' L (boughtP D q j v (fresh D.pW j xs)) ∧ UpT L.T w w' := by
  rw [hy.out, ← hz.out]
  exact bpage_ok q hq a m c2 xs hm hx0 j hj hyes hno v hv hfull hu w h hs
theorem bwpage_limit {w0 : World} {L : BLoc} {D : BSt} (y : Int) (q : Nat) (hy : Hid (y = (q : Int))) (hq : q < D.nb) (a : Option Addr) (m c2 : Nat) (xs : List Int) (hm : Hid (xs.length = m)) (hx0 : m ≤ 32) (hfull : Hid ((chL D.pr q).any (fullB D.us D.lm) = true)) (v : Value) (w : World) (h : BW w0 w L D) (hs : SrcW L w a xs) (hE : w.cell? ⟨7, 0, none⟩ = some v) (hlt : 7 < w.heap.size) :
    Calls Tryd.prog 81 #[.pointer (some ⟨L.P, 0, none⟩), .int .i64 y, .slice a m c2] w fun e w' => e = .returned (.tuple #[.int .i64 0, .int .i64 0, v]) ∧ Below w.heap.size w w' := by
  rw [hy.out]
  exact bpage_limit q hq a m c2 xs hm hx0 hfull v w h hs hE hlt
theorem chL_root {nb : Nat} {pr : Nat → Int} (hp : PrOk nb pr) (hb : nb ≤ 256) (q : Nat) (hq : q < nb) (h : pr q = -1) : chL pr (q : Int) = [(q : Int)] := by
  rw [chL_cons hp q hq hb, h, chL_neg _ _ (by omega)]
theorem upt_keep {T : Nat} {w w' : World} (h : UpT T w w') (k : Nat) (h1 : T ≤ k) (h2 : k < w.heap.size) : w'.heap[k]? = w.heap[k]? := h.2 k h1 h2
theorem d1_pk : PrOk 1 (openedB st0 (-1) 1).pr := fun i hi => by
  obtain rfl : i = 0 := by omega
  simp [openedB, st0, upd]
theorem d1_chain : chL (openedB st0 (-1) 1).pr ((0 : Nat) : Int) = [((0 : Nat) : Int)] := chL_root d1_pk (by decide) 0 (by decide) (by simp [openedB, st0, upd])
set_option maxRecDepth 100000 in
set_option maxHeartbeats 2000000 in
theorem bfirst_is (w : World) (A : Nat → Addr) (hS : Sen A w) : Calls Tryd.prog 73 #[] w fun e w' => e = .returned (.bool true) ∧ Below w.heap.size w w' := by
  have HS := Lib.hid hS
  clear hS
  go_enter Tryd.func73, Tryd.ntmps73
  go_wp2_with (first
    | (go_at_call 74; (with_reducible refine (made18_is 2 2 1 2 2 2 1 2 (Lib.hid ⟨rfl, rfl, rfl, rfl⟩) (by decide) (by decide) (by decide) (by decide) _).mono ?_); rintro e w1 ⟨L, rfl, hW, hn⟩; have HW1 := Lib.hid hW; have HN := Lib.hid hn.out; clear hW hn)
    | (go_at_call 75; (with_reducible refine (bwroot_ok 1 (by decide) (by decide) 0 (Lib.hid rfl) (by have := HN.out; simp [st0]; omega) _ HW1.out).mono ?_); rintro e w2 ⟨rfl, hW, hu⟩; have HW2 := Lib.hid hW; have HPg := Lib.hid (bwpage_ok 0 0 0 (Lib.hid rfl) (by decide) none 0 0 [] (Lib.hid rfl) (by decide) 0 (Lib.hid rfl) (by have := HN.out; omega) (Lib.hid (by decide)) (Lib.hid (by intro i hi; omega)) 0 (Lib.hid rfl) (Lib.hid (by rw [d1_chain]; decide)) (Lib.hid (fun i hi => by simp [openedB, st0, upd])) w2 hW (srcw_none L w2)); clear hW hu)
    | (go_at_call 81; (with_reducible refine HPg.out.mono ?_); rintro e w3 ⟨rfl, hW, hu⟩; have HW3 := Lib.hid hW; have HPl := Lib.hid (bwpage_limit 0 0 (Lib.hid rfl) (by decide) none 0 0 [] (Lib.hid rfl) (by decide) (Lib.hid (by show (chL (openedB st0 (-1) 1).pr ((0 : Nat) : Int)).any _ = true; rw [d1_chain]; show (List.any [((0 : Nat) : Int)] (fullB (addL (openedB st0 (-1) 1).us (chL (openedB st0 (-1) 1).pr ((0 : Nat) : Int)) 1) (openedB st0 (-1) 1).lm)) = true; rw [d1_chain]; decide)) (eV (sA A 6)) w3 hW (srcw_none L w3) (HS.out.below hW.bel).c6 (HS.out.below hW.bel).s6); clear hW hu)
    | (go_at_call 81; (with_reducible refine HPl.out.mono ?_); rintro e w4 ⟨rfl, hb⟩; have HW4 := Lib.hid (HW3.out.below hb); clear hb)
    | (go_at_call 20; (with_reducible refine (is_sen A 6 107 (by decide) (Lib.hid (by decide)) _ (HS.out.below HW4.out.bel)).mono ?_); rintro e w5 ⟨rfl, hb⟩; have HB5 := Lib.hid (HW4.out.below hb).bel; clear hb))
  go_ret
  exact ⟨rfl, HB5.out⟩
end Go.Proofs.YtkogmhgpkacehaaDoor
