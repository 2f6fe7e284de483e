/-
  package bank: buy of a page, of a node, of a domain; Page; chapter 18's made and first.
-/
import Derived.Test.YtkogmhgpkacehaaDoorBk7
namespace Go.Proofs.YtkogmhgpkacehaaDoor
open Go.ChangeShapes Go.WideShapes Go.ChangeAt Go.RowKit
set_option linter.unusedVariables false
set_option linter.unusedSimpArgs false
/-- The banks after one more object of bank q. -/
def boughtP (D : BSt) (q j : Nat) (v : Int) (pW : Nat → Nat → Int) : BSt := { D with pt := upd D.pt j true, pW := pW, us := addL D.us (chL D.pr q) 1, o2 := upd D.o2 j q, v2 := upd D.v2 j v }
theorem chL_in {nb n : Nat} {pr : Nat → Int} (hp : PrOk nb pr) (hn : nb ≤ n) (hb : nb ≤ 256) (q : Nat) (hq : q < nb) : (∀ z, z ∈ chL pr q → 0 ≤ z ∧ z < n) ∧ (chL pr q).length ≤ nb ∧ (chL pr q).Nodup := by
  have h := chL_bound hp hb (q + 1) q (by omega) (by omega)
  exact ⟨fun z hz => by have := h.2 z hz; omega, by omega, chL_nodup hp hb (q + 1) q (by omega) (by omega)⟩
set_option maxRecDepth 100000 in
set_option maxHeartbeats 2000000 in
theorem bbuyp_ok {w0 : World} {L : BLoc} {D : BSt} (q : Nat) (hq : q < D.nb) (x y j : Nat) (v : Int) (pW' : Nat → Nat → Int) (hj : j < L.b.n) (hfull : Hid ((chL D.pr q).any (fullB D.us D.lm) = false)) (hu : Hid (∀ i, i < L.n → -1000000 ≤ D.us i ∧ D.us i ≤ 1000000)) (w : World) (h : BW w0 w L D)
    (hcl : ∀ W, Below w.heap.size w W → Calls Tryd.prog 150 #[.pointer (some ⟨x, 0, none⟩), .pointer (some ⟨y, 0, none⟩)] W fun e w' => e = .returned (.tuple #[.int .i64 j, .int .i64 v, .nilIface]) ∧ BW w0 w' L { D with pt := upd D.pt j true, pW := pW' } ∧ PBelow W w' L.b.B L.b.G) :
    Calls Tryd.prog 146 #[.pointer (some ⟨L.P, 0, none⟩), .int .i64 (q : Int), .slice (some ⟨L.G2, 0, none⟩) 256 256, .nilIface, (Value.func (.func 150) #[] #[.pointer (some ⟨x, 0, none⟩), .pointer (some ⟨y, 0, none⟩)])] w fun e w' => e = .returned (.tuple #[.int .i64 j, .int .i64 v, .nilIface]) ∧ BW w0 w' L (boughtP D q j v pW') ∧ UpT L.T w w' := by
  have H := Lib.hid h
  have HCl := Lib.hid hcl
  have hn := h.n256
  have hpn := h.pn
  have hnn := h.nn
  have hin := chL_in h.pk h.nn (by omega) q hq
  obtain ⟨l, hl⟩ : ∃ l, Hid (chL D.pr q = l) := ⟨_, Lib.hid rfl⟩
  rw [hl.out] at hin hfull
  obtain ⟨m, hm⟩ : ∃ m, Hid (l.length = m) := ⟨_, Lib.hid rfl⟩
  have hm1 : m ≤ 1000 := by rw [← hm.out]; omega
  have HIn := Lib.hid hin.1
  have HNd := Lib.hid hin.2.2
  have HPk := Lib.hid h.pk
  have HLT := Lib.hid h.lowT
  have HTT := Lib.hid h.tt
  have HTw := Lib.hid h.tw
  have f0 := h.kk.f0
  have k0 : (0 : Int) ≤ j := by omega
  have k1 : (j : Int) < 256 := by omega
  clear h hcl hin
  go_enter Tryd.func146, Tryd.ntmps146
  go_wp2_with (first
    | (go_at_call 25; (with_reducible refine (athere_in q (by omega) true (Lib.hid (thN_at hq)) _ H.out.kk.ar).mono ?_); rintro e w1 ⟨rfl, rfl⟩)
    | (go_at_call 155; (with_reducible refine (bchain_is (q : Int) D.nb (by omega) (by omega) hnn (Lib.hid (fun i hi => thN_at hi)) HPk _ H.out.kk).mono ?_); rintro e w1 ⟨v9, rfl, hr, hb⟩; rw [hl.out] at hr; obtain ⟨a9, c9, hv9⟩ := own_slice hr m hm; have HRw := Lib.hid (rowT hr hv9 hm.out HTw.out); subst hv9; have H1 := Lib.hid (H.out.below hb); have HB1 := Lib.hid hb; clear hr hb f0)
    | (go_at_call 186; (with_reducible refine (bcf_is l m hm hm1 a9 c9 HIn false hfull _ H1.out.kk (fun i hi => by obtain ⟨g, h1, h2, h3, h4⟩ := HRw.out w1 (UpT.refl _ _) i hi; exact ⟨g, h1, h3, h4⟩)).mono ?_); rintro e w2 ⟨rfl, hb⟩; have HB2 := Lib.hid hb; clear hb)
    | (go_at_call 150; (with_reducible refine (HCl.out _ (HB1.out.trans (HB2.out.mono HB1.out.size))).mono ?_); rintro e w3 ⟨rfl, hW, hb⟩; have H3 := Lib.hid hW; have HU3 := Lib.hid ((UpT.below HB2.out).trans (UpT.pb hb (T := L.T) (by have := HLT.out; omega) (by have := HLT.out; omega))); have ht := hW.kk.t2.ti j (by omega); obtain ⟨c0, c1⟩ := ht; have z0 := hW.kk.t2.fr (j * 2); have z1 := hW.kk.t2.fr (j * 2 + 1); have HS := Lib.hid (hW.kk.t2.title j (by omega) q v); have H4 := Lib.hid (hW.kk.ti2 HS.out.1 HS.out.2); have HU4 := Lib.hid (HU3.out.trans (UpT.grown HS.out.2 (T := L.T) (by have := HTT.out; omega))); clear hW hb)
    | (go_at_call 159; (with_reducible refine (bcount_is l m hm hm1 a9 c9 HIn HNd 1 (by decide) hu _ H4.out (fun i hi => by obtain ⟨g, h1, h2, h3, h4⟩ := HRw.out _ HU4.out i hi; exact ⟨g, h1, h3, by have := HTT.out; omega, h4⟩)).mono ?_); rintro e w5 ⟨rfl, hB, hg⟩; have H5 := Lib.hid hB; have HG5 := Lib.hid hg; clear hB hg c0 c1 z0 z1))
  go_ret3
  refine ⟨rfl, ?_, ((UpT.below HB1.out).trans HU4.out).trans (UpT.grown HG5.out (by have := HTT.out; omega))⟩
  have hlo : Below L.bB w3 w5 := by
    refine (low_of HS.out.2 H3.out.kk.t2.lt.1 H3.out.bl).trans (low_of HG5.out H3.out.kk.ac.lt.1 ?_)
    exact Nat.le_trans H3.out.bl HS.out.2.size
  refine BW.bank H3.out (D' := boughtP D q j v pW') ?_ hlo rfl HPk.out hnn
  have := H5.out
  rw [← hl.out] at this
  exact this
set_option maxRecDepth 100000 in
set_option maxHeartbeats 2000000 in
theorem bbuyp_limit {w0 : World} {L : BLoc} {D : BSt} (q : Nat) (hq : q < D.nb) (x y : Nat) (hfull : Hid ((chL D.pr q).any (fullB D.us D.lm) = true)) (G : Nat) (fv : Value) (v : Value) (w : World) (h : BW w0 w L D) (hE : w.cell? ⟨7, 0, none⟩ = some v) (hlt : 7 < w.heap.size) :
    Calls Tryd.prog 146 #[.pointer (some ⟨L.P, 0, none⟩), .int .i64 (q : Int), .slice (some ⟨G, 0, none⟩) 256 256, .nilIface, fv] w fun e w' => e = .returned (.tuple #[.int .i64 0, .int .i64 0, v]) ∧ Below w.heap.size w w' := by
  have H := Lib.hid h
  have hn := h.n256
  have hnn := h.nn
  have hin := chL_in h.pk h.nn (by omega) q hq
  obtain ⟨l, hl⟩ : ∃ l, Hid (chL D.pr q = l) := ⟨_, Lib.hid rfl⟩
  rw [hl.out] at hin hfull
  obtain ⟨m, hm⟩ : ∃ m, Hid (l.length = m) := ⟨_, Lib.hid rfl⟩
  have hm1 : m ≤ 1000 := by rw [← hm.out]; omega
  have HIn := Lib.hid hin.1
  have HPk := Lib.hid h.pk
  have HTw := Lib.hid h.tw
  have f0 := h.kk.f0
  clear h hin
  go_enter Tryd.func146, Tryd.ntmps146
  go_wp2_with (first
    | (go_at_call 25; (with_reducible refine (athere_in q (by omega) true (Lib.hid (thN_at hq)) _ H.out.kk.ar).mono ?_); rintro e w1 ⟨rfl, rfl⟩)
    | (go_at_call 155; (with_reducible refine (bchain_is (q : Int) D.nb (by omega) (by omega) hnn (Lib.hid (fun i hi => thN_at hi)) HPk _ H.out.kk).mono ?_); rintro e w1 ⟨v9, rfl, hr, hb⟩; rw [hl.out] at hr; obtain ⟨a9, c9, hv9⟩ := own_slice hr m hm; have HRw := Lib.hid (rowT hr hv9 hm.out HTw.out); subst hv9; have H1 := Lib.hid (H.out.below hb); have HB1 := Lib.hid hb; clear hr hb f0)
    | (go_at_call 186; (with_reducible refine (bcf_is l m hm hm1 a9 c9 HIn true hfull _ H1.out.kk (fun i hi => by obtain ⟨g, h1, h2, h3, h4⟩ := HRw.out w1 (UpT.refl _ _) i hi; exact ⟨g, h1, h3, h4⟩)).mono ?_); rintro e w2 ⟨rfl, hb⟩; have HB2 := Lib.hid (HB1.out.trans (hb.mono HB1.out.size)); have hE2 := (HB2.out.cell (p := ⟨7, 0, none⟩) hlt).trans hE; clear hb))
  go_quiet (fail)
  go_wp2_with fail
  go_ret3
  exact ⟨rfl, below_drewN HB2.out _⟩
end Go.Proofs.YtkogmhgpkacehaaDoor
