/-
  package meter: Make below any meter; too deep.
-/
import Derived.Test.YtlefmgdfcpnifaaDoorMt3
namespace Go.Proofs.YtlefmgdfcpnifaaDoor
open Go.ChangeShapes Go.WideShapes Go.ChangeAt Go.RowKit
set_option linter.unusedVariables false
theorem chF_pos (pr : Nat → Int) (j : Nat) : 0 < (chF pr (j + 1) j).length := by
  unfold chF
  rw [if_neg (by omega)]
  simp
theorem chain_gsl {base P p B G n c : Nat} {th : Nat → Bool} {vr pr tk : Nat → Int} (j d : Nat) (hd : Hid ((chF pr (j + 1) j).length = d)) (hj : j < n) (hth : Hid (∀ i, i ≤ j → th i = true)) (hpr : Hid (∀ i, i ≤ j → -1 ≤ pr i ∧ pr i < (i : Int))) (w : World) (h : MtAt w base P p B G n c th vr pr tk) :
    Calls Tryd.prog 67 #[.pointer (some ⟨P, 0, none⟩), .int .i64 j] w fun e w' => ∃ g c', e = .returned (.slice (some ⟨g, 0, none⟩) d c') ∧ w'.ownsRow w.heap.size 3 1 (.slice (some ⟨g, 0, none⟩) d c') d ((chF pr (j + 1) j).map (Value.int .i64)) ∧ Below w.heap.size w w' := by
  refine (chain_gen j hj hth hpr w h).mono fun e w' ⟨v, he, hr, hb⟩ => ?_
  rw [hd.out] at hr
  obtain ⟨g, c', rfl⟩ := own_sl hr (by have := chF_pos pr j; have := hd.out; omega)
  exact ⟨g, c', he, hr, hb⟩
set_option maxRecDepth 100000 in
theorem mmake_gen {base P p B G n c : Nat} {th : Nat → Bool} {vr pr tk : Nat → Int} (j i d : Nat) (hd : Hid ((chF pr (j + 1) j).length = d)) (hd7 : d ≤ 7) (tkx : Int) (t0 : 0 ≤ tkx) (t1 : tkx ≤ 1000) (hjn : j < n) (hin : i < n) (hth : Hid (∀ q, q ≤ j → th q = true)) (hpr : Hid (∀ q, q ≤ j → -1 ≤ pr q ∧ pr q < (q : Int))) (hyes : Hid (freeB th vr i = true)) (hno : Hid (∀ q, q < i → freeB th vr q = false)) (v : Int) (hv : Hid (vr i = v)) (w : World) (h : MtAt w base P p B G n c th vr pr tk) :
    Calls Tryd.prog 48 #[.pointer (some ⟨P, 0, none⟩), .int .i64 j, .int .i64 tkx] w fun e w' => e = .returned (.tuple #[.int .i64 i, .int .i64 v, .nilIface]) ∧ MtAt w' base P p B G n c (upd th i true) vr (upd pr i j) (upd tk i tkx) ∧ PBelow w w' B G := by
  have H := Lib.hid h
  have f0 := h.f0
  have hn := h.ar.le
  have HT := Lib.hid (hth.out j (by omega))
  have d1 : decide (tkx < 0) = false := decide_eq_false (by omega)
  have d2 : decide (2147483647 < tkx) = false := decide_eq_false (by omega)
  have d3 : ((j : Int) != -1) = true := bne_iff_ne.2 (by omega)
  have k0 : (0 : Int) ≤ i := by omega
  have k1 : (i : Int) < n := by omega
  clear h
  go_enter Tryd.func48, Tryd.ntmps48
  go_wp2_with (first
    | (go_at_call 23; (with_reducible refine (athere_in j hjn true HT _ H.out.ar).mono ?_); rintro e w1 ⟨rfl, rfl⟩)
    | (go_at_call 67; (with_reducible refine (chain_gsl j d hd hjn hth hpr _ H.out).mono ?_); rintro e w1 ⟨g, c', rfl, hr, hb⟩; have H1 := Lib.hid (H.out.below hb); have HB1 := Lib.hid (PBelow.of_below (B := B) (G := G) hb); clear f0; have f0 := H1.out.f0; clear hr hb)
    | (go_at_call 19; (with_reducible refine (atake_ok _ H1.out.ar i hin hyes hno v hv).mono ?_); rintro e w2 ⟨rfl, hA, hg⟩; have H2 := Lib.hid (H1.out.turn hA hg); have HB2 := Lib.hid (HB1.out.trans (PBelow.of (G := G) hg (.inl rfl))); have f1 := H2.out.f1; have c0 := H2.out.at0 i hin; have c1 := H2.out.at1 i hin; have z0 := H2.out.row.frozenAt (i * 2); have z1 := H2.out.row.frozenAt (i * 2 + 1); have H3 := Lib.hid (H2.out.put0 i hin j); have H4 := Lib.hid (H3.out.1.put1 i hin tkx); clear hA hg f0))
  go_ret3
  exact ⟨rfl, H4.out.1, (HB2.out.trans (PBelow.of H3.out.2 (.inr rfl))).trans (PBelow.of H4.out.2 (.inr rfl))⟩
set_option maxRecDepth 100000 in
theorem mmake_deep {base P p B G n c : Nat} {th : Nat → Bool} {vr pr tk : Nat → Int} (j d : Nat) (hd : Hid ((chF pr (j + 1) j).length = d)) (hd7 : 8 ≤ d) (tkx : Int) (t0 : 0 ≤ tkx) (t1 : tkx ≤ 1000) (hjn : j < n) (hth : Hid (∀ q, q ≤ j → th q = true)) (hpr : Hid (∀ q, q ≤ j → -1 ≤ pr q ∧ pr q < (q : Int))) (v : Value) (w : World) (hE : Hid (w.cell? ⟨3, 0, none⟩ = some v)) (hEl : 3 < w.heap.size) (h : MtAt w base P p B G n c th vr pr tk) :
    Calls Tryd.prog 48 #[.pointer (some ⟨P, 0, none⟩), .int .i64 j, .int .i64 tkx] w fun e w' => e = .returned (.tuple #[.int .i64 0, .int .i64 0, v]) ∧ Below w.heap.size w w' := by
  have H := Lib.hid h
  have f0 := h.f0
  have hn := h.ar.le
  have HT := Lib.hid (hth.out j (by omega))
  have d1 : decide (tkx < 0) = false := decide_eq_false (by omega)
  have d2 : decide (2147483647 < tkx) = false := decide_eq_false (by omega)
  have d3 : ((j : Int) != -1) = true := bne_iff_ne.2 (by omega)
  clear h
  go_enter Tryd.func48, Tryd.ntmps48
  go_wp2_with (first
    | (go_at_call 23; (with_reducible refine (athere_in j hjn true HT _ H.out.ar).mono ?_); rintro e w1 ⟨rfl, rfl⟩)
    | (go_at_call 67; (with_reducible refine (chain_gsl j d hd hjn hth hpr _ H.out).mono ?_); rintro e w1 ⟨g, c', rfl, hr, hb⟩; have HB1 := Lib.hid hb; have hE1 := (hb.cell (p := ⟨3, 0, none⟩) hEl).trans hE.out; clear hr hb))
  go_quiet (fail)
  go_wp2_with fail
  go_ret3
  exact ⟨rfl, below_drewN HB1.out _⟩
end Go.Proofs.YtlefmgdfcpnifaaDoor
