/-
  package meter: Make, Charge.
-/
import Derived.Test.YtlefmgdfcpnifaaDoorMt
namespace Go.Proofs.YtlefmgdfcpnifaaDoor
open Go.ChangeShapes Go.WideShapes Go.ChangeAt Go.RowKit
set_option linter.unusedVariables false
theorem own_sl {w : World} {B E s n : Nat} {v : Value} {xs : List Value} (h : w.ownsRow B E s v n xs) (hn : 0 < n) : ∃ g c, v = .slice (some ⟨g, 0, none⟩) n c := by
  rcases h.2 with ⟨_, h0⟩ | ⟨g, cap, cur, rfl, _⟩
  · omega
  · exact ⟨g, cap, rfl⟩
theorem chain_sl {base P p B G n c : Nat} {th : Nat → Bool} {vr pr tk : Nat → Int} (j : Nat) (hj : j < n) (hth : Hid (∀ i, i ≤ j → th i = true)) (hpr : Hid (∀ i, i ≤ j → pr i = (i : Int) - 1)) (w : World) (h : MtAt w base P p B G n c th vr pr tk) :
    Calls Tryd.prog 67 #[.pointer (some ⟨P, 0, none⟩), .int .i64 j] w fun e w' => ∃ g c', e = .returned (.slice (some ⟨g, 0, none⟩) (j + 1) c') ∧ w'.ownsRow w.heap.size 3 1 (.slice (some ⟨g, 0, none⟩) (j + 1) c') (j + 1) ((dn j (j + 1)).map (Value.int .i64)) ∧ Below w.heap.size w w' := by
  refine (chain_is j hj hth hpr w h).mono fun e w' ⟨v, he, hr, hb⟩ => ?_
  obtain ⟨g, c', rfl⟩ := own_sl hr (by omega)
  exact ⟨g, c', he, hr, hb⟩
set_option maxRecDepth 100000 in
theorem mmake_zero {base P p B G n c : Nat} {th : Nat → Bool} {vr pr tk : Nat → Int} (tkx : Int) (t0 : 0 ≤ tkx) (t1 : tkx ≤ 1000) (hn0 : 0 < n) (hyes : Hid (freeB th vr 0 = true)) (v : Int) (hv : Hid (vr 0 = v)) (w : World) (h : MtAt w base P p B G n c th vr pr tk) :
    Calls Tryd.prog 48 #[.pointer (some ⟨P, 0, none⟩), .int .i64 (-1), .int .i64 tkx] w fun e w' => e = .returned (.tuple #[.int .i64 0, .int .i64 v, .nilIface]) ∧ MtAt w' base P p B G n c (upd th 0 true) vr (upd pr 0 (-1)) (upd tk 0 tkx) ∧ PBelow w w' B G := by
  have H := Lib.hid h
  have f0 := h.f0
  have hn := h.ar.le
  have d1 : decide (tkx < 0) = false := decide_eq_false (by omega)
  have d2 : decide (2147483647 < tkx) = false := decide_eq_false (by omega)
  clear h
  go_enter Tryd.func48, Tryd.ntmps48
  go_wp2_with (first
    | (go_at_call 67; (with_reducible refine (chain_none _ H.out).mono ?_); rintro e w1 ⟨rfl, rfl⟩)
    | (go_at_call 19; (with_reducible refine (atake_at 0 _ H.out.ar 0 (Lib.hid rfl) hn0 hyes (Lib.hid (by intro i hi; omega)) v hv).mono ?_); rintro e w2 ⟨rfl, hA, hg⟩; have H2 := Lib.hid (H.out.turn hA hg); have HB2 := Lib.hid (PBelow.of (G := G) hg (.inl rfl)); have f1 := H2.out.f1; have c0 := H2.out.at0 0 hn0; have c1 := H2.out.at1 0 hn0; have z0 := H2.out.row.frozenAt 0; have z1 := H2.out.row.frozenAt 1; have H3 := Lib.hid (H2.out.put0 0 hn0 (-1)); have H4 := Lib.hid (H3.out.1.put1 0 hn0 tkx); clear hA hg f0))
  go_ret3
  exact ⟨rfl, H4.out.1, (HB2.out.trans (PBelow.of H3.out.2 (.inr rfl))).trans (PBelow.of H4.out.2 (.inr rfl))⟩
set_option maxRecDepth 100000 in
theorem mmake_next {base P p B G n c : Nat} {th : Nat → Bool} {vr pr tk : Nat → Int} (j i : Nat) (hi : i = j + 1) (hj7 : j ≤ 6) (tkx : Int) (t0 : 0 ≤ tkx) (t1 : tkx ≤ 1000) (hin : i < n) (hth : Hid (∀ q, q ≤ j → th q = true)) (hpr : Hid (∀ q, q ≤ j → pr q = (q : Int) - 1)) (hyes : Hid (freeB th vr i = true)) (hno : Hid (∀ q, q < i → freeB th vr q = false)) (v : Int) (hv : Hid (vr i = v)) (w : World) (h : MtAt w base P p B G n c th vr pr tk) :
    Calls Tryd.prog 48 #[.pointer (some ⟨P, 0, none⟩), .int .i64 j, .int .i64 tkx] w fun e w' => e = .returned (.tuple #[.int .i64 i, .int .i64 v, .nilIface]) ∧ MtAt w' base P p B G n c (upd th i true) vr (upd pr i j) (upd tk i tkx) ∧ PBelow w w' B G := by
  have H := Lib.hid h
  have f0 := h.f0
  have hn := h.ar.le
  have HT := Lib.hid (hth.out j (by omega))
  have d1 : decide (tkx < 0) = false := decide_eq_false (by omega)
  have d2 : decide (2147483647 < tkx) = false := decide_eq_false (by omega)
  have d3 : ((j : Int) != -1) = true := bne_iff_ne.2 (by omega)
  have HI := Lib.hid hi
  have hjn : j < n := by omega
  have k0 : (0 : Int) ≤ i := by omega
  have k1 : (i : Int) < n := by omega
  clear h hi
  go_enter Tryd.func48, Tryd.ntmps48
  go_wp2_with (first
    | (go_at_call 23; (with_reducible refine (athere_in j hjn true HT _ H.out.ar).mono ?_); rintro e w1 ⟨rfl, rfl⟩)
    | (go_at_call 67; (with_reducible refine (chain_sl j hjn hth hpr _ H.out).mono ?_); rintro e w1 ⟨g, c', rfl, hr, hb⟩; have H1 := Lib.hid (H.out.below hb); have HB1 := Lib.hid (PBelow.of_below (B := B) (G := G) hb); clear f0; have f0 := H1.out.f0; clear hr hb)
    | (go_at_call 19; (with_reducible refine (atake_ok _ H1.out.ar i hin hyes hno v hv).mono ?_); rintro e w2 ⟨rfl, hA, hg⟩; have H2 := Lib.hid (H1.out.turn hA hg); have HB2 := Lib.hid (HB1.out.trans (PBelow.of (G := G) hg (.inl rfl))); have f1 := H2.out.f1; have c0 := H2.out.at0 i hin; have c1 := H2.out.at1 i hin; have z0 := H2.out.row.frozenAt (i * 2); have z1 := H2.out.row.frozenAt (i * 2 + 1); have H3 := Lib.hid (H2.out.put0 i hin j); have H4 := Lib.hid (H3.out.1.put1 i hin tkx); clear hA hg f0))
  go_ret3
  exact ⟨rfl, H4.out.1, (HB2.out.trans (PBelow.of H3.out.2 (.inr rfl))).trans (PBelow.of H4.out.2 (.inr rfl))⟩
/-- q of the chain charged. -/
def decq (tk : Nat → Int) (j q : Nat) : Nat → Int := fun i => if j < i + q ∧ i ≤ j then tk i - 1 else tk i
theorem decq_zero (tk : Nat → Int) (j : Nat) : decq tk j 0 = tk := by
  funext i
  unfold decq
  rw [if_neg (by omega)]
theorem decq_next (tk : Nat → Int) (j q r : Nat) (hr : r + q = j) : upd (decq tk j q) r (tk r - 1) = decq tk j (q + 1) := by
  funext i
  unfold upd decq
  by_cases e : i = r
  · subst e
    rw [if_pos rfl, if_pos (by omega)]
  · rw [if_neg e]
    by_cases h : j < i + q ∧ i ≤ j
    · rw [if_pos h, if_pos (by omega)]
    · rw [if_neg h, if_neg (by omega)]
set_option maxRecDepth 100000 in
set_option maxHeartbeats 2000000 in
theorem mcharge_ok {base P p B G n c : Nat} {th : Nat → Bool} {vr pr tk : Nat → Int} (j : Nat) (hjn : j < n) (hth : Hid (∀ q, q ≤ j → th q = true)) (hpr : Hid (∀ q, q ≤ j → pr q = (q : Int) - 1)) (htk : Hid (∀ q, q ≤ j → 1 ≤ tk q ∧ tk q ≤ 1000)) (w : World) (h : MtAt w base P p B G n c th vr pr tk) :
    Calls Tryd.prog 49 #[.pointer (some ⟨P, 0, none⟩), .int .i64 j, .int .i64 1] w fun e w' => e = .returned (.tuple #[.int .i64 0, .bool true]) ∧ MtAt w' base P p B G n c th vr pr (decq tk j (j + 1)) ∧ PBelow w w' B G := by
  have H := Lib.hid h
  have hn := h.ar.le
  clear h
  go_enter Tryd.func49, Tryd.ntmps49
  go_wp2_with (first
    | (go_at_call 67; (with_reducible refine (chain_sl j hjn hth hpr _ H.out).mono ?_); rintro e w1 ⟨g, c', rfl, hr, hb⟩; have H1 := Lib.hid (H.out.below hb); have HB1 := Lib.hid (PBelow.of_below (B := B) (G := G) hb); have HR := Lib.hid hr; have hgG : g ≠ G := (by have := (hr.lt g rfl).1; have := (H.out.row.lt G rfl).2; omega); clear hr hb))
  go_loop [25] (fun i => ∃ q : Nat, q ≤ j + 1 ∧ i = .int .i64 q) (fun i => j + 1 - (intOf i).toNat)
  case atStart => exact ⟨0, by omega, rfl⟩
  case round =>
    obtain ⟨q, hq, rfl⟩ := hrel
    by_cases hlt : q < j + 1
    · obtain ⟨r, hr⟩ : ∃ r : Nat, (j : Int) - q = r := ⟨j - q, by omega⟩
      have hrj : r ≤ j := by omega
      have cc : w1.cell? ⟨g, q, none⟩ = some (.int .i64 r) := by
        rw [HR.out.cellAt q (by omega), List.getElem?_map, dn_at _ _ _ hlt, hr]
        rfl
      have f1 := H1.out.f1
      obtain ⟨x, HX⟩ : ∃ x, Hid (tk r = x) := ⟨_, Lib.hid rfl⟩
      have c1 := H1.out.at1 r (by omega)
      rw [HX.out] at c1
      have hx := htk.out r hrj
      rw [HX.out] at hx
      obtain ⟨hx1, hx2⟩ := hx
      have k0 : (0 : Int) ≤ q := by omega
      have k1 : (q : Int) < (j : Int) + 1 := by omega
      have k2 : (0 : Int) ≤ r := by omega
      have k3 : (r : Int) < n := by omega
      have hd : decide (x < 1) = false := decide_eq_false (by omega)
      go_wp2_with fail
      go_round
      case rel => exact ⟨q + 1, by omega, by go_num⟩
      case measure => simp [intOf]; omega
    · obtain rfl : q = j + 1 := by omega
      have HD : Hid (MtAt w1 base P p B G n c th vr pr (decq tk j 0) ∧ w1.ownsRow w.heap.size 3 1 (.slice (some ⟨g, 0, none⟩) (j + 1) c') (j + 1) ((dn j (j + 1)).map (Value.int .i64)) ∧ PBelow w w1 B G) := Lib.hid ⟨by rw [decq_zero]; exact H1.out, HR.out, HB1.out⟩
      go_wp2_with fail
      try rw [show (((j + 1 : Nat)) : Int) = (j : Int) + 1 by omega]
      go_loopw [43] (fun i wr => ∃ q : Nat, q ≤ j + 1 ∧ i = .int .i64 q ∧ MtAt wr base P p B G n c th vr pr (decq tk j q) ∧ wr.ownsRow w.heap.size 3 1 (.slice (some ⟨g, 0, none⟩) (j + 1) c') (j + 1) ((dn j (j + 1)).map (Value.int .i64)) ∧ PBelow w wr B G) (fun i _ => j + 1 - (intOf i).toNat)
      case atStart => exact ⟨0, by omega, rfl, HD.out⟩
      case round =>
        obtain ⟨q, hq2, rfl, hM, hR, hP⟩ := hrel
        have HM := Lib.hid hM
        have HR2 := Lib.hid hR
        have HP := Lib.hid hP
        clear hM hR hP
        by_cases hlt2 : q < j + 1
        · obtain ⟨r, hr⟩ : ∃ r : Nat, (j : Int) - q = r := ⟨j - q, by omega⟩
          have hrj : r ≤ j := by omega
          have cc : wr.cell? ⟨g, q, none⟩ = some (.int .i64 r) := by
            rw [HR2.out.cellAt q (by omega), List.getElem?_map, dn_at _ _ _ hlt2, hr]
            rfl
          have f1 := HM.out.f1
          obtain ⟨x, HX⟩ : ∃ x, Hid (tk r = x) := ⟨_, Lib.hid rfl⟩
          have c1 := HM.out.at1 r (by omega)
          have e1 : decq tk j q r = x := by
            unfold decq
            rw [if_neg (by omega), HX.out]
          rw [e1] at c1
          have z1 := HM.out.row.frozenAt (r * 2 + 1)
          have hx := htk.out r hrj
          rw [HX.out] at hx
          obtain ⟨hx1, hx2⟩ := hx
          have k0 : (0 : Int) ≤ q := by omega
          have k1 : (q : Int) < (j : Int) + 1 := by omega
          have k2 : (0 : Int) ≤ r := by omega
          have k3 : (r : Int) < n := by omega
          have HN := Lib.hid (HM.out.put1 r (by omega) (x - 1))
          have HE : Hid (upd (decq tk j q) r (x - 1) = decq tk j (q + 1)) := Lib.hid (by rw [← HX.out]; exact decq_next tk j q r (by omega))
          clear e1
          go_wp2_with fail
          go_roundw
          case rel => exact ⟨q + 1, by omega, by go_num, by rw [← HE.out]; exact HN.out.1, HR2.out.kept HN.out.2 (.inr (fun e => hgG (by simpa [Value.ownBlock] using e))), HP.out.trans (PBelow.of HN.out.2 (.inr rfl))⟩
          case measure => simp [intOf]; omega
        · obtain rfl : q = j + 1 := by omega
          go_wp2_with fail
          go_ret2
          exact ⟨rfl, HM.out, HP.out⟩
set_option maxRecDepth 100000 in
set_option maxHeartbeats 2000000 in
theorem mcharge_short {base P p B G n c : Nat} {th : Nat → Bool} {vr pr tk : Nat → Int} (j m : Nat) (hjn : j < n) (hmj : m ≤ j) (hth : Hid (∀ q, q ≤ j → th q = true)) (hpr : Hid (∀ q, q ≤ j → pr q = (q : Int) - 1)) (htk : Hid (∀ q, m < q → q ≤ j → 1 ≤ tk q)) (hm : Hid (tk m < 1)) (w : World) (h : MtAt w base P p B G n c th vr pr tk) :
    Calls Tryd.prog 49 #[.pointer (some ⟨P, 0, none⟩), .int .i64 j, .int .i64 1] w fun e w' => e = .returned (.tuple #[.int .i64 m, .bool false]) ∧ Below w.heap.size w w' := by
  have H := Lib.hid h
  have hn := h.ar.le
  clear h
  go_enter Tryd.func49, Tryd.ntmps49
  go_wp2_with (first
    | (go_at_call 67; (with_reducible refine (chain_sl j hjn hth hpr _ H.out).mono ?_); rintro e w1 ⟨g, c', rfl, hr, hb⟩; have H1 := Lib.hid (H.out.below hb); have HB1 := Lib.hid hb; have HR := Lib.hid hr; clear hr hb))
  go_loop [25] (fun i => ∃ q : Nat, q + m ≤ j ∧ i = .int .i64 q) (fun i => j + 1 - (intOf i).toNat)
  case atStart => exact ⟨0, by omega, rfl⟩
  case round =>
    obtain ⟨q, hq, rfl⟩ := hrel
    obtain ⟨r, hr⟩ : ∃ r : Nat, (j : Int) - q = r := ⟨j - q, by omega⟩
    have hrj : r ≤ j := by omega
    have cc : w1.cell? ⟨g, q, none⟩ = some (.int .i64 r) := by
      rw [HR.out.cellAt q (by omega), List.getElem?_map, dn_at _ _ _ (by omega), hr]
      rfl
    have f1 := H1.out.f1
    obtain ⟨x, HX⟩ : ∃ x, Hid (tk r = x) := ⟨_, Lib.hid rfl⟩
    have c1 := H1.out.at1 r (by omega)
    rw [HX.out] at c1
    have k0 : (0 : Int) ≤ q := by omega
    have k1 : (q : Int) < (j : Int) + 1 := by omega
    have k2 : (0 : Int) ≤ r := by omega
    have k3 : (r : Int) < n := by omega
    by_cases hlt : q + m < j
    · have hx := htk.out r (by omega) hrj
      rw [HX.out] at hx
      have hd : decide (x < 1) = false := decide_eq_false (by omega)
      go_wp2_with fail
      go_round
      case rel => exact ⟨q + 1, by omega, by go_num⟩
      case measure => simp [intOf]; omega
    · obtain rfl : r = m := by omega
      have hx := hm.out
      rw [HX.out] at hx
      have hd : decide (x < 1) = true := decide_eq_true hx
      go_wp2_with fail
      go_ret2
      exact ⟨rfl, HB1.out⟩
end Go.Proofs.YtlefmgdfcpnifaaDoor
