/-
  MeterCharges.
-/
import Derived.Test.YtlefmgdfcpnifaaDoorMt2
import Derived.Test.YtlefmgdfcpnifaaDoorArV
import Derived.Test.YtlefmgdfcpnifaaDoorArLw
namespace Go.Proofs.YtlefmgdfcpnifaaDoor
open Go.ChangeShapes Go.WideShapes Go.ChangeAt Go.RowKit
set_option linter.unusedVariables false
/-- Meters over a law's start. -/
structure MV (W0 w : World) (base P p B G n c : Nat) (th : Nat → Bool) (vr pr tk : Nat → Int) : Prop where
  bel : Below W0.heap.size W0 w
  wb : W0.heap.size ≤ base
  mt : MtAt w base P p B G n c th vr pr tk
section
variable {W0 w w' : World} {base P p B G n c : Nat} {th th' : Nat → Bool} {vr vr' pr pr' tk tk' : Nat → Int}
theorem MV.lo (h : MV W0 w base P p B G n c th vr pr tk) : W0.heap.size ≤ B ∧ W0.heap.size ≤ G := ⟨Nat.le_trans h.wb h.mt.ar.lt.1, Nat.le_trans h.wb (h.mt.row.lt G rfl).1⟩
theorem MV.step (h : MV W0 w base P p B G n c th vr pr tk) (hb : Below w.heap.size w w') : MV W0 w' base P p B G n c th vr pr tk := ⟨h.bel.trans (hb.mono h.bel.size), h.wb, h.mt.below hb⟩
theorem MV.made (h : MV W0 w base P p B G n c th vr pr tk) (hP : MtAt w' base P p B G n c th' vr' pr' tk') (hb : PBelow w w' B G) : MV W0 w' base P p B G n c th' vr' pr' tk' := ⟨h.bel.trans (hb.below h.lo.1 h.lo.2 h.bel.size), h.wb, hP⟩
theorem MV.congr (h : MV W0 w base P p B G n c th vr pr tk) (h1 : ∀ i, i < n → th i = th' i) (h3 : ∀ i, i < n → pr i = pr' i) (h4 : ∀ i, i < n → tk i = tk' i) : MV W0 w base P p B G n c th' vr pr' tk' := ⟨h.bel, h.wb, h.mt.congr h1 (fun _ _ => rfl) h3 h4⟩
end
theorem mmake_v {base P p B G n c : Nat} {th : Nat → Bool} {vr pr tk : Nat → Int} (k : Nat) (hk7 : k ≤ 7) (pa ii tkx : Int) (hpa : Hid (pa = (k : Int) - 1)) (hii : Hid ((k : Int) = ii)) (t0 : 0 ≤ tkx) (t1 : tkx ≤ 1000) (hkn : k < n) (hth : Hid (∀ q, q < k → th q = true)) (hpr : Hid (∀ q, q < k → pr q = (q : Int) - 1)) (hyes : Hid (freeB th vr k = true)) (hno : Hid (∀ q, q < k → freeB th vr q = false)) (v : Int) (hv : Hid (vr k = v)) (w : World) (h : MtAt w base P p B G n c th vr pr tk) :
    Calls Tryd.prog 48 #[.pointer (some ⟨P, 0, none⟩), .int .i64 pa, .int .i64 tkx] w fun e w' => e = .returned (.tuple #[.int .i64 ii, .int .i64 v, .nilIface]) ∧ MtAt w' base P p B G n c (upd th k true) vr (upd pr k pa) (upd tk k tkx) ∧ PBelow w w' B G := by
  rw [← hii.out]
  have e := hpa.out
  cases k with
  | zero =>
    obtain rfl : pa = -1 := by omega
    exact mmake_zero tkx t0 t1 hkn hyes v hv w h
  | succ j =>
    obtain rfl : pa = (j : Int) := by omega
    exact mmake_next j (j + 1) rfl (by omega) tkx t0 t1 hkn (Lib.hid (fun q hq => hth.out q (by omega))) (Lib.hid (fun q hq => hpr.out q (by omega))) hyes hno v hv w h
theorem mch_ok {base P p B G n c : Nat} {th : Nat → Bool} {vr pr tk : Nat → Int} (j : Nat) (x : Int) (hx : Hid (x = (j : Int))) (hjn : j < n) (hth : Hid (∀ q, q ≤ j → th q = true)) (hpr : Hid (∀ q, q ≤ j → pr q = (q : Int) - 1)) (htk : Hid (∀ q, q ≤ j → 1 ≤ tk q ∧ tk q ≤ 1000)) (w : World) (h : MtAt w base P p B G n c th vr pr tk) :
    Calls Tryd.prog 49 #[.pointer (some ⟨P, 0, none⟩), .int .i64 x, .int .i64 1] w fun e w' => e = .returned (.tuple #[.int .i64 0, .bool true]) ∧ MtAt w' base P p B G n c th vr pr (decq tk j (j + 1)) ∧ PBelow w w' B G := by
  rw [hx.out]
  exact mcharge_ok j hjn hth hpr htk w h
theorem mch_no {base P p B G n c : Nat} {th : Nat → Bool} {vr pr tk : Nat → Int} (j m : Nat) (x y : Int) (hx : Hid (x = (j : Int))) (hy : Hid ((m : Int) = y)) (hjn : j < n) (hmj : m ≤ j) (hth : Hid (∀ q, q ≤ j → th q = true)) (hpr : Hid (∀ q, q ≤ j → pr q = (q : Int) - 1)) (htk : Hid (∀ q, m < q → q ≤ j → 1 ≤ tk q)) (hm : Hid (tk m < 1)) (w : World) (h : MtAt w base P p B G n c th vr pr tk) :
    Calls Tryd.prog 49 #[.pointer (some ⟨P, 0, none⟩), .int .i64 x, .int .i64 1] w fun e w' => e = .returned (.tuple #[.int .i64 y, .bool false]) ∧ Below w.heap.size w w' := by
  rw [hx.out, ← hy.out]
  exact mcharge_short j m hjn hmj hth hpr htk hm w h
theorem mtk_at {base P p B G n c : Nat} {th : Nat → Bool} {vr pr tk : Nat → Int} (k : Nat) (y x : Int) (hy : Hid (y = (k : Int))) (hk : k < n) (ht : Hid (th k = true)) (hx : Hid (tk k = x)) (w : World) (h : MtAt w base P p B G n c th vr pr tk) :
    Calls Tryd.prog 50 #[.pointer (some ⟨P, 0, none⟩), .int .i64 y] w fun e w' => e = .returned (.int .i64 x) ∧ w = w' := by
  rw [hy.out]
  exact mticks_is k hk ht x hx w h
set_option maxRecDepth 100000 in
theorem mfirst_is (w : World) : Calls Tryd.prog 46 #[] w fun e w' => e = .returned (.bool true) ∧ Below w.heap.size w w' := by
  go_enter Tryd.func46, Tryd.ntmps46
  go_wp2_with (first
    | (go_at_call 47; (with_reducible refine (mnew_ok 4 4 (Lib.hid rfl) (by decide) (by decide) _).mono ?_); rintro e w1 ⟨P, p, B, G, rfl, hP, hb⟩; have HV := Lib.hid (MV.mk hb (Nat.le_refl _) hP : MV w w1 w.heap.size P p B G 4 4 _ _ _ _); clear hP hb)
    | (go_at_call 48; (with_reducible refine (mmake_v 0 (by decide) (-1) 0 0 (Lib.hid rfl) (Lib.hid rfl) (by decide) (by decide) (by decide) (Lib.hid (by intro i hi; omega)) (Lib.hid (by intro i hi; omega)) (Lib.hid (by decide)) (Lib.hid (by intro i hi; omega)) 0 (Lib.hid rfl) _ HV.out.mt).mono ?_); rintro e w2 ⟨rfl, hP2, hb2⟩; have HV2 := Lib.hid (HV.out.made hP2 hb2); clear hP2 hb2)
    | (go_at_call 48; (with_reducible refine (mmake_v 1 (by decide) 0 1 5 (Lib.hid rfl) (Lib.hid rfl) (by decide) (by decide) (by decide) (Lib.hid (by decide)) (Lib.hid (by decide)) (Lib.hid (by decide)) (Lib.hid (by decide)) 0 (Lib.hid rfl) _ HV2.out.mt).mono ?_); rintro e w3 ⟨rfl, hP3, hb3⟩; have HV3 := Lib.hid (HV2.out.made hP3 hb3); clear hP3 hb3)
    | (go_at_call 49; (with_reducible refine (mch_no 1 0 1 0 (Lib.hid rfl) (Lib.hid rfl) (by decide) (by decide) (Lib.hid (by decide)) (Lib.hid (by decide)) (Lib.hid (by intro q h1 h2; obtain rfl : q = 1 := (by omega); decide)) (Lib.hid (by decide)) _ HV3.out.mt).mono ?_); rintro e w4 ⟨rfl, hb4⟩; have HV4 := Lib.hid (HV3.out.step hb4); clear hb4)
    | (go_at_call 50; (with_reducible refine (mtk_at 1 1 5 (Lib.hid rfl) (by decide) (Lib.hid (by decide)) (Lib.hid (by decide)) _ HV4.out.mt).mono ?_); rintro e w5 ⟨rfl, rfl⟩))
  go_ret
  exact ⟨rfl, HV4.out.bel⟩
def t0 (zs : List Int) (i : Nat) : Int := zs.getD i 0 % 40
theorem t0_lo (zs : List Int) (i : Nat) : 0 ≤ t0 zs i := Int.emod_nonneg _ (by decide)
theorem t0_hi (zs : List Int) (i : Nat) : t0 zs i < 40 := Int.emod_lt_of_pos _ (by decide)
def prK (k : Nat) (i : Nat) : Int := if i < k then (i : Int) - 1 else 0
def tkK (zs : List Int) (k : Nat) (i : Nat) : Int := if i < k then t0 zs i else 0
def tkT (zs : List Int) (len : Nat) (m : Int) (i : Nat) : Int := if i < len then t0 zs i - m else 0
def LA (zs : List Int) (k : Nat) (L A : Int) : Prop := 0 ≤ L ∧ L ≤ 1073741824 ∧ (k = 0 ∧ L = 1073741824 ∧ A = -1 ∨ ∃ m : Nat, m < k ∧ A = m ∧ t0 zs m = L ∧ (∀ i, i < k → L ≤ t0 zs i) ∧ ∀ i, m < i → i < k → L < t0 zs i)
theorem LA.yes {zs : List Int} {k : Nat} {L A : Int} (h : LA zs k L A) (hx : t0 zs k ≤ L) : LA zs (k + 1) (t0 zs k) k := by
  have h1 := t0_lo zs k
  have h2 := t0_hi zs k
  refine ⟨h1, by omega, .inr ⟨k, by omega, rfl, rfl, fun i hi => ?_, fun i h3 h4 => by omega⟩⟩
  by_cases e : i = k
  · subst e; omega
  · rcases h.2.2 with ⟨rfl, _⟩ | ⟨m, _, _, _, h5, _⟩
    · omega
    · have := h5 i (by omega); omega
theorem LA.no {zs : List Int} {k : Nat} {L A : Int} (h : LA zs k L A) (hx : ¬ t0 zs k ≤ L) : LA zs (k + 1) L A := by
  have h2 := t0_hi zs k
  refine ⟨h.1, h.2.1, .inr ?_⟩
  rcases h.2.2 with ⟨rfl, e, _⟩ | ⟨m, h3, h4, h5, h6, h7⟩
  · omega
  · refine ⟨m, by omega, h4, h5, fun i hi => ?_, fun i h8 h9 => ?_⟩
    · by_cases e : i = k
      · subst e; omega
      · exact h6 i (by omega)
    · by_cases e : i = k
      · subst e; omega
      · exact h7 i h8 (by omega)
set_option maxRecDepth 100000 in
theorem charges_big (a : Option Addr) (len cap : Nat) (t : Int) (h : 8 < len ∨ len = 0) (w : World) :
    Calls Tryd.prog 12 #[.slice a len cap, .int .i64 t] w fun e w' => e = .returned (.bool true) ∧ Below w.heap.size w w' := by
  rcases h with h | rfl
  · have d1 : decide ((8 : Int) < (len : Int)) = true := by simp; omega
    go_enter Tryd.func12, Tryd.ntmps12
    go_wp2_with (first | (go_at_call 46; refine (mfirst_is _).mono ?_; rintro e w1 ⟨rfl, hb1⟩; have HB1 := Lib.hid hb1; clear hb1))
    go_ret
    exact ⟨rfl, HB1.out⟩
  · go_enter Tryd.func12, Tryd.ntmps12
    go_wp2_with (first | (go_at_call 46; refine (mfirst_is _).mono ?_; rintro e w1 ⟨rfl, hb1⟩; have HB1 := Lib.hid hb1; clear hb1))
    go_ret
    exact ⟨rfl, HB1.out⟩
theorem thK_put (k : Nat) : upd (thK k) k true = thK (k + 1) := by
  funext i
  unfold upd thK
  by_cases e : i = k
  · subst e; simp
  · by_cases h : i < k
    · simp [e, h]; omega
    · simp [e, h]; omega
theorem prK_put (k : Nat) (x : Int) (hx : x = (k : Int) - 1) : upd (prK k) k x = prK (k + 1) := by
  funext i
  unfold upd prK
  by_cases e : i = k
  · subst e; simp [hx]
  · rw [if_neg e]
    by_cases h : i < k
    · rw [if_pos h, if_pos (by omega)]
    · rw [if_neg h, if_neg (by omega)]
theorem tkK_put (zs : List Int) (k : Nat) (x : Int) (hx : x = t0 zs k) : upd (tkK zs k) k x = tkK zs (k + 1) := by
  funext i
  unfold upd tkK
  by_cases e : i = k
  · subst e; simp [hx]
  · rw [if_neg e]
    by_cases h : i < k
    · rw [if_pos h, if_pos (by omega)]
    · rw [if_neg h, if_neg (by omega)]
theorem tkT_zero (zs : List Int) (len : Nat) : tkK zs len = tkT zs len 0 := by
  funext i
  unfold tkK tkT
  simp
theorem tkT_next (zs : List Int) (j : Nat) (m m' : Int) (hm : m' = m + 1) : decq (tkT zs (j + 1) m) j (j + 1) = tkT zs (j + 1) m' := by
  funext i
  unfold decq tkT
  by_cases h : i < j + 1
  · rw [if_pos (by omega), if_pos h, if_pos h]
    omega
  · rw [if_neg (by omega), if_neg h, if_neg h]
theorem mtk_b {base P p B G n c : Nat} {th : Nat → Bool} {vr pr tk : Nat → Int} (k : Nat) (x : Int) (hk : k < n) (ht : Hid (th k = true)) (hx : Hid (tk k = x)) (w : World) (h : MtAt w base P p B G n c th vr pr tk) :
    Calls Tryd.prog 50 #[.pointer (some ⟨P, 0, none⟩), .int .i64 k] w fun e w' => e = .returned (.int .i64 x) ∧ Below w.heap.size w w' :=
  (mticks_is k hk ht x hx w h).mono fun e w' ⟨h1, h2⟩ => ⟨h1, by subst h2; exact Below.refl _ _⟩
theorem num_b (n m r : Int) (hm0 : 0 < m) (hm : m ≤ 1000) (h1 : -9223372036854775808 ≤ n) (h2 : n ≤ 9223372036854775807) (hr : Hid (n % m = r)) (w : World) :
    Calls Tryd.prog 26 #[.int .i64 n, .int .i64 m] w fun e w' => e = .returned (.int .i64 r) ∧ Below w.heap.size w w' :=
  (number_is n m r hm0 hm h1 h2 hr w).mono fun e w' ⟨h1, h2⟩ => ⟨h1, by subst h2; exact Below.refl _ _⟩
theorem mkeep {W w w' : World} {base P p B G n c i : Nat} {th : Nat → Bool} {vr pr tk : Nat → Int} {ad : Addr} {x : Value} (h : MV W w base P p B G n c th vr pr tk ∧ w.cell? (ad.add i) = some x ∧ ad.block < w.heap.size) (hb : Below w.heap.size w w') : MV W w' base P p B G n c th vr pr tk ∧ w'.cell? (ad.add i) = some x ∧ ad.block < w'.heap.size :=
  ⟨h.1.step hb, (hb.cell (p := ad.add i) (by rw [add_block']; exact h.2.2)).trans h.2.1, Nat.lt_of_lt_of_le h.2.2 hb.size⟩
set_option maxRecDepth 100000 in
set_option maxHeartbeats 8000000 in
theorem charges_small (a : Option Addr) (j cap : Nat) (zs : List Int) (t : Int) (g1 : -9223372036854775808 ≤ t) (g2 : t ≤ 9223372036854775807) (hl : j ≤ 7) (w : World) (ha0 : a = none → j + 1 = 0) (hN : Nums w a (j + 1) zs) (len : Nat) (hlen : len = j + 1) :
    Calls Tryd.prog 12 #[.slice a len cap, .int .i64 t] w fun e w' => e = .returned (.bool true) ∧ Below w.heap.size w w' := by
  obtain ⟨R, hR, CR⟩ := number_nat t 60 60 rfl (by decide) (by decide) g1 g2
  have CR' := Lib.hid CR
  have HN := Lib.hid hN
  have HLE := Lib.hid hlen
  have hd : decide ((8 : Int) < (len : Int)) = false := by simp; omega
  have hd0 : ((len : Int) == 0) = false := by simp; omega
  have hl8 : len ≤ 8 := by omega
  have hl1 : 1 ≤ len := by omega
  obtain ⟨ad, rfl⟩ : ∃ ad, a = some ad := by
    cases a with
    | none => have := ha0 rfl; omega
    | some x => exact ⟨x, rfl⟩
  clear CR g1 g2 hN ha0 hlen
  go_enter Tryd.func12, Tryd.ntmps12
  go_wp2_with (first
    | (go_at_call 46; refine (mfirst_is _).mono ?_; rintro e w1 ⟨rfl, hb1⟩; have HB1 := Lib.hid hb1; clear hb1)
    | (go_at_call 26; (with_reducible refine (CR'.out _).mono ?_); rintro e w2 ⟨rfl, rfl⟩)
    | (go_at_call 47; (with_reducible refine (mnew_ok 8 8 (Lib.hid rfl) (by decide) (by decide) _).mono ?_); rintro e w2 ⟨P, p, B, G, rfl, hP, hb⟩; have HV : Hid (MV w w2 w1.heap.size P p B G 8 8 (thK 0) (fun _ => 0) (prK 0) (tkK zs 0)) := Lib.hid ⟨HB1.out.trans (hb.mono HB1.out.size), HB1.out.size, hP.congr (fun i _ => by simp [thK]) (fun _ _ => rfl) (fun i _ => by simp [prK]) (fun i _ => by simp [tkK])⟩; clear hP hb))
  go_loopw [8, 9, 10] (fun x y z wr => ∃ k : Nat, k ≤ len ∧ z = .int .i64 k ∧ ∃ L A : Int, x = .int .i64 L ∧ y = .int .i64 A ∧ LA zs k L A ∧ MV w wr w1.heap.size P p B G 8 8 (thK k) (fun _ => 0) (prK k) (tkK zs k)) (fun _ _ z _ => len - (intOf z).toNat)
  case atStart => exact ⟨0, by omega, rfl, 1073741824, -1, rfl, rfl, ⟨by omega, by omega, .inl ⟨rfl, rfl, rfl⟩⟩, HV.out⟩
  case round =>
    obtain ⟨k, hk, rfl, L, A, rfl, rfl, hLA, hV⟩ := hrel
    have HLA := Lib.hid hLA
    have HV1 := Lib.hid hV
    have hL0 := hLA.1
    have hL1 := hLA.2.1
    clear hLA hV
    by_cases hlt : k < len
    · obtain ⟨hb, hc⟩ := HN.out ad rfl (by omega)
      obtain ⟨hc0, hz1, hz2⟩ := hc k (by have := HLE.out; omega)
      have hcell := (HV1.out.bel.cell (p := ad.add k) (by rw [add_block']; exact hb)).trans hc0
      obtain ⟨x, HX⟩ : ∃ x, Hid (t0 zs k = x) := ⟨_, Lib.hid rfl⟩
      have hx0 : 0 ≤ x := by rw [← HX.out]; exact t0_lo zs k
      have hx1 : x < 40 := by rw [← HX.out]; exact t0_hi zs k
      obtain ⟨z, HZ⟩ : ∃ z, Hid (zs.getD k 0 = z) := ⟨_, Lib.hid rfl⟩
      have CK := Lib.hid (number_is z 40 x (by decide) (by decide) (by rw [← HZ.out]; exact hz1) (by rw [← HZ.out]; exact hz2) (Lib.hid (by rw [← HX.out, ← HZ.out]; rfl)))
      rw [HZ.out] at hcell
      have HF : Hid (freeB (thK k) (fun _ => 0) k = true) := Lib.hid (by simp [freeB, thK])
      have HNo : Hid (∀ i, i < k → freeB (thK k) (fun _ => 0) i = false) := Lib.hid (by intro i hi; simp [freeB, thK, hi])
      have HT : Hid (∀ i, i < k → thK k i = true) := Lib.hid (by intro i hi; simp [thK, hi])
      have HP : Hid (∀ i, i < k → prK k i = (i : Int) - 1) := Lib.hid (by intro i hi; simp [prK, hi])
      have k0 : (0 : Int) ≤ k := by omega
      have k1 : (k : Int) < len := by omega
      clear hb hc hc0 hz1 hz2
      by_cases hle : x ≤ L
      · have hLN := Lib.hid (HLA.out.yes (by rw [HX.out]; exact hle))
        rw [HX.out] at hLN
        go_wp2_with (first
          | (go_at_call 26; (with_reducible refine (CK.out _).mono ?_); rintro e w7 ⟨rfl, rfl⟩)
          | (go_at_call 48; (with_reducible refine (mmake_v k (by omega) _ k x (Lib.hid rfl) (Lib.hid rfl) hx0 (by omega) (by omega) HT HP HF HNo 0 (Lib.hid rfl) _ HV1.out.mt).mono ?_); rintro e w8 ⟨rfl, hM, hb⟩; have HV8 : Hid (MV w w8 w1.heap.size P p B G 8 8 (thK (k + 1)) (fun _ => 0) (prK (k + 1)) (tkK zs (k + 1))) := Lib.hid (HV1.out.made (by rw [← thK_put, ← prK_put k _ rfl, ← tkK_put zs k x HX.out.symm]; exact hM) hb); clear hM hb))
        go_roundw
        case rel => exact ⟨k + 1, by omega, by go_num, x, k, rfl, rfl, hLN.out, HV8.out⟩
        case measure => simp [intOf]; omega
      · have hLN := Lib.hid (HLA.out.no (by rw [HX.out]; exact hle))
        go_wp2_with (first
          | (go_at_call 26; (with_reducible refine (CK.out _).mono ?_); rintro e w7 ⟨rfl, rfl⟩)
          | (go_at_call 48; (with_reducible refine (mmake_v k (by omega) _ k x (Lib.hid rfl) (Lib.hid rfl) hx0 (by omega) (by omega) HT HP HF HNo 0 (Lib.hid rfl) _ HV1.out.mt).mono ?_); rintro e w8 ⟨rfl, hM, hb⟩; have HV8 : Hid (MV w w8 w1.heap.size P p B G 8 8 (thK (k + 1)) (fun _ => 0) (prK (k + 1)) (tkK zs (k + 1))) := Lib.hid (HV1.out.made (by rw [← thK_put, ← prK_put k _ rfl, ← tkK_put zs k x HX.out.symm]; exact hM) hb); clear hM hb))
        go_roundw
        case rel => exact ⟨k + 1, by omega, by go_num, L, A, rfl, rfl, hLN.out, HV8.out⟩
        case measure => simp [intOf]; omega
    · obtain rfl : k = len := by omega
      have HT : Hid (∀ i, i ≤ j → thK k i = true) := Lib.hid (by intro i hi; have := HLE.out; simp [thK]; omega)
      have HP : Hid (∀ i, i ≤ j → prK k i = (i : Int) - 1) := Lib.hid (by intro i hi; have := HLE.out; unfold prK; rw [if_pos (by omega)])
      obtain ⟨m, HM⟩ : ∃ m : Nat, Hid (m < k ∧ A = m ∧ t0 zs m = L ∧ (∀ i, i < k → L ≤ t0 zs i) ∧ ∀ i, m < i → i < k → L < t0 zs i) := by
        rcases HLA.out.2.2 with ⟨h, _⟩ | ⟨m, h⟩
        · omega
        · exact ⟨m, Lib.hid h⟩
      have hL40 : L < 40 := by rw [← HM.out.2.2.1]; exact t0_hi zs m
      have hA0 : 0 ≤ A := by have := HM.out.2.1; omega
      have hA1 : A < 9 := by have := HM.out.2.1; have := HM.out.1; omega
      have HV2 : Hid (MV w wr w1.heap.size P p B G 8 8 (thK k) (fun _ => 0) (prK k) (tkT zs k 0)) := Lib.hid (by rw [← tkT_zero]; exact HV1.out)
      go_wp2_with fail
      go_loopw [16] (fun z wx => ∃ u : Nat, ∃ q : Int, u ≤ R ∧ z = .int .i64 u ∧ q = min (u : Int) L ∧ MV w wx w1.heap.size P p B G 8 8 (thK k) (fun _ => 0) (prK k) (tkT zs k q)) (fun z _ => R - (intOf z).toNat)
      case atStart => exact ⟨0, 0, by omega, rfl, by omega, HV2.out⟩
      case round =>
        obtain ⟨u, q, hu, rfl, hq, hV⟩ := hrel
        have HVu := Lib.hid hV
        have HQ := Lib.hid hq
        clear hV hq
        by_cases hur : u < R
        · have u0 : (0 : Int) ≤ u := by omega
          by_cases huL : (u : Int) < L
          · have HK : Hid (∀ i, i ≤ j → 1 ≤ tkT zs k q i ∧ tkT zs k q i ≤ 1000) := Lib.hid (by
              intro i hi
              have h1 := HM.out.2.2.2.1 i (by have := HLE.out; omega)
              have h2 := t0_hi zs i
              have h3 := HQ.out
              unfold tkT
              rw [if_pos (by have := HLE.out; omega)]
              omega)
            go_wp2_with (first
              | (go_at_call 49; (with_reducible refine (mch_ok j _ (Lib.hid (by have := HLE.out; omega)) (by omega) HT HP HK _ HVu.out.mt).mono ?_); rintro e w8 ⟨rfl, hM, hb⟩; have HV8 : Hid (MV w w8 w1.heap.size P p B G 8 8 (thK k) (fun _ => 0) (prK k) (tkT zs k (q + 1))) := Lib.hid (HVu.out.made (by rw [HLE.out] at hM ⊢; rw [tkT_next zs j q _ rfl] at hM; exact hM) hb); clear hM hb))
            go_roundw
            case rel => exact ⟨u + 1, q + 1, by omega, by go_num, by have := HQ.out; omega, HV8.out⟩
            case measure => simp [intOf]; omega
          · have HK : Hid (∀ i, m < i → i ≤ j → 1 ≤ tkT zs k q i) := Lib.hid (by
              intro i hi hj
              have h1 := HM.out.2.2.2.2 i hi (by have := HLE.out; omega)
              have h3 := HQ.out
              unfold tkT
              rw [if_pos (by have := HLE.out; omega)]
              omega)
            have HK0 : Hid (tkT zs k q m < 1) := Lib.hid (by
              have h1 := HM.out.2.2.1
              have h3 := HQ.out
              unfold tkT
              rw [if_pos HM.out.1]
              omega)
            go_wp2_with (first
              | (go_at_call 49; (with_reducible refine (mch_no j m _ A (Lib.hid (by have := HLE.out; omega)) (Lib.hid HM.out.2.1.symm) (by omega) (by have := HM.out.1; have := HLE.out; omega) HT HP HK HK0 _ HVu.out.mt).mono ?_); rintro e w8 ⟨rfl, hb⟩; have HV8 := Lib.hid (HVu.out.step hb); clear hb))
            go_roundw
            case rel => exact ⟨u + 1, q, by omega, by go_num, by have := HQ.out; omega, HV8.out⟩
            case measure => simp [intOf]; omega
        · obtain rfl : u = R := by omega
          have hdd : decide (u < u) = false := by simp
          go_wp2_with fail
          go_loopw [19] (fun z wx => ∃ i : Nat, i ≤ k ∧ z = .int .i64 i ∧ MV w wx w1.heap.size P p B G 8 8 (thK k) (fun _ => 0) (prK k) (tkT zs k q)) (fun z _ => k - (intOf z).toNat)
          case atStart => exact ⟨0, by omega, rfl, HVu.out⟩
          case round =>
            obtain ⟨i, hi, rfl, hV⟩ := hrel
            have HVi := Lib.hid hV
            clear hV
            by_cases hik : i < k
            · obtain ⟨hb, hc⟩ := HN.out ad rfl (by omega)
              obtain ⟨hc0, hz1, hz2⟩ := hc i (by have := HLE.out; omega)
              have hcell := (HVi.out.bel.cell (p := ad.add i) (by rw [add_block']; exact hb)).trans hc0
              obtain ⟨x, HX⟩ : ∃ x, Hid (t0 zs i = x) := ⟨_, Lib.hid rfl⟩
              have hx0 : 0 ≤ x := by rw [← HX.out]; exact t0_lo zs i
              have hx1 : x < 40 := by rw [← HX.out]; exact t0_hi zs i
              obtain ⟨z, HZ⟩ : ∃ z, Hid (zs.getD i 0 = z) := ⟨_, Lib.hid rfl⟩
              have CK := Lib.hid (number_is z 40 x (by decide) (by decide) (by rw [← HZ.out]; exact hz1) (by rw [← HZ.out]; exact hz2) (Lib.hid (by rw [← HX.out, ← HZ.out]; rfl)))
              rw [HZ.out] at hcell
              have HB := Lib.hid (show ad.block < wr.heap.size by have := HVi.out.bel.size; omega)
              have k0 : (0 : Int) ≤ i := by omega
              have k1 : (i : Int) < k := by omega
              have HTi : Hid (thK k i = true) := Lib.hid (by simp [thK, hik])
              have CN := Lib.hid (num_b z 40 x (by decide) (by decide) (by rw [← HZ.out]; exact hz1) (by rw [← HZ.out]; exact hz2) (Lib.hid (by rw [← HX.out, ← HZ.out]; rfl)))
              clear CK
              have HTk : Hid (tkT zs k q i = x - q) := Lib.hid (by unfold tkT; rw [if_pos hik, HX.out])
              have ST : Hid (MV w wr.drew w1.heap.size P p B G 8 8 (thK k) (fun _ => 0) (prK k) (tkT zs k q) ∧ wr.drew.cell? (ad.add i) = some (.int .i64 z) ∧ ad.block < wr.drew.heap.size) := Lib.hid ⟨HVi.out.step ((Below.refl _ wr).drew), hcell, HB.out⟩
              clear hb hc hc0 hz1 hz2 hcell
              have hs1 : (0 : Int) - 40 ≤ x - q := by have := HQ.out; omega
              have hs2 : x - q < 40 := by have := HQ.out; omega
              by_cases hRL : L < (u : Int)
              · obtain rfl : q = L := by have := HQ.out; omega
                have hw : IntKind.i64.wrap (x - q) = x - q := (by rw [IntKind.wrap_i64]; omega); go_upto_region 32 with fail; go_region_held3 (fun w' => MV w w' w1.heap.size P p B G 8 8 (thK k) (fun _ => 0) (prK k) (tkT zs k q) ∧ w'.cell? (ad.add i) = some (.int .i64 z) ∧ ad.block < w'.heap.size) (first | exact ST.out | assumption | exact mkeep (by assumption) hb) (first | (go_at_call 26; (with_reducible refine (CN.out _).mono ?_); rintro e w' ⟨rfl, hb⟩) | (go_at_call 50; (with_reducible refine (mtk_b (base := w1.heap.size) (P := P) (p := p) (B := B) (G := G) (n := 8) (c := 8) (vr := fun _ => 0) (pr := prK k) i (x - q) (by omega) HTi HTk _ (MV.mt (W0 := w) (And.left (by assumption)))).mono ?_); rintro e w' ⟨rfl, hb⟩)); all_goals (have hL2 : MV w w' w1.heap.size P p B G 8 8 (thK k) (fun _ => 0) (prK k) (tkT zs k q) := And.left (by assumption); have HL2 := Lib.hid hL2; clear hL2; go_wp2_with fail; go_roundw; (case rel => exact ⟨i + 1, by omega, by go_num, HL2.out⟩); (case measure => simp [intOf]; omega))
              · obtain rfl : q = (u : Int) := by have := HQ.out; omega
                have hif : (if L < (u : Int) then L else (u : Int)) = (u : Int) := if_neg hRL
                have hw : IntKind.i64.wrap (x - (u : Int)) = x - (u : Int) := (by rw [IntKind.wrap_i64]; omega); go_upto_region 32 with fail; go_region_held3 (fun w' => MV w w' w1.heap.size P p B G 8 8 (thK k) (fun _ => 0) (prK k) (tkT zs k (u : Int)) ∧ w'.cell? (ad.add i) = some (.int .i64 z) ∧ ad.block < w'.heap.size) (first | exact ST.out | assumption | exact mkeep (by assumption) hb) (first | (go_at_call 26; (with_reducible refine (CN.out _).mono ?_); rintro e w' ⟨rfl, hb⟩) | (go_at_call 50; (with_reducible refine (mtk_b (base := w1.heap.size) (P := P) (p := p) (B := B) (G := G) (n := 8) (c := 8) (vr := fun _ => 0) (pr := prK k) i (x - (u : Int)) (by omega) HTi HTk _ (MV.mt (W0 := w) (And.left (by assumption)))).mono ?_); rintro e w' ⟨rfl, hb⟩)); all_goals (have hL2 : MV w w' w1.heap.size P p B G 8 8 (thK k) (fun _ => 0) (prK k) (tkT zs k (u : Int)) := And.left (by assumption); have HL2 := Lib.hid hL2; clear hL2; go_wp2_with fail; go_roundw; (case rel => exact ⟨i + 1, by omega, by go_num, HL2.out⟩); (case measure => simp [intOf]; omega))
            · obtain rfl : i = k := by omega
              have hdd2 : decide (i < i) = false := by simp
              go_wp2_with fail
              go_ret
              exact ⟨rfl, HVi.out.bel⟩
theorem walk_MeterCharges (a0 : Option Addr) (len0 cap0 : Nat) (z0 : List Int) (a1 : Int) (w : World) (w0 : IsRow .i64 w a0 len0 cap0 z0) (w1 : (Lit.int .i64 a1).wf = true) (hL : laidMetH Tryd.prog Rows.meterChargesRow.laid w) :
    Calls Tryd.prog 12 #[.slice a0 len0 cap0, .int .i64 a1] w fun e w' => e = .returned (.bool true) ∧ Below w.heap.size w w' := by
  clear hL
  by_cases hl : 8 < len0 ∨ len0 = 0
  · exact charges_big a0 len0 cap0 a1 hl w
  · obtain ⟨j, hj⟩ : ∃ j, len0 = j + 1 := ⟨len0 - 1, by omega⟩
    refine charges_small a0 j cap0 z0 a1 (i64_fit w1).1 (i64_fit w1).2 (by omega) w ?_ ?_ len0 hj
    · intro e
      rcases w0 with ⟨-, h, -, -⟩ | ⟨x, h, -⟩
      · omega
      · rw [e] at h; exact absurd h (by simp)
    · intro ad had h0
      rcases w0 with ⟨h, -, -, -⟩ | ⟨x, h, h1, h2, h3, h4, h5⟩
      · rw [had] at h; exact absurd h (by simp)
      · obtain rfl : x = ad := by rw [h] at had; exact Option.some.inj had
        refine ⟨?_, fun i hi => ?_⟩
        · have hc := h4 0 (by omega)
          rcases Nat.lt_or_ge x.block w.heap.size with h' | h'
          · exact h'
          · have : (x.add 0).block = x.block := add_block' x 0
            simp [World.cell?, this, Array.getElem?_eq_none h'] at hc
        · have hz : z0.getD i 0 ∈ z0 := by
            rw [show z0.getD i 0 = z0[i]'(by omega) by simp [List.getD, show i < z0.length by omega]]
            exact List.getElem_mem _
          exact ⟨h4 i (by omega), (i64_fit (h5 _ hz)).1, (i64_fit (h5 _ hz)).2⟩
end Go.Proofs.YtlefmgdfcpnifaaDoor
