/-
  package bank: open, Root, Sub; Parent, Used, Limit, Within.
-/
import Derived.Test.YtkogmhgpkacehaaDoorBk4
namespace Go.Proofs.YtkogmhgpkacehaaDoor
open Go.ChangeShapes Go.WideShapes Go.ChangeAt Go.RowKit
set_option linter.unusedVariables false
set_option linter.unusedSimpArgs false
/-- The first k are there. -/
def thN (k : Nat) : Nat → Bool := fun i => decide (i < k)
theorem thN_put (k : Nat) : upd (thN k) k true = thN (k + 1) := by
  funext i
  unfold upd thN
  by_cases e : i = k
  · subst e; simp
  · by_cases h : i < k
    · simp [e, h]; omega
    · simp [e, h]; omega
theorem thN_at {k i : Nat} (h : i < k) : thN k i = true := by simp [thN, h]
theorem thN_free (k : Nat) : freeB (thN k) (fun _ => 0) k = true := by simp [freeB, thN]
theorem thN_not (k : Nat) : ∀ i, i < k → freeB (thN k) (fun _ => 0) i = false := fun i hi => by simp [freeB, thN, hi]
theorem prok_put {nb : Nat} {pr : Nat → Int} (hp : PrOk nb pr) (y : Int) (h0 : -1 ≤ y) (h1 : y < nb) : PrOk (nb + 1) (upd pr nb y) := fun i hi => by
  by_cases e : i = nb
  · subst e; rw [upd_at]; omega
  · rw [upd_other _ _ _ _ e]; exact hp i (by omega)
theorem own_slice {w : World} {B : Nat} {v : Value} {L : List Int} (h : w.ownsRow B 3 1 v L.length (L.map (Value.int .i64))) (k : Nat) (hk : Hid (L.length = k)) : ∃ a c, v = .slice a k c := by
  obtain ⟨a, c, hv, _⟩ := own_ints h
  exact ⟨a, c, by rw [hv, hk.out]⟩
theorem low_trans {N : Nat} {w w1 w2 : World} (h : Below N w w1) (h2 : Below w1.heap.size w1 w2) (hN : N ≤ w.heap.size) : Below N w w2 := h.trans (h2.mono (Nat.le_trans hN h.size))
set_option maxRecDepth 100000 in
set_option maxHeartbeats 1000000 in
theorem bopen_ok {base P p B A G1 G2 G3 n c mb db nb : Nat} {pr us lm o1 v1 o2 v2 o3 v3 : Nat → Int} (y lim : Int) (hy0 : -1 ≤ y) (hy1 : y < nb) (hl0 : 0 ≤ lim) (hl1 : lim ≤ 512) (hnb : nb < n) (hpr : Hid (PrOk nb pr)) (hch : Hid ((chL pr y).length < 8)) (w : World) (h : BkAt w base P p B A G1 G2 G3 n c mb db (thN nb) (fun _ => 0) pr us lm o1 v1 o2 v2 o3 v3) :
    Calls Tryd.prog 145 #[.pointer (some ⟨P, 0, none⟩), .int .i64 y, .int .i64 lim] w fun e w' => e = .returned (.tuple #[.int .i64 nb, .int .i64 0, .nilIface]) ∧ BkAt w' base P p B A G1 G2 G3 n c mb db (thN (nb + 1)) (fun _ => 0) (upd pr nb y) (upd us nb 0) (upd lm nb lim) o1 v1 o2 v2 o3 v3 ∧ PBelow w w' B A := by
  have H := Lib.hid h
  have hn := h.ar.le
  have d0 : decide (lim < 0) = false := decide_eq_false (by omega)
  have d1 : decide (512 < lim) = false := decide_eq_false (by omega)
  obtain ⟨m, hm⟩ : ∃ m, Hid ((chL pr y).length = m) := ⟨_, Lib.hid rfl⟩
  have hm8 : m < 8 := by have := hch.out; rw [hm.out] at this; exact this
  have d2 : decide ((8 : Int) ≤ (m : Int)) = false := decide_eq_false (by omega)
  have k0 : (0 : Int) ≤ nb := by omega
  have k1 : (nb : Int) < n := by omega
  clear h
  go_enter Tryd.func145, Tryd.ntmps145
  go_wp2_with (first
    | (go_at_call 155; (with_reducible refine (bchain_is y nb hy0 hy1 (by omega) (Lib.hid (fun i hi => thN_at hi)) hpr _ H.out).mono ?_); rintro e w1 ⟨v, rfl, hr, hb⟩; obtain ⟨a9, c9, hv9⟩ := own_slice hr m hm; subst hv9; have H1 := Lib.hid (H.out.below hb); have HB1 := Lib.hid hb; have f0 := H1.out.f0; clear hr hb)
    | (go_at_call 109; (with_reducible refine (atake_ok _ H1.out.ar nb hnb (Lib.hid (thN_free nb)) (Lib.hid (thN_not nb)) 0 (Lib.hid rfl)).mono ?_); rintro e w2 ⟨rfl, hA, hg⟩; have H2 := Lib.hid (H1.out.turn hA hg); have HB2 := Lib.hid ((PBelow.of_below (B := B) (G := A) HB1.out).trans (PBelow.of hg (.inl rfl))); have f3 := H2.out.f3; have HP := Lib.hid (H2.out.setP nb hnb y); have HU := Lib.hid (HP.out.1.setU nb hnb 0); have HL := Lib.hid (HU.out.1.setL nb hnb lim); have c0 := H2.out.ac0 nb hnb; have c1 := H2.out.ac1 nb hnb; have c2 := H2.out.ac2 nb hnb; have z0 := H2.out.ac.fr (nb * 3); have z1 := H2.out.ac.fr (nb * 3 + 1); have z2 := H2.out.ac.fr (nb * 3 + 2); clear hA hg f0))
  go_ret3
  refine ⟨rfl, ?_, ((HB2.out.trans (PBelow.of HP.out.2 (.inr rfl))).trans (PBelow.of HU.out.2 (.inr rfl))).trans (PBelow.of HL.out.2 (.inr rfl))⟩
  have := HL.out.1
  rw [thN_put] at this
  exact this
theorem bopen_range {P : Nat} (y lim : Int) (hl : ¬ (0 ≤ lim ∧ lim ≤ 512)) (w : World) (v : Value) (hE : w.cell? ⟨1, 0, none⟩ = some v) :
    Calls Tryd.prog 145 #[.pointer (some ⟨P, 0, none⟩), .int .i64 y, .int .i64 lim] w fun e w' => e = .returned (.tuple #[.int .i64 0, .int .i64 0, v]) ∧ Below w.heap.size w w' := by
  by_cases h0 : lim < 0
  · have d0 : decide (lim < 0) = true := decide_eq_true h0
    clear hl h0
    go_enter Tryd.func145, Tryd.ntmps145
    go_wp2_with fail
    go_quiet (fail)
    go_wp2_with fail
    go_ret3
    exact ⟨rfl, below_drewN (Below.refl _ _) _⟩
  · have d0 : decide (lim < 0) = false := decide_eq_false h0
    have d1 : decide (512 < lim) = true := decide_eq_true (by omega)
    clear hl h0
    go_enter Tryd.func145, Tryd.ntmps145
    go_wp2_with fail
    go_quiet (fail)
    go_wp2_with fail
    go_ret3
    exact ⟨rfl, below_drewN (Below.refl _ _) _⟩
set_option maxRecDepth 100000 in
theorem bopen_many {base P p B A G1 G2 G3 n c mb db nb : Nat} {pr us lm o1 v1 o2 v2 o3 v3 : Nat → Int} (y lim : Int) (hy0 : -1 ≤ y) (hy1 : y < nb) (hl0 : 0 ≤ lim) (hl1 : lim ≤ 512) (hnb : nb ≤ n) (hpr : Hid (PrOk nb pr)) (hch : Hid (8 ≤ (chL pr y).length)) (w : World) (h : BkAt w base P p B A G1 G2 G3 n c mb db (thN nb) (fun _ => 0) pr us lm o1 v1 o2 v2 o3 v3) (v : Value) (hE : w.cell? ⟨2, 0, none⟩ = some v) (hl : 2 < w.heap.size) :
    Calls Tryd.prog 145 #[.pointer (some ⟨P, 0, none⟩), .int .i64 y, .int .i64 lim] w fun e w' => e = .returned (.tuple #[.int .i64 0, .int .i64 0, v]) ∧ Below w.heap.size w w' := by
  have H := Lib.hid h
  have hn := h.ar.le
  have d0 : decide (lim < 0) = false := decide_eq_false (by omega)
  have d1 : decide (512 < lim) = false := decide_eq_false (by omega)
  obtain ⟨m, hm⟩ : ∃ m, Hid ((chL pr y).length = m) := ⟨_, Lib.hid rfl⟩
  have hm8 : 8 ≤ m := by have := hch.out; rw [hm.out] at this; exact this
  have d2 : decide ((8 : Int) ≤ (m : Int)) = true := decide_eq_true (by omega)
  clear h
  go_enter Tryd.func145, Tryd.ntmps145
  go_wp2_with (first
    | (go_at_call 155; (with_reducible refine (bchain_is y nb hy0 hy1 hnb (Lib.hid (fun i hi => thN_at hi)) hpr _ H.out).mono ?_); rintro e w1 ⟨v', rfl, hr, hb⟩; obtain ⟨a9, c9, hv9⟩ := own_slice hr m hm; subst hv9; have HB1 := Lib.hid hb; have hE2 := (hb.cell (p := ⟨2, 0, none⟩) hl).trans hE; clear hr hb hE))
  go_quiet (fail)
  go_wp2_with fail
  go_ret3
  exact ⟨rfl, below_drewN HB1.out _⟩
/-- What open answers, told on by Root and by Sub. -/
theorem broot_of {P : Nat} {lim : Int} {w : World} {Q : Ending → World → Prop} (r : Value) (a0 a1 a2 : Value) (hr : r = .tuple #[a0, a1, a2]) (h : Calls Tryd.prog 145 #[.pointer (some ⟨P, 0, none⟩), .int .i64 (-1), .int .i64 lim] w fun e w' => e = .returned r ∧ Q e w') :
    Calls Tryd.prog 75 #[.pointer (some ⟨P, 0, none⟩), .int .i64 lim] w fun e w' => e = .returned r ∧ Q e w' := by
  subst hr
  have HC := Lib.hid h
  clear h
  go_enter Tryd.func75, Tryd.ntmps75
  go_wp2_with (first
    | (go_at_call 145; (with_reducible refine HC.out.mono ?_); rintro e w1 ⟨rfl, hq⟩; have HQ := Lib.hid hq; clear hq))
  go_ret3
  exact ⟨rfl, HQ.out⟩
theorem bsub_of {base P p B A G1 G2 G3 n c mb db nb : Nat} {pr us lm o1 v1 o2 v2 o3 v3 : Nat → Int} (q : Nat) (lim : Int) (hq : q < nb) (hnb : nb ≤ n) {Q : Ending → World → Prop} (r : Value) (a0 a1 a2 : Value) (hr : r = .tuple #[a0, a1, a2]) (w : World) (h0 : BkAt w base P p B A G1 G2 G3 n c mb db (thN nb) (fun _ => 0) pr us lm o1 v1 o2 v2 o3 v3) (h : Calls Tryd.prog 145 #[.pointer (some ⟨P, 0, none⟩), .int .i64 (q : Int), .int .i64 lim] w fun e w' => e = .returned r ∧ Q e w') :
    Calls Tryd.prog 76 #[.pointer (some ⟨P, 0, none⟩), .int .i64 (q : Int), .int .i64 lim] w fun e w' => e = .returned r ∧ Q e w' := by
  subst hr
  have HC := Lib.hid h
  have H := Lib.hid h0
  have f0 := h0.f0
  clear h h0
  go_enter Tryd.func76, Tryd.ntmps76
  go_wp2_with (first
    | (go_at_call 25; (with_reducible refine (athere_in q (by omega) true (Lib.hid (thN_at hq)) _ H.out.ar).mono ?_); rintro e w1 ⟨rfl, rfl⟩)
    | (go_at_call 145; (with_reducible refine HC.out.mono ?_); rintro e w1 ⟨rfl, hq⟩; have HQ := Lib.hid hq; clear hq))
  go_ret3
  exact ⟨rfl, HQ.out⟩
theorem bparent_is {base P p B A G1 G2 G3 n c mb db nb : Nat} {pr us lm o1 v1 o2 v2 o3 v3 : Nat → Int} (q : Nat) (x z : Int) (hx : Hid (x = (q : Int))) (hq : q < nb) (hnb : nb ≤ n) (hz : Hid (pr q = z)) (w : World) (h : BkAt w base P p B A G1 G2 G3 n c mb db (thN nb) (fun _ => 0) pr us lm o1 v1 o2 v2 o3 v3) :
    Calls Tryd.prog 77 #[.pointer (some ⟨P, 0, none⟩), .int .i64 x] w fun e w' => e = .returned (.int .i64 z) ∧ w = w' := by
  rw [hx.out]
  have H := Lib.hid h
  have f0 := h.f0
  have f3 := h.f3
  have c0 := h.ac0 q (by omega)
  rw [hz.out] at c0
  have k0 : (0 : Int) ≤ q := by omega
  have k1 : (q : Int) < n := by omega
  clear h hx
  go_enter Tryd.func77, Tryd.ntmps77
  go_wp2_with (first
    | (go_at_call 25; (with_reducible refine (athere_in q (by omega) true (Lib.hid (thN_at hq)) _ H.out.ar).mono ?_); rintro e w1 ⟨rfl, rfl⟩))
  go_ret
  exact ⟨rfl, rfl⟩
theorem bused_is {base P p B A G1 G2 G3 n c mb db nb : Nat} {pr us lm o1 v1 o2 v2 o3 v3 : Nat → Int} (q : Nat) (x z : Int) (hx : Hid (x = (q : Int))) (hq : q < nb) (hnb : nb ≤ n) (hz : Hid (us q = z)) (w : World) (h : BkAt w base P p B A G1 G2 G3 n c mb db (thN nb) (fun _ => 0) pr us lm o1 v1 o2 v2 o3 v3) :
    Calls Tryd.prog 78 #[.pointer (some ⟨P, 0, none⟩), .int .i64 x] w fun e w' => e = .returned (.int .i64 z) ∧ w = w' := by
  rw [hx.out]
  have H := Lib.hid h
  have f0 := h.f0
  have f3 := h.f3
  have c0 := h.ac1 q (by omega)
  rw [hz.out] at c0
  have k0 : (0 : Int) ≤ q := by omega
  have k1 : (q : Int) < n := by omega
  clear h hx
  go_enter Tryd.func78, Tryd.ntmps78
  go_wp2_with (first
    | (go_at_call 25; (with_reducible refine (athere_in q (by omega) true (Lib.hid (thN_at hq)) _ H.out.ar).mono ?_); rintro e w1 ⟨rfl, rfl⟩))
  go_ret
  exact ⟨rfl, rfl⟩
theorem blimit_is {base P p B A G1 G2 G3 n c mb db nb : Nat} {pr us lm o1 v1 o2 v2 o3 v3 : Nat → Int} (q : Nat) (x z : Int) (hx : Hid (x = (q : Int))) (hq : q < nb) (hnb : nb ≤ n) (hz : Hid (lm q = z)) (w : World) (h : BkAt w base P p B A G1 G2 G3 n c mb db (thN nb) (fun _ => 0) pr us lm o1 v1 o2 v2 o3 v3) :
    Calls Tryd.prog 79 #[.pointer (some ⟨P, 0, none⟩), .int .i64 x] w fun e w' => e = .returned (.int .i64 z) ∧ w = w' := by
  rw [hx.out]
  have H := Lib.hid h
  have f0 := h.f0
  have f3 := h.f3
  have c0 := h.ac2 q (by omega)
  rw [hz.out] at c0
  have k0 : (0 : Int) ≤ q := by omega
  have k1 : (q : Int) < n := by omega
  clear h hx
  go_enter Tryd.func79, Tryd.ntmps79
  go_wp2_with (first
    | (go_at_call 25; (with_reducible refine (athere_in q (by omega) true (Lib.hid (thN_at hq)) _ H.out.ar).mono ?_); rintro e w1 ⟨rfl, rfl⟩))
  go_ret
  exact ⟨rfl, rfl⟩
set_option maxRecDepth 100000 in
theorem six_nil (a : Option Addr) (d c : Nat) (hd : d = 0) (x : Int) (w : World) :
    Calls Tryd.prog 188 #[.slice a d c, .int .i64 x] w fun e w' => e = .returned (.int .i64 (-1)) ∧ w = w' := by
  have HD := Lib.hid hd
  clear hd
  go_enter Tryd.func188, Tryd.ntmps188
  go_wp2_with fail
  go_loop [8] (fun i => ∃ k : Nat, k ≤ d ∧ i = .int .i64 k) (fun i => d - (intOf i).toNat)
  case atStart => exact ⟨0, by omega, rfl⟩
  case round =>
    obtain ⟨k, hk, rfl⟩ := hrel
    obtain rfl : d = k := by have := HD.out; omega
    have hdd : decide (d < d) = false := by simp
    go_wp2_with fail
    go_ret
    exact ⟨rfl, rfl⟩
set_option maxRecDepth 100000 in
theorem scon_any (w : World) (B : Nat) (v : Value) (L : List Int) (k : Nat) (hk : Hid (L.length = k)) (hk2 : k ≤ 1000) (x : Int) (b : Bool) (hb : Hid (L.contains x = b)) (a : Option Addr) (c : Nat) (hv : v = .slice a k c) (h : w.ownsRow B 3 1 v L.length (L.map (Value.int .i64))) :
    Calls Tryd.prog 154 #[.slice a k c, .int .i64 x] w fun e w' => e = .returned (.bool b) ∧ w = w' := by
  obtain ⟨a', c', hv', ha⟩ := own_ints h
  rw [hv] at hv'
  have e1 : a = a' := by injection hv'
  have e2 : k = L.length := by injection hv'
  subst e1
  by_cases h0 : 0 < L.length
  · obtain ⟨g, hg, hr, _⟩ := ha h0
    subst hg
    rw [← e2] at hr
    refine scon_is g k c L x hk2 b (Lib.hid ?_) w hr
    rw [← hb.out, List.contains_iff_mem, mem_getD, ← e2]
  · have hL : L = [] := List.eq_nil_of_length_eq_zero (by omega)
    subst hL
    have hk0 : k = 0 := by simpa using e2
    subst hk0
    have hb0 : b = false := by rw [← hb.out]; rfl
    subst hb0
    have HC := Lib.hid (six_nil a 0 c rfl x w)
    clear h ha hv hv' hb e2 hk h0
    go_enter Tryd.func154, Tryd.ntmps154
    go_wp2_with (first | (go_at_call 188; (with_reducible refine HC.out.mono ?_); rintro e w1 ⟨rfl, rfl⟩))
    go_ret
    exact ⟨rfl, rfl⟩
set_option maxRecDepth 100000 in
theorem bwithin_is {base P p B A G1 G2 G3 n c mb db nb : Nat} {pr us lm o1 v1 o2 v2 o3 v3 : Nat → Int} (y z : Int) (t : Bool) (hy0 : -1 ≤ y) (hy1 : y < nb) (hnb : nb ≤ n) (hpr : Hid (PrOk nb pr)) (ht : Hid ((chL pr y).contains z = t)) (w : World) (h : BkAt w base P p B A G1 G2 G3 n c mb db (thN nb) (fun _ => 0) pr us lm o1 v1 o2 v2 o3 v3) :
    Calls Tryd.prog 84 #[.pointer (some ⟨P, 0, none⟩), .int .i64 y, .int .i64 z] w fun e w' => e = .returned (.bool t) ∧ Below w.heap.size w w' := by
  have H := Lib.hid h
  have hn := h.ar.le
  obtain ⟨m, hm⟩ : ∃ m, Hid ((chL pr y).length = m) := ⟨_, Lib.hid rfl⟩
  have hmn : m ≤ 1000 := by rw [← hm.out]; have := (chL_bound hpr.out (by omega) nb y hy1 (Nat.le_refl _)).1; omega
  clear h
  go_enter Tryd.func84, Tryd.ntmps84
  go_wp2_with (first
    | (go_at_call 155; (with_reducible refine (bchain_is y nb hy0 hy1 hnb (Lib.hid (fun i hi => thN_at hi)) hpr _ H.out).mono ?_); rintro e w1 ⟨v', rfl, hr, hb⟩; obtain ⟨a9, c9, hv9⟩ := own_slice hr m hm; have HCo := Lib.hid (scon_any w1 _ v' _ m hm hmn z t ht a9 c9 hv9 hr); subst hv9; have HB1 := Lib.hid hb; clear hr hb)
    | (go_at_call 154; (with_reducible refine HCo.out.mono ?_); rintro e w2 ⟨rfl, rfl⟩))
  go_ret
  exact ⟨rfl, HB1.out⟩
end Go.Proofs.YtkogmhgpkacehaaDoor
