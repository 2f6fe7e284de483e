/-
  NodeApart.
-/
import Derived.Test.YtlefmgdfcpnifaaDoorNd4
import Derived.Test.YtlefmgdfcpnifaaDoorMtC
import Derived.Test.YtlefmgdfcpnifaaDoorSen
namespace Go.Proofs.YtlefmgdfcpnifaaDoor
open Go.ChangeShapes Go.WideShapes Go.ChangeAt Go.RowKit
set_option linter.unusedVariables false
/-- A key lies in a slot. -/
def KAt (f : Nat → Value) (j : Nat) (y0 y1 y2 y3 y4 : Int) : Prop := f (j * 5) = .int .i64 y0 ∧ f (j * 5 + 1) = .int .i64 y1 ∧ f (j * 5 + 2) = .int .i64 y2 ∧ f (j * 5 + 3) = .int .i64 y3 ∧ f (j * 5 + 4) = .int .u32 y4
theorem freshV_q (W : Nat → Nat → Value) (i : Nat) (kk : Nat → Nat → Int) (m j q : Nat) (hj : j < m) (hq : q < 5) : freshV W i (kcs kk m) i (j * 5 + q) = kval q (kk j q) := by
  have h1 := freshV_in W i (kcs kk m) (j * 5 + q) (by rw [kcs_len]; omega)
  rw [kcs_at kk m j q hj hq] at h1
  exact Option.some.inj h1
theorem freshV_key (W : Nat → Nat → Value) (i : Nat) (kk : Nat → Nat → Int) (m j : Nat) (hj : j < m) : KAt (freshV W i (kcs kk m) i) j (kk j 0) (kk j 1) (kk j 2) (kk j 3) (kk j 4) :=
  ⟨freshV_q W i kk m j 0 hj (by decide), freshV_q W i kk m j 1 hj (by decide), freshV_q W i kk m j 2 hj (by decide), freshV_q W i kk m j 3 hj (by decide), freshV_q W i kk m j 4 hj (by decide)⟩
theorem zc_q (j q : Nat) (hq : q < 5) : zc (j * 5 + q) = kval q 0 := by
  have e : (j * 5 + q) % 5 = q := by omega
  unfold zc kval
  rw [e]
theorem freshV_nokey (W : Nat → Nat → Value) (i : Nat) (kk : Nat → Nat → Int) (m j : Nat) (hj : m ≤ j) (h16 : j < 16) : KAt (freshV W i (kcs kk m) i) j 0 0 0 0 0 := by
  have h : ∀ q, q < 5 → freshV W i (kcs kk m) i (j * 5 + q) = kval q 0 := fun q hq => (freshV_out W i _ _ (by rw [kcs_len]; omega) (by omega)).trans (zc_q j q hq)
  exact ⟨h 0 (by decide), h 1 (by decide), h 2 (by decide), h 3 (by decide), h 4 (by decide)⟩
theorem freshV_rest (W : Nat → Nat → Value) (i : Nat) (xs : List Value) (a j : Nat) (h : a ≠ i) {y0 y1 y2 y3 y4 : Int} (hk : KAt (W a) j y0 y1 y2 y3 y4) : KAt (freshV W i xs a) j y0 y1 y2 y3 y4 := by
  unfold KAt at hk ⊢
  simp only [freshV_other W i xs a _ h]
  exact hk
theorem updV_q (W : Nat → Nat → Value) (i s : Nat) (y0 y1 y2 y3 y4 : Int) (q : Nat) (hq : q < 5) : some (updV W i (s * 5) (k5 y0 y1 y2 y3 y4) i (s * 5 + q)) = (k5 y0 y1 y2 y3 y4)[q]? := by
  have hl : (k5 y0 y1 y2 y3 y4).length = 5 := rfl
  unfold updV
  rw [if_pos ⟨rfl, by omega, by rw [hl]; omega⟩, show s * 5 + q - s * 5 = q by omega]
  rcases five q hq with rfl | rfl | rfl | rfl | rfl <;> rfl
theorem updV_key (W : Nat → Nat → Value) (i s : Nat) (y0 y1 y2 y3 y4 : Int) : KAt (updV W i (s * 5) (k5 y0 y1 y2 y3 y4) i) s y0 y1 y2 y3 y4 :=
  ⟨Option.some.inj (updV_q W i s y0 y1 y2 y3 y4 0 (by decide)), Option.some.inj (updV_q W i s y0 y1 y2 y3 y4 1 (by decide)), Option.some.inj (updV_q W i s y0 y1 y2 y3 y4 2 (by decide)), Option.some.inj (updV_q W i s y0 y1 y2 y3 y4 3 (by decide)), Option.some.inj (updV_q W i s y0 y1 y2 y3 y4 4 (by decide))⟩
theorem updV_rest (W : Nat → Nat → Value) (i s a j : Nat) (z0 z1 z2 z3 z4 : Int) (h : ¬ (a = i ∧ j = s)) {y0 y1 y2 y3 y4 : Int} (hk : KAt (W a) j y0 y1 y2 y3 y4) : KAt (updV W i (s * 5) (k5 z0 z1 z2 z3 z4) a) j y0 y1 y2 y3 y4 := by
  have hl : (k5 z0 z1 z2 z3 z4).length = 5 := rfl
  have e : ∀ q, q < 5 → updV W i (s * 5) (k5 z0 z1 z2 z3 z4) a (j * 5 + q) = W a (j * 5 + q) := fun q hq => by
    unfold updV
    rw [if_neg (by rw [hl]; omega)]
  have e0 := e 0 (by decide)
  rw [Nat.add_zero] at e0
  unfold KAt at hk ⊢
  rw [e0, e 1 (by decide), e 2 (by decide), e 3 (by decide), e 4 (by decide)]
  exact hk
theorem KAt.one {f : Nat → Value} (h : ∀ j, j < 16 → ∃ y0 y1 y2 y3 y4, KAt f j y0 y1 y2 y3 y4) : ∀ b, b < 80 → (f b).oneCell' = true := by
  intro b hb
  obtain ⟨y0, y1, y2, y3, y4, h0, h1, h2, h3, h4⟩ := h (b / 5) (by omega)
  have e : b = b / 5 * 5 + b % 5 := by omega
  rcases five (b % 5) (by omega) with hq | hq | hq | hq | hq
  · rw [e, hq, Nat.add_zero, h0]; rfl
  · rw [e, hq, h1]; rfl
  · rw [e, hq, h2]; rfl
  · rw [e, hq, h3]; rfl
  · rw [e, hq, h4]; rfl
/-- What the law lays first. -/
def dN (i j : Nat) : Int := if j < 2 then ((i + j : Nat) : Int) else 0
def kN (j : Nat) : Int := if j < 2 then 1 else 0
def WN (W : Nat → Nat → Value) (k : Nat) : Prop := ∀ i, i < k → ∀ j, j < 16 → KAt (W i) j (kN j) 0 0 0 (dN i j)
def kk2 (x y : Int) (i q : Nat) : Int := if q = 0 then 1 else if q = 4 then (if i = 0 then x else y) else 0
theorem kk2_right (x y : Int) (hx0 : 0 ≤ x) (hx : x ≤ 4294967295) (hy : y ≤ 4294967295) (i : Nat) (hi : i < 2) : KRight (kk2 x y) i := by
  unfold KRight
  have : i = 0 ∨ i = 1 := by omega
  rcases this with rfl | rfl <;> simp [kk2, rightB, wB, hidOf, hverOf, hrOf, placesOf, dataMost] <;> omega
theorem WN_next {W : Nat → Nat → Value} {k : Nat} (h : WN W k) : WN (freshV W k (kcs (kk2 k ((k : Int) + 1)) 2)) (k + 1) := by
  intro i hi j hj
  by_cases e : i = k
  · subst e
    by_cases hj2 : j < 2
    · have h1 := freshV_key W i (kk2 i ((i : Int) + 1)) 2 j hj2
      have hj' : j = 0 ∨ j = 1 := by omega
      rcases hj' with rfl | rfl
      · simpa [kk2, kN, dN] using h1
      · simpa [kk2, kN, dN] using h1
    · have h1 := freshV_nokey W i (kk2 i ((i : Int) + 1)) 2 j (by omega) hj
      simpa [kN, dN, hj2] using h1
  · exact freshV_rest W k _ i j e (h i (by omega) j hj)
/-- What the law lays then. -/
def kF (at_ s : Nat) (i j : Nat) : Int := if i = at_ ∧ j = s then 1 else kN j
def dF (at_ s : Nat) (v : Int) (i j : Nat) : Int := if i = at_ ∧ j = s then v else dN i j
def WF (W : Nat → Nat → Value) (n at_ s : Nat) (v : Int) : Prop := ∀ i, i < n → ∀ j, j < 16 → KAt (W i) j (kF at_ s i j) 0 0 0 (dF at_ s v i j)
theorem WF_set {W : Nat → Nat → Value} {n at_ s : Nat} {v : Int} (h : WN W n) : WF (updV W at_ (s * 5) (k5 1 0 0 0 v)) n at_ s v := by
  intro i hi j hj
  unfold kF dF
  by_cases e : i = at_ ∧ j = s
  · obtain ⟨rfl, rfl⟩ := e
    rw [if_pos ⟨rfl, rfl⟩, if_pos ⟨rfl, rfl⟩]
    exact updV_key W i j 1 0 0 0 v
  · rw [if_neg e, if_neg e]
    exact updV_rest W at_ s i j 1 0 0 0 v e (h i hi j hj)
theorem src_two (w : World) (T : TypeId) (x y : Int) (B G : Nat) (hB : B < w.heap.size) (hG : G < w.heap.size) : SrcK (w.alloc (.cells #[.int .i64 1, .int .i64 0, .int .i64 0, .int .i64 0, .int .u32 x, .int .i64 1, .int .i64 0, .int .i64 0, .int .i64 0, .int .u32 y] T (0, 0))) (some ⟨w.heap.size, 0, none⟩) 2 (kk2 x y) B G := ⟨fun i hi => by
  refine ⟨_, rfl, by simp, by simp; omega, by simp; omega, fun q hq => ?_⟩
  rw [show Addr.add ⟨w.heap.size, 0, none⟩ (i * 5 + q) = ⟨w.heap.size, i * 5 + q, none⟩ by (unfold Addr.add; split <;> simp_all)]
  have hi' : i = 0 ∨ i = 1 := by omega
  rcases hi' with rfl | rfl <;> rcases five q hq with rfl | rfl | rfl | rfl | rfl <;> simp [kval, kk2]⟩
/-- A key in a block of its own. -/
structure WantAt (w : World) (b : Nat) (y0 y1 y2 y3 y4 : Int) : Prop where
  lt : b < w.heap.size
  c0 : w.cell? ⟨b, 0, none⟩ = some (.int .i64 y0)
  c1 : w.cell? ⟨b, 1, none⟩ = some (.int .i64 y1)
  c2 : w.cell? ⟨b, 2, none⟩ = some (.int .i64 y2)
  c3 : w.cell? ⟨b, 3, none⟩ = some (.int .i64 y3)
  c4 : w.cell? ⟨b, 4, none⟩ = some (.int .u32 y4)
  fr : ∀ j, w.frozen? ⟨b, j, none⟩ = false
theorem WantAt.new (w : World) (T : TypeId) (y0 y1 y2 y3 y4 : Int) : WantAt (w.alloc (.cells #[.int .i64 y0, .int .i64 y1, .int .i64 y2, .int .i64 y3, .int .u32 y4] T (0, 0))) w.heap.size y0 y1 y2 y3 y4 :=
  ⟨by simp, by simp, by simp, by simp, by simp, by simp, fun j => by simp⟩
theorem WantAt.below {w w' : World} {b : Nat} {y0 y1 y2 y3 y4 : Int} (h : WantAt w b y0 y1 y2 y3 y4) (hb : Below w.heap.size w w') : WantAt w' b y0 y1 y2 y3 y4 :=
  ⟨Nat.lt_of_lt_of_le h.lt hb.size, (hb.cell (p := ⟨b, 0, none⟩) h.lt).trans h.c0, (hb.cell (p := ⟨b, 1, none⟩) h.lt).trans h.c1, (hb.cell (p := ⟨b, 2, none⟩) h.lt).trans h.c2, (hb.cell (p := ⟨b, 3, none⟩) h.lt).trans h.c3, (hb.cell (p := ⟨b, 4, none⟩) h.lt).trans h.c4, fun j => (hb.frozen (p := ⟨b, j, none⟩) h.lt).trans (h.fr j)⟩
theorem WantAt.set {w : World} {b : Nat} {y0 y1 y2 y3 y4 : Int} (h : WantAt w b y0 y1 y2 y3 y4) (z0 z1 z2 z3 z4 : Int) :
    WantAt (((((w.setCell ⟨b, 0, none⟩ (.int .i64 z0)).setCell ⟨b, 1, none⟩ (.int .i64 z1)).setCell ⟨b, 2, none⟩ (.int .i64 z2)).setCell ⟨b, 3, none⟩ (.int .i64 z3)).setCell ⟨b, 4, none⟩ (.int .u32 z4)) b z0 z1 z2 z3 z4 := by
  have hs : ∀ j, j < (k5 z0 z1 z2 z3 z4).length → (w.cell? ⟨b, 0 + j, none⟩).isSome = true := by
    intro j hj
    rw [Nat.zero_add]
    rcases five j hj with rfl | rfl | rfl | rfl | rfl
    · rw [h.c0]; rfl
    · rw [h.c1]; rfl
    · rw [h.c2]; rfl
    · rw [h.c3]; rfl
    · rw [h.c4]; rfl
  have all := World.cell?_setCells_in b (k5 z0 z1 z2 z3 z4) 0 w hs
  have hz : (w.setCells b 0 (k5 z0 z1 z2 z3 z4)).heap.size = w.heap.size := by simp [k5, World.setCells]
  exact ⟨Nat.lt_of_lt_of_le h.lt (Nat.le_of_eq hz.symm), all 0 (by simp [k5]), all 1 (by simp [k5]), all 2 (by simp [k5]), all 3 (by simp [k5]), all 4 (by simp [k5]), fun j => (World.frozen?_setCells b (k5 z0 z1 z2 z3 z4) 0 w ⟨b, j, none⟩).trans (h.fr j)⟩
theorem below_set5 {N b : Nat} {W0 w : World} (h : Below N W0 w) (hb : N ≤ b) (z0 z1 z2 z3 z4 : Int) :
    Below N W0 (((((w.setCell ⟨b, 0, none⟩ (.int .i64 z0)).setCell ⟨b, 1, none⟩ (.int .i64 z1)).setCell ⟨b, 2, none⟩ (.int .i64 z2)).setCell ⟨b, 3, none⟩ (.int .i64 z3)).setCell ⟨b, 4, none⟩ (.int .u32 z4)) :=
  ((((h.setCell hb _).setCell hb _).setCell hb _).setCell hb _).setCell hb _
theorem same_self (y0 y1 y2 y3 y4 : Int) (w : World) : Calls Tryd.prog 43 #[(Value.agg #[.int .i64 y0, .int .i64 y1, .int .i64 y2, .int .i64 y3, .int .u32 y4]), (Value.agg #[.int .i64 y0, .int .i64 y1, .int .i64 y2, .int .i64 y3, .int .u32 y4])] w fun e w' => e = .returned (.bool true) ∧ Below w.heap.size w w' :=
  (samekey_any y0 y1 y2 y3 y4 y0 y1 y2 y3 y4 w).mono fun e w' ⟨h1, h2⟩ => ⟨by rw [h1]; simp [sameB], h2⟩
set_option maxRecDepth 100000 in
theorem num_is (x : Int) (h0 : 0 ≤ x) (h1 : x ≤ 4294967295) (w : World) :
    Calls Tryd.prog 45 #[.int .i64 x] w fun e w' => e = .returned (.agg #[.int .i64 1, .int .i64 0, .int .i64 0, .int .i64 0, .int .u32 x]) ∧ Below w.heap.size w w' := by
  have hwr : IntKind.u32.wrap x = x := by rw [IntKind.wrap_u32]; omega
  go_enter Tryd.func45, Tryd.ntmps45
  go_wp2
  refine bodyPost_ret (v := .agg #[.int .i64 1, .int .i64 0, .int .i64 0, .int .i64 0, .int .u32 x]) (by simp [results, Tryd.results45, go_sem]) rfl ⟨rfl, (Below.refl _ _).alloc (Nat.le_refl _) _⟩
theorem own_set5 {w : World} {B E n g c : Nat} {xs : List Value} (h : w.ownsRow B E 5 (.slice (some ⟨g, 0, none⟩) n c) n xs) (o : Nat) (z0 z1 z2 z3 z4 : Int) :
    (∃ cs, (((((w.setCell ⟨g, o, none⟩ (.int .i64 z0)).setCell ⟨g, o + 1, none⟩ (.int .i64 z1)).setCell ⟨g, o + 2, none⟩ (.int .i64 z2)).setCell ⟨g, o + 3, none⟩ (.int .i64 z3)).setCell ⟨g, o + 4, none⟩ (.int .u32 z4)).ownsRow B E 5 (.slice (some ⟨g, 0, none⟩) n c) n cs)
    ∧ w.grownBy (((((w.setCell ⟨g, o, none⟩ (.int .i64 z0)).setCell ⟨g, o + 1, none⟩ (.int .i64 z1)).setCell ⟨g, o + 2, none⟩ (.int .i64 z2)).setCell ⟨g, o + 3, none⟩ (.int .i64 z3)).setCell ⟨g, o + 4, none⟩ (.int .u32 z4)) (some g) := by
  have hs := own_setCells (k5 z0 z1 z2 z3 z4) o _ _ h
  exact ⟨⟨_, hs.1⟩, hs.2⟩
theorem own_some {w : World} {B E n g c : Nat} {xs : List Value} (h : w.ownsRow B E 5 (.slice (some ⟨g, 0, none⟩) n c) n xs) (j : Nat) (hj : j < n * 5) : ∃ v, w.cell? ⟨g, j, none⟩ = some v := by
  rw [h.cellAt j hj]
  have : j < xs.length := by have := h.1; omega
  exact ⟨_, List.getElem?_eq_getElem this⟩
theorem NV.want {W0 w : World} {base P p B G n c bw : Nat} {th : Nat → Bool} {vr_ : Nat → Int} {W : Nat → Nat → Value} {y0 y1 y2 y3 y4 : Int} (h : NV W0 w base P p B G n c th vr_ W) (hw : WantAt w bw y0 y1 y2 y3 y4) (h0 : W0.heap.size ≤ bw) (h1 : P < bw ∧ p < bw ∧ B < bw ∧ G < bw) (z0 z1 z2 z3 z4 : Int) :
    NV W0 (((((w.setCell ⟨bw, 0, none⟩ (.int .i64 z0)).setCell ⟨bw, 1, none⟩ (.int .i64 z1)).setCell ⟨bw, 2, none⟩ (.int .i64 z2)).setCell ⟨bw, 3, none⟩ (.int .i64 z3)).setCell ⟨bw, 4, none⟩ (.int .u32 z4)) base P p B G n c th vr_ W := by
  have hg : ∀ (v : World) (j : Nat) (u : Value), v.grownBy (v.setCell ⟨bw, j, none⟩ u) (some bw) := fun v j u => ⟨rfl, rfl, rfl, by simp, fun k hk hne => Below.heap_setCell _ _ _ _ (fun e => hne (by simpa using e))⟩
  have st : ∀ (v : World) (j : Nat) (u : Value), NV W0 v base P p B G n c th vr_ W → NV W0 (v.setCell ⟨bw, j, none⟩ u) base P p B G n c th vr_ W := fun v j u hv => hv.kept (hg v j u) h0 (by omega) (by omega) (by omega) (by omega)
  exact st _ _ _ (st _ _ _ (st _ _ _ (st _ _ _ (st _ _ _ h))))
set_option maxRecDepth 100000 in
set_option maxHeartbeats 8000000 in
theorem apart_any (n0 s0 x : Int) (g1 : -9223372036854775808 ≤ n0) (g2 : n0 ≤ 9223372036854775807) (g3 : -9223372036854775808 ≤ s0) (g4 : s0 ≤ 9223372036854775807) (x0 : 0 ≤ x) (x1 : x ≤ 4294967295) (vs vr : Value) (w : World) (hE : ErrsAt vs vr w) :
    Calls Tryd.prog 10 #[.int .i64 n0, .int .i64 s0, .int .u32 x] w fun e w' => e = .returned (.bool true) ∧ Below w.heap.size w w' := by
  have HE := Lib.hid hE
  obtain ⟨R, hR, CR⟩ := number_nat n0 6 6 rfl (by decide) (by decide) g1 g2
  obtain ⟨s, hs, CS⟩ := number_nat s0 16 16 rfl (by decide) (by decide) g3 g4
  have CR' := Lib.hid CR
  have CS' := Lib.hid CS
  obtain ⟨n, hn⟩ : ∃ n : Nat, (R : Int) + 2 = (n : Int) := ⟨R + 2, by omega⟩
  have hn1 : 2 ≤ n := by omega
  have hn2 : n ≤ 7 := by omega
  clear CR CS g1 g2 g3 g4 hE
  go_enter Tryd.func10, Tryd.ntmps10
  go_wp2_with (first
    | (go_at_call 35; (with_reducible refine (nfirst_is _ _ _ HE.out).mono ?_); rintro e w1 ⟨rfl, hb1⟩; have HB1 := Lib.hid hb1; clear hb1)
    | (go_at_call 26; (with_reducible refine (CR'.out _).mono ?_); rintro e w2 ⟨rfl, rfl⟩)
    | (go_at_call 26; (with_reducible refine (CS'.out _).mono ?_); rintro e w2 ⟨rfl, rfl⟩)
    | (go_at_call 36; (with_reducible refine (nnew_ok (n : Int) n (Lib.hid rfl) (by omega) (by omega) _).mono ?_); rintro e w2 ⟨P, p, B, G, rfl, hP, hb⟩; have HV : Hid (NV w w2 w1.heap.size P p B G n n (fun _ => false) (fun _ => 0) (fun _ b => zc b)) := Lib.hid ⟨HB1.out.trans (hb.mono HB1.out.size), HB1.out.size, hP⟩; clear hP hb))
  go_loopw [11] (fun z wr => ∃ (k : Nat) (W : Nat → Nat → Value), k ≤ n ∧ z = .int .i64 k ∧ NV w wr w1.heap.size P p B G n n (thK k) (fun _ => 0) W ∧ WN W k) (fun z _ => n - (intOf z).toNat)
  case atStart => exact ⟨0, _, by omega, rfl, ⟨HV.out.bel, HV.out.wb, HV.out.nd.congr (fun i _ => by simp [thK]) (fun _ _ => rfl)⟩, fun i hi => by omega⟩
  case round =>
    obtain ⟨k, W, hk, rfl, hV, hW⟩ := hrel
    have HV1 := Lib.hid hV
    have HW := Lib.hid hW
    clear hV hW
    by_cases hlt : k < n
    · have k0 : (0 : Int) ≤ k := by omega
      have HF : Hid (freeB (thK k) (fun _ => 0) k = true) := Lib.hid (by simp [freeB, thK])
      have HNo : Hid (∀ i, i < k → freeB (thK k) (fun _ => 0) i = false) := Lib.hid (by intro i hi; simp [freeB, thK, hi])
      have HKR : Hid (∀ i, i < 2 → KRight (kk2 k ((k : Int) + 1)) i) := Lib.hid (kk2_right _ _ (by omega) (by omega) (by omega))
      have HWn := Lib.hid (WN_next HW.out)
      go_wp2_with (first
        | (go_at_call 45; (with_reducible refine (num_is (k : Int) (by omega) (by omega) _).mono ?_); rintro e w4 ⟨rfl, hb⟩; have HV4 := Lib.hid (HV1.out.step hb); clear hb)
        | (go_at_call 45; (with_reducible refine (num_is ((k : Int) + 1) (by omega) (by omega) _).mono ?_); rintro e w5 ⟨rfl, hb⟩; have HV5 := Lib.hid (HV4.out.step hb); clear hb)
        | (go_at_call 40; (with_reducible refine (nmake_ok vs vr (some ⟨w5.heap.size, 0, none⟩) 2 2 (kk2 k ((k : Int) + 1)) (by decide) HKR k hlt HF HNo 0 (Lib.hid rfl) _ (HE.out.below (HV5.out.step ((Below.refl _ _).alloc (Nat.le_refl _) _)).bel) (HV5.out.nd.below ((Below.refl _ _).alloc (Nat.le_refl _) _)) (src_two w5 _ _ _ B G HV5.out.nd.ar.lt.2 (HV5.out.nd.row.lt G rfl).2)).mono ?_); rintro e w6 ⟨rfl, hM, hb⟩; have HV6 : Hid (NV w w6 w1.heap.size P p B G n n (thK (k + 1)) (fun _ => 0) _) := Lib.hid ((HV5.out.step ((Below.refl _ _).alloc (Nat.le_refl _) _)).made (by rw [← thK_put]; exact hM) hb); clear hM hb))
      go_roundw
      case rel => exact ⟨k + 1, _, by omega, by go_num, HV6.out, HWn.out⟩
      case measure => simp [intOf]; omega
    · obtain rfl : k = n := by omega
      obtain ⟨at_, hat, hmod⟩ : ∃ a : Nat, a < k ∧ (s : Int).tmod (k : Int) = (a : Int) := ⟨s % k, Nat.mod_lt _ (by omega), (Int.ofNat_tmod s k).symm⟩
      obtain ⟨v0, hv0, hxm⟩ : ∃ v : Nat, v < 1000 ∧ x.tmod 1000 = (v : Int) := ⟨(x % 1000).toNat, by omega, by rw [Int.tmod_eq_emod_of_nonneg x0]; omega⟩
      have hwv : IntKind.i64.wrap (v0 : Int) = v0 := by rw [IntKind.wrap_i64]; omega
      have HT : Hid (∀ i, i < k → thK k i = true) := Lib.hid (by intro i hi; simp [thK, hi])
      have HTa := Lib.hid (HT.out at_ hat)
      have HC1 : Hid (∀ b, b < 80 → (W at_ b).oneCell' = true) := Lib.hid (KAt.one fun j hj => ⟨_, _, _, _, _, HW.out at_ hat j hj⟩)
      have HWF : Hid (WF (updV W at_ (s * 5) (k5 1 0 0 0 ((v0 : Int) + 7))) k at_ s ((v0 : Int) + 7)) := Lib.hid (WF_set HW.out)
      obtain ⟨W7, hW7⟩ : ∃ W7, W7 = updV W at_ (s * 5) (k5 1 0 0 0 ((v0 : Int) + 7)) := ⟨_, rfl⟩
      rw [← hW7] at HWF
      have H7 := Lib.hid hW7
      have HC7 : Hid (∀ b, b < 80 → (W7 at_ b).oneCell' = true) := Lib.hid (KAt.one fun j hj => ⟨_, _, _, _, _, HWF.out at_ hat j hj⟩)
      have HR : Hid (rightB 1 0 0 0 ((v0 : Int) + 7) = true) := Lib.hid (by simp [rightB, wB, hidOf, hverOf, hrOf, placesOf, dataMost]; omega)
      clear hW7
      go_wp2_with (first
        | (go_at_call 45; (with_reducible refine (num_is ((v0 : Int) + 7) (by omega) (by omega) _).mono ?_); rintro e w4 ⟨rfl, hb⟩; have HV4 := Lib.hid (HV1.out.step hb); clear hb)
        | (go_at_call 41; (with_reducible refine (nset_ok vs vr at_ s hat hs HTa 1 0 0 0 ((v0 : Int) + 7) HR _ (HE.out.below HV4.out.bel) HV4.out.nd HC1).mono ?_); rintro e w7 ⟨rfl, hM, hb⟩; rw [← H7.out] at hM; have HV7 := Lib.hid (HV4.out.made hM hb); clear hM hb)
        | (go_at_call 38; (with_reducible refine (nall_is at_ hat HTa _ HV7.out.nd HC7).mono ?_); rintro e w8 ⟨g, c', rfl, hr, hb⟩; have HV8 := Lib.hid (HV7.out.step hb); have HR8 := Lib.hid hr; clear hr hb))
      have HP : Hid (P < w7.heap.size ∧ p < w7.heap.size ∧ B < w7.heap.size ∧ G < w7.heap.size ∧ w.heap.size ≤ w7.heap.size) := Lib.hid ⟨HV7.out.nd.pl, HV7.out.nd.ar.pl, HV7.out.nd.ar.lt.2, (HV7.out.nd.row.lt G rfl).2, HV7.out.bel.size⟩
      have hg : Hid (w7.heap.size ≤ g) := Lib.hid (HR8.out.lt g rfl).1
      go_loopw [17] (fun z wx => ∃ (q : Nat) (cs : List Value), q ≤ 16 ∧ z = .int .i64 q ∧ NV w wx w1.heap.size P p B G k k (thK k) (fun _ => 0) W7 ∧ wx.ownsRow w7.heap.size 69 5 (.slice (some ⟨g, 0, none⟩) 16 c') 16 cs) (fun z _ => 16 - (intOf z).toNat)
      case atStart => exact ⟨0, _, by omega, rfl, HV8.out, HR8.out⟩
      case round =>
        obtain ⟨q, cs, hq, rfl, hV, hr⟩ := hrel
        have HVq := Lib.hid hV
        have HRq := Lib.hid hr
        clear hV hr
        by_cases hlt2 : q < 16
        · have k0 : (0 : Int) ≤ q := by omega
          have k1 : (q : Int) < 16 := by omega
          clear hwv hmod hxm hn
          go_wp2_with (first
            | (go_at_call 45; (with_reducible refine (num_is 5 (by omega) (by omega) _).mono ?_); rintro e w9 ⟨rfl, hb⟩; have HV9 := Lib.hid (HVq.out.step hb); have HR9 := Lib.hid (own_below HRq.out hb); have HS9 := Lib.hid (own_set5 HR9.out (q * 5) 1 0 0 0 5); have z0 := HR9.out.frozenAt (q * 5); have z1 := HR9.out.frozenAt (q * 5 + 1); have z2 := HR9.out.frozenAt (q * 5 + 2); have z3 := HR9.out.frozenAt (q * 5 + 3); have z4 := HR9.out.frozenAt (q * 5 + 4); obtain ⟨c0, e0⟩ := own_some HR9.out (q * 5) (by omega); obtain ⟨c1, e1⟩ := own_some HR9.out (q * 5 + 1) (by omega); obtain ⟨c2, e2⟩ := own_some HR9.out (q * 5 + 2) (by omega); obtain ⟨c3, e3⟩ := own_some HR9.out (q * 5 + 3) (by omega); obtain ⟨c4, e4⟩ := own_some HR9.out (q * 5 + 4) (by omega); have HV10 := Lib.hid (HV9.out.kept HS9.out.2 (by have := HP.out; have := hg.out; omega) (by have := HP.out; have := hg.out; omega) (by have := HP.out; have := hg.out; omega) (by have := HP.out; have := hg.out; omega) (by have := HP.out; have := hg.out; omega)); clear hb))
          go_roundw
          case rel =>
            obtain ⟨cs2, hcs2⟩ := HS9.out.1
            exact ⟨q + 1, cs2, by omega, by go_num, HV10.out, hcs2⟩
          case measure => simp [intOf]; omega
        · have q1 : ¬ ((q : Int) < 16) := by omega
          go_wp2_with fail
          have HXM := Lib.hid hxm
          have HWV := Lib.hid hwv
          clear hwv hmod hxm hn
          go_loopw [18] (fun z wx => ∃ i : Nat, i ≤ k ∧ z = .int .i64 i ∧ NV w wx w1.heap.size P p B G k k (thK k) (fun _ => 0) W7) (fun z _ => k - (intOf z).toNat)
          case atStart => exact ⟨0, by omega, rfl, HVq.out⟩
          case round =>
            obtain ⟨i, hi, rfl, hV⟩ := hrel
            have HVi := Lib.hid hV
            clear hV
            by_cases hlt3 : i < k
            · have i0 : (0 : Int) ≤ i := by omega
              have i1 : (i : Int) < k := by omega
              go_wp2_with fail
              go_loopw [19] (fun z wy => ∃ j : Nat, j ≤ 16 ∧ z = .int .i64 j ∧ NV w wy w1.heap.size P p B G k k (thK k) (fun _ => 0) W7) (fun z _ => 16 - (intOf z).toNat)
              case atStart => exact ⟨0, by omega, rfl, HVi.out⟩
              case round =>
                obtain ⟨j, hj, rfl, hV⟩ := hrel
                have HVj := Lib.hid hV
                clear hV
                by_cases hlt4 : j < 16
                · obtain ⟨bw, hbw⟩ : ∃ bw, bw = wr.heap.size := ⟨_, rfl⟩
                  have HBW := Lib.hid (show w.heap.size ≤ bw by rw [hbw]; exact HVj.out.bel.size)
                  have HV0 : Hid (∀ o, NV w (wr.alloc o) w1.heap.size P p B G k k (thK k) (fun _ => 0) W7) := Lib.hid (fun o => HVj.out.step ((Below.refl _ _).alloc (Nat.le_refl _) _))
                  have HW0 : Hid (WantAt (wr.alloc (.cells #[.int .i64 0, .int .i64 0, .int .i64 0, .int .i64 0, .int .u32 0] 69)) bw 0 0 0 0 0) := Lib.hid (by rw [hbw]; exact WantAt.new wr _ 0 0 0 0 0)
                  have HN0 : Hid (P < bw ∧ p < bw ∧ B < bw ∧ G < bw) := Lib.hid (by rw [hbw]; exact ⟨HVj.out.nd.pl, HVj.out.nd.ar.pl, HVj.out.nd.ar.lt.2, (HVj.out.nd.row.lt G rfl).2⟩)
                  have HBQ := Lib.hid hbw
                  have j0 : (0 : Int) ≤ j := by omega
                  have j1 : (j : Int) < 16 := by omega
                  clear hbw
                  obtain ⟨tt, HTT⟩ : ∃ tt, Hid (decide (j < 2) = tt) := ⟨_, Lib.hid rfl⟩
                  go_upto_region 31 with fail
                  rw [← HBQ.out]
                  clear HBQ
                  go_cut [102] (fun v wx => v = .bool tt ∧ wx = wr.alloc (.cells #[.int .i64 0, .int .i64 0, .int .i64 0, .int .i64 0, .int .u32 0] 69))
                  case first =>
                    cases tt
                    · have j2 : ¬ (j : Int) < 2 := by have := HTT.out; simp at this; omega
                      go_wp2_with fail
                      go_meet
                      exact ⟨rfl, rfl⟩
                    · have j2 : (j : Int) < 2 := by have := HTT.out; simp at this; omega
                      go_wp2_with fail
                      go_meet
                      exact ⟨rfl, rfl⟩
                  obtain ⟨rfl, rfl⟩ := hcut
                  go_upto_if 102 with fail
                  go_cut [] (fun wx => NV w wx w1.heap.size P p B G k k (thK k) (fun _ => 0) W7 ∧ WantAt wx bw (kN j) 0 0 0 (dN i j))
                  case first =>
                    cases tt
                    · have h2 := HTT.out
                      have E1 : Hid (kN j = 0) := Lib.hid (by simp at h2; simp [kN]; omega)
                      have E2 : Hid (dN i j = 0) := Lib.hid (by simp at h2; simp [dN]; omega)
                      clear h2
                      go_wp2_with fail
                      go_meet
                      exact ⟨HV0.out _, by rw [E1.out, E2.out]; exact HW0.out⟩
                    · have h2 := HTT.out
                      have E1 : Hid (kN j = 1) := Lib.hid (by simp at h2; simp [kN, h2])
                      have E2 : Hid (dN i j = (i : Int) + (j : Int)) := Lib.hid (by simp at h2; simp [dN, h2])
                      clear h2
                      go_wp2_with (first
                        | (go_at_call 45; (with_reducible refine (num_is ((i : Int) + (j : Int)) (by omega) (by omega) _).mono ?_); rintro e w9 ⟨rfl, hb⟩; have HV9 := Lib.hid ((HV0.out _).step hb); have HW9 := Lib.hid (HW0.out.below hb); have c0 := HW9.out.c0; have c1 := HW9.out.c1; have c2 := HW9.out.c2; have c3 := HW9.out.c3; have c4 := HW9.out.c4; have z0 := HW9.out.fr 0; have z1 := HW9.out.fr 1; have z2 := HW9.out.fr 2; have z3 := HW9.out.fr 3; have z4 := HW9.out.fr 4; clear hb))
                      go_meet
                      exact ⟨HV9.out.want HW9.out HBW.out HN0.out _ _ _ _ _, by rw [E1.out, E2.out]; exact HW9.out.set _ _ _ _ _⟩
                  case rest =>
                    obtain ⟨hV, hW⟩ := hcut
                    have HVc := Lib.hid hV
                    have HWc := Lib.hid hW
                    clear hV hW
                    obtain ⟨ts, HTS⟩ : ∃ ts, Hid (decide (i = at_ ∧ j = s) = ts) := ⟨_, Lib.hid rfl⟩
                    go_upto_region 33 with fail
                    go_cut [115] (fun v wx => v = .bool ts ∧ wx = wc)
                    case first =>
                      by_cases e1 : i = at_
                      · by_cases e2 : j = s
                        · have E3 : Hid (decide (i = at_ ∧ j = s) = true) := Lib.hid (by simp [e1, e2])
                          have t1 : ((i : Int) == (at_ : Int)) = true := by simp [e1]
                          have t2 : ((j : Int) == (s : Int)) = true := by simp [e2]
                          clear e1 e2
                          go_wp2_with fail
                          go_meet
                          exact ⟨by rw [← HTS.out, E3.out], rfl⟩
                        · have E3 : Hid (decide (i = at_ ∧ j = s) = false) := Lib.hid (by simp [e2])
                          have t1 : ((i : Int) == (at_ : Int)) = true := by simp [e1]
                          have t2 : ((j : Int) == (s : Int)) = false := by simp; omega
                          clear e1 e2
                          go_wp2_with fail
                          go_meet
                          exact ⟨by rw [← HTS.out, E3.out], rfl⟩
                      · have E3 : Hid (decide (i = at_ ∧ j = s) = false) := Lib.hid (by simp [e1])
                        have t1 : ((i : Int) == (at_ : Int)) = false := by simp; omega
                        clear e1
                        go_wp2_with fail
                        go_meet
                        exact ⟨by rw [← HTS.out, E3.out], rfl⟩
                    obtain ⟨rfl, rfl⟩ := hcut
                    go_upto_if 115 with fail
                    go_cut [] (fun wx => NV w wx w1.heap.size P p B G k k (thK k) (fun _ => 0) W7 ∧ WantAt wx bw (kF at_ s i j) 0 0 0 (dF at_ s ((v0 : Int) + 7) i j))
                    case first =>
                      cases ts
                      rotate_left
                      · have e1 : i = at_ ∧ j = s := of_decide_eq_true HTS.out
                        have E3 : Hid (kF at_ s i j = 1) := Lib.hid (by simp [kF, e1])
                        have E4 : Hid (dF at_ s ((v0 : Int) + 7) i j = (v0 : Int) + 7) := Lib.hid (by simp [dF, e1])
                        have hxm := HXM.out
                        have hwv := HWV.out
                        clear e1
                        go_wp2_with (first
                          | (go_at_call 45; (with_reducible refine (num_is ((v0 : Int) + 7) (by omega) (by omega) _).mono ?_); rintro e w9 ⟨rfl, hb⟩; have HV9 := Lib.hid (HVc.out.step hb); have HW9 := Lib.hid (HWc.out.below hb); have c0 := HW9.out.c0; have c1 := HW9.out.c1; have c2 := HW9.out.c2; have c3 := HW9.out.c3; have c4 := HW9.out.c4; have z0 := HW9.out.fr 0; have z1 := HW9.out.fr 1; have z2 := HW9.out.fr 2; have z3 := HW9.out.fr 3; have z4 := HW9.out.fr 4; clear hb))
                        go_meet
                        exact ⟨HV9.out.want HW9.out HBW.out HN0.out _ _ _ _ _, by rw [E3.out, E4.out]; exact HW9.out.set _ _ _ _ _⟩
                      · have e1 : ¬ (i = at_ ∧ j = s) := of_decide_eq_false HTS.out
                        have E3 : Hid (kF at_ s i j = kN j) := Lib.hid (by unfold kF; rw [if_neg e1])
                        have E4 : Hid (dF at_ s ((v0 : Int) + 7) i j = dN i j) := Lib.hid (by unfold dF; rw [if_neg e1])
                        clear e1
                        go_wp2_with fail
                        go_meet
                        exact ⟨HVc.out, by rw [E3.out, E4.out]; exact HWc.out⟩
                    case rest =>
                      obtain ⟨hV, hW⟩ := hcut
                      have HVd := Lib.hid hV
                      have HWd := Lib.hid hW
                      clear hV hW
                      obtain ⟨y0, HY0⟩ : ∃ y0, Hid (kF at_ s i j = y0) := ⟨_, Lib.hid rfl⟩
                      obtain ⟨y4, HY4⟩ : ∃ y4, Hid (dF at_ s ((v0 : Int) + 7) i j = y4) := ⟨_, Lib.hid rfl⟩
                      have HK : Hid (KAt (W7 i) j y0 0 0 0 y4) := Lib.hid (by rw [← HY0.out, ← HY4.out]; exact HWF.out i hlt3 j hlt4)
                      have HK0 : Hid (W7 i (j * 5) = .int .i64 y0) := Lib.hid HK.out.1
                      have HK1 : Hid (W7 i (j * 5 + 1) = .int .i64 0) := Lib.hid HK.out.2.1
                      have HK2 : Hid (W7 i (j * 5 + 2) = .int .i64 0) := Lib.hid HK.out.2.2.1
                      have HK3 : Hid (W7 i (j * 5 + 3) = .int .i64 0) := Lib.hid HK.out.2.2.2.1
                      have HK4 : Hid (W7 i (j * 5 + 4) = .int .u32 y4) := Lib.hid HK.out.2.2.2.2
                      have HWe : Hid (WantAt wc bw y0 0 0 0 y4) := Lib.hid (by rw [← HY0.out, ← HY4.out]; exact HWd.out)
                      go_wp2_with (first
                        | (go_at_call 42; (with_reducible refine (nget_at (n := k) (i : Int) (j : Int) i j (Lib.hid rfl) (Lib.hid rfl) hlt3 hlt4 (Lib.hid (HT.out i hlt3)) y0 0 0 0 y4 HK0 HK1 HK2 HK3 HK4 _ HVd.out.nd).mono ?_); rintro e w10 ⟨rfl, hb⟩; have HV10 := Lib.hid (HVd.out.step hb); have HW10 := Lib.hid (HWe.out.below hb); have d0 : ∀ X, (w10.alloc X).cell? _ = _ := (fun X => (World.cell?_alloc_lt w10 X ⟨bw, 0, none⟩ HW10.out.lt).trans HW10.out.c0); have d1 : ∀ X, (w10.alloc X).cell? _ = _ := (fun X => (World.cell?_alloc_lt w10 X ⟨bw, 1, none⟩ HW10.out.lt).trans HW10.out.c1); have d2 : ∀ X, (w10.alloc X).cell? _ = _ := (fun X => (World.cell?_alloc_lt w10 X ⟨bw, 2, none⟩ HW10.out.lt).trans HW10.out.c2); have d3 : ∀ X, (w10.alloc X).cell? _ = _ := (fun X => (World.cell?_alloc_lt w10 X ⟨bw, 3, none⟩ HW10.out.lt).trans HW10.out.c3); have d4 : ∀ X, (w10.alloc X).cell? _ = _ := (fun X => (World.cell?_alloc_lt w10 X ⟨bw, 4, none⟩ HW10.out.lt).trans HW10.out.c4); clear hb)
                        | (go_at_call 43; (with_reducible refine (same_self y0 0 0 0 y4 _).mono ?_); rintro e w11 ⟨rfl, hb⟩; have HV11 := Lib.hid ((HV10.out.step ((Below.refl _ _).alloc (Nat.le_refl _) _)).step hb); clear hb))
                      go_roundw
                      case rel => exact ⟨j + 1, by omega, by go_num, HV11.out⟩
                      case measure => simp [intOf]; omega
                · obtain rfl : j = 16 := by omega
                  go_wp2_with fail
                  go_roundw
                  case rel => exact ⟨i + 1, by omega, by go_num, HVj.out⟩
                  case measure => simp [intOf]; omega
            · obtain rfl : i = k := by omega
              have hdd : decide (i < i) = false := by simp
              go_wp2_with fail
              go_ret
              exact ⟨rfl, HVi.out.bel⟩
theorem walk_NodeApart (a0 : Int) (a1 : Int) (a2 : Int) (w : World) (w0 : (Lit.int .i64 a0).wf = true) (w1 : (Lit.int .i64 a1).wf = true) (w2 : (Lit.int .u32 a2).wf = true) (hL : laidMetH Tryd.prog Rows.nodeApartRow.laid w) :
    Calls Tryd.prog 10 #[.int .i64 a0, .int .i64 a1, .int .u32 a2] w fun e w' => e = .returned (.bool true) ∧ Below w.heap.size w w' := by
  have hS := errs_are (gs := [4, 0]) hL (by
    intro n hn
    simp only [List.mem_cons, List.not_mem_nil, or_false] at hn
    rcases hn with rfl | rfl
    · exact ⟨"turnkey/api.ErrShape", _, .head _, gErrShape, tErrShape⟩
    · exact ⟨"turnkey/api.ErrRange", _, .tail _ (.head _), gErrRange, tErrRange⟩)
  have e0 := hS.1 4 (.head _)
  have e1 := hS.1 0 (.tail _ (.head _))
  have hx : 0 ≤ a2 ∧ a2 ≤ 4294967295 := by simpa [Lit.wf, IntKind.min, IntKind.max, IntKind.signed, IntKind.bits] using w2
  exact apart_any a0 a1 a2 (i64_fit w0).1 (i64_fit w0).2 (i64_fit w1).1 (i64_fit w1).2 hx.1 hx.2 _ _ w ⟨e0.1, e1.1, e0.2.1, e1.2.1⟩
end Go.Proofs.YtlefmgdfcpnifaaDoor
