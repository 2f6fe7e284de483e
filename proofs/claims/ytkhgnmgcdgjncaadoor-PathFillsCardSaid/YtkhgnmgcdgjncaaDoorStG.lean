/-
  Chapter 8's first; StoreGone.
-/
import Derived.Test.YtkhgnmgcdgjncaaDoorStR
import Derived.Test.YtkhgnmgcdgjncaaDoorSen
namespace Go.Proofs.YtkhgnmgcdgjncaaDoor
open Go.ChangeShapes Go.WideShapes Go.ChangeAt Go.RowKit
set_option linter.unusedVariables false
/-- A store over a law's start. -/
structure SV (W0 w : World) (S : Nat) (a b : Shp) (th : Nat → Bool) (vr_ : Nat → Int) (W : Nat → Nat → Value) (th2 : Nat → Bool) (vr2 : Nat → Int) (W2 : Nat → Nat → Int) : Prop where
  bel : Below W0.heap.size W0 w
  wb : W0.heap.size ≤ a.b
  st : StAt w S a b th vr_ W th2 vr2 W2
section
variable {W0 w w' : World} {S : Nat} {a b : Shp} {th th' : Nat → Bool} {vr_ vr' : Nat → Int} {W W' : Nat → Nat → Value} {th2 th2' : Nat → Bool} {vr2 vr2' : Nat → Int} {W2 W2' : Nat → Nat → Int}
theorem SV.step (h : SV W0 w S a b th vr_ W th2 vr2 W2) (hb : Below w.heap.size w w') : SV W0 w' S a b th vr_ W th2 vr2 W2 := ⟨h.bel.trans (hb.mono h.bel.size), h.wb, h.st.below hb⟩
theorem SV.node (h : SV W0 w S a b th vr_ W th2 vr2 W2) (hN : NdAt w' a.b a.P a.p a.B a.G a.n a.c th' vr' W') (hb : PBelow w w' a.B a.G) : SV W0 w' S a b th' vr' W' th2 vr2 W2 :=
  ⟨h.bel.trans (hb.below (Nat.le_trans h.wb h.st.nd.ar.lt.1) (Nat.le_trans h.wb (h.st.nd.row.lt a.G rfl).1) h.bel.size), h.wb, h.st.node hN hb⟩
theorem SV.page (h : SV W0 w S a b th vr_ W th2 vr2 W2) (hP : PgAt w' b.b b.P b.p b.B b.G b.n b.c th2' vr2' W2') (hb : PBelow w w' b.B b.G) : SV W0 w' S a b th vr_ W th2' vr2' W2' :=
  ⟨h.bel.trans (hb.below (Nat.le_trans h.wb (Nat.le_trans h.st.ab h.st.pg.ar.lt.1)) (Nat.le_trans h.wb (Nat.le_trans h.st.ab (h.st.pg.row.lt b.G rfl).1)) h.bel.size), h.wb, h.st.page hP hb⟩
end
/-- A key in a block of its own. -/
structure KeyB (w : World) (b : Nat) (k0 k1 k2 k3 k4 : Int) : Prop where
  lt : b < w.heap.size
  c0 : w.cell? ⟨b, 0, none⟩ = some (.int .i64 k0)
  c1 : w.cell? ⟨b, 1, none⟩ = some (.int .i64 k1)
  c2 : w.cell? ⟨b, 2, none⟩ = some (.int .i64 k2)
  c3 : w.cell? ⟨b, 3, none⟩ = some (.int .i64 k3)
  c4 : w.cell? ⟨b, 4, none⟩ = some (.int .u32 k4)
theorem KeyB.same {w w' : World} {b : Nat} {k0 k1 k2 k3 k4 : Int} (h : KeyB w b k0 k1 k2 k3 k4) (hs : w.heap.size ≤ w'.heap.size) (hb : w'.heap[b]? = w.heap[b]?) : KeyB w' b k0 k1 k2 k3 k4 :=
  ⟨Nat.lt_of_lt_of_le h.lt hs, (World.cell?_of_block (a := ⟨b, 0, none⟩) hb).trans h.c0, (World.cell?_of_block (a := ⟨b, 1, none⟩) hb).trans h.c1, (World.cell?_of_block (a := ⟨b, 2, none⟩) hb).trans h.c2, (World.cell?_of_block (a := ⟨b, 3, none⟩) hb).trans h.c3, (World.cell?_of_block (a := ⟨b, 4, none⟩) hb).trans h.c4⟩
theorem KeyB.below {w w' : World} {b : Nat} {k0 k1 k2 k3 k4 : Int} (h : KeyB w b k0 k1 k2 k3 k4) (hb : Below w.heap.size w w') : KeyB w' b k0 k1 k2 k3 k4 := h.same hb.size (hb.block b h.lt)
theorem KeyB.made {w w' : World} {b B G : Nat} {k0 k1 k2 k3 k4 : Int} (h : KeyB w b k0 k1 k2 k3 k4) (hb : PBelow w w' B G) (hB : b ≠ B) (hG : b ≠ G) : KeyB w' b k0 k1 k2 k3 k4 := h.same hb.2.2.2.1 (hb.2.2.2.2 b h.lt hB hG)
theorem KeyB.new (w : World) (k0 k1 k2 k3 k4 : Int) (T : TypeId) : KeyB (w.alloc (.cells #[.int .i64 k0, .int .i64 k1, .int .i64 k2, .int .i64 k3, .int .u32 k4] T (0, 0))) w.heap.size k0 k1 k2 k3 k4 := ⟨by simp, by simp, by simp, by simp, by simp, by simp⟩
set_option maxRecDepth 100000 in
set_option maxHeartbeats 2000000 in
theorem stfirst_is (w : World) (A : Nat → Addr) (hS : Sen A w) : Calls Tryd.prog 11 #[] w fun e w' => e = .returned (.bool true) ∧ Below w.heap.size w w' := by
  have HS := Lib.hid hS
  clear hS
  go_enter Tryd.func11, Tryd.ntmps11
  go_wp2_with (first
    | (go_at_call 12; (with_reducible refine (snew_ok 2 2 2 2 (Lib.hid rfl) (Lib.hid rfl) (by decide) (by decide) (by decide) (by decide) _).mono ?_); rintro e w1 ⟨S, a, b, rfl, hs, hn, hb⟩; have HN := Lib.hid hn.out; have H1 : Hid (SV w w1 S a b _ _ _ _ _ _) := Lib.hid ⟨hb, by have := hn.out.2.2; omega, hs⟩; have s1 := hs.s1; have HLv : Hid (liveB a b (fun _ => false) (fun _ => 0) (upd (fun _ => false) 0 true) (fun _ => 0) 3 0 0 = true) := Lib.hid (by simp [liveB, thereB, upd, hn.out.2.1]); clear hs hb hn)
    | (go_at_call 20; (with_reducible refine (pmake_at 0 (some ⟨w1.heap.size, 0, none⟩) 1 1 [3] (Lib.hid rfl) (by decide) 0 (Lib.hid rfl) (by have := HN.out; omega) (Lib.hid (by decide)) (Lib.hid (by intro i hi; omega)) 0 (Lib.hid rfl) _ (H1.out.st.pg.below ((Below.refl _ _).alloc (Nat.le_refl _) _)) (srcu1 w1 3 _ b.B b.G H1.out.st.pg.ar.lt.2 (H1.out.st.pg.row.lt b.G rfl).2)).mono ?_); rintro e w2 ⟨rfl, hP, hb⟩; have H2 := Lib.hid ((H1.out.step ((Below.refl _ _).alloc (Nat.le_refl _) _)).page hP hb); clear hP hb s1)
    | (go_at_call 35; (with_reducible refine (spagekey_in 0 0 (Lib.hid rfl) (by have := HN.out; omega) (Lib.hid rfl) 0 (Lib.hid rfl) _ H2.out.st).mono ?_); rintro e w3 ⟨rfl, hb⟩; have H3 := Lib.hid (H2.out.step hb); clear hb)
    | (go_at_call 27; (with_reducible refine (speek_ok 0 0 0 1 0 0 0 rfl rfl (by have := HN.out; omega) (by decide) (Lib.hid rfl) HLv (by decide) 3 (Lib.hid rfl) _ (H3.out.step ((Below.refl _ _).alloc (Nat.le_refl _) _)).st).mono ?_); rintro e w4 ⟨rfl, hb⟩; have H4 := Lib.hid ((H3.out.step ((Below.refl _ _).alloc (Nat.le_refl _) _)).step hb); have HK := Lib.hid ((KeyB.new w3 3 0 0 1 0 25).below hb); have c0 := HK.out.c0; have c1 := HK.out.c1; have c2 := HK.out.c2; have c3 := HK.out.c3; have c4 := HK.out.c4; clear hb)
    | (go_at_call 29; (with_reducible refine (spoke_right 0 0 1 0 0 4 HLv (by decide) (by decide) (sA A 9) _ H4.out.st (HS.out.below H4.out.bel).c9 (HS.out.below H4.out.bel).s9).mono ?_); rintro e w5 ⟨rfl, hb⟩; have H5 := Lib.hid (H4.out.step hb); clear hb)
    | (go_at_call 19; (with_reducible refine (is_sen A 9 110 (by decide) (Lib.hid (by decide)) _ (HS.out.below H5.out.bel)).mono ?_); rintro e w6 ⟨rfl, hb⟩; have H6 := Lib.hid (H5.out.step hb); clear hb))
  go_ret
  exact ⟨rfl, H6.out.bel⟩
set_option maxRecDepth 100000 in
theorem gone_out (s x : Int) (hs : ¬ (0 ≤ s ∧ s < 16)) (w : World) (A : Nat → Addr) (hS : Sen A w) :
    Calls Tryd.prog 5 #[.int .i64 s, .int .u32 x] w fun e w' => e = .returned (.bool true) ∧ Below w.heap.size w w' := by
  have HS := Lib.hid hS
  clear hS
  by_cases h0 : 0 ≤ s
  · have d0 : decide (s < 0) = false := decide_eq_false (by omega)
    have d1 : decide (16 ≤ s) = true := decide_eq_true (by omega)
    clear hs h0
    go_enter Tryd.func5, Tryd.ntmps5
    go_wp2_with (first | (go_at_call 11; refine (stfirst_is _ A HS.out).mono ?_; rintro e w1 ⟨rfl, hb1⟩; have HB1 := Lib.hid hb1; clear hb1))
    go_ret
    exact ⟨rfl, HB1.out⟩
  · have d0 : decide (s < 0) = true := decide_eq_true (by omega)
    clear hs h0
    go_enter Tryd.func5, Tryd.ntmps5
    go_wp2_with (first | (go_at_call 11; refine (stfirst_is _ A HS.out).mono ?_; rintro e w1 ⟨rfl, hb1⟩; have HB1 := Lib.hid hb1; clear hb1))
    go_ret
    exact ⟨rfl, HB1.out⟩
set_option maxRecDepth 100000 in
set_option maxHeartbeats 8000000 in
theorem gone_in (s x : Int) (h0 : 0 ≤ s) (h16 : s < 16) (w : World) (A : Nat → Addr) (hS : Sen A w) :
    Calls Tryd.prog 5 #[.int .i64 s, .int .u32 x] w fun e w' => e = .returned (.bool true) ∧ Below w.heap.size w w' := by
  have HS := Lib.hid hS
  have HE : Hid (ErrsAt (eV (sA A 1)) (eV (sA A 2)) w) := Lib.hid ⟨hS.c1, hS.c2, hS.s1, hS.s2⟩
  have d0 : decide (s < 0) = false := decide_eq_false (by omega)
  have d1 : decide (16 ≤ s) = false := decide_eq_false (by omega)
  obtain ⟨x1, hx1⟩ : ∃ x1, IntKind.u32.wrap (x + 1) = x1 := ⟨_, rfl⟩
  clear hS h0 h16
  go_enter Tryd.func5, Tryd.ntmps5
  go_upto_region 13 with (first
    | (go_at_call 11; refine (stfirst_is _ A HS.out).mono ?_; rintro e w1 ⟨rfl, hb1⟩; have HB1 := Lib.hid hb1; clear hb1)
    | (go_at_call 12; (with_reducible refine (snew_ok 1 1 1 1 (Lib.hid rfl) (Lib.hid rfl) (by decide) (by decide) (by decide) (by decide) _).mono ?_); rintro e w2 ⟨S, a, b, rfl, hs, hn, hb⟩; have HN := Lib.hid hn.out; have H2 : Hid (SV w w2 S a b _ _ _ _ _ _) := Lib.hid ⟨HB1.out.trans (hb.mono HB1.out.size), by have := hn.out.2.2; have := HB1.out.size; omega, hs⟩; have s0 := hs.s0; clear hs hb hn)
    | (go_at_call 17; (with_reducible refine (nmake_at 0 (eV (sA A 1)) (eV (sA A 2)) none 0 0 (fun _ _ => 0) (by decide) (Lib.hid (by intro i hi; omega)) 0 (Lib.hid rfl) (by have := HN.out; omega) (Lib.hid (by decide)) (Lib.hid (by intro i hi; omega)) 0 (Lib.hid rfl) _ (HE.out.below H2.out.bel) H2.out.st.nd (srcK_none _ _ _ _)).mono ?_); rintro e w3 ⟨rfl, hM, hb⟩; have H3 := Lib.hid (H2.out.node hM hb); have s1 := H3.out.st.s1; clear hM hb s0)
    | (go_at_call 20; (with_reducible refine (pmake_at 0 (some ⟨w3.heap.size, 0, none⟩) 1 1 [x] (Lib.hid rfl) (by decide) 0 (Lib.hid rfl) (by have := HN.out; omega) (Lib.hid (by decide)) (Lib.hid (by intro i hi; omega)) 0 (Lib.hid rfl) _ (H3.out.st.pg.below ((Below.refl _ _).alloc (Nat.le_refl _) _)) (srcu1 w3 x _ b.B b.G H3.out.st.pg.ar.lt.2 (H3.out.st.pg.row.lt b.G rfl).2)).mono ?_); rintro e w4 ⟨rfl, hP, hb⟩; have H4 := Lib.hid ((H3.out.step ((Below.refl _ _).alloc (Nat.le_refl _) _)).page hP hb); clear hP hb s1)
    | (go_at_call 36; (with_reducible refine (snodekey_in 0 1 0 (Lib.hid rfl) (by decide) (by decide) (by have := HN.out; omega) (Lib.hid rfl) 0 (Lib.hid rfl) _ H4.out.st).mono ?_); rintro e w5 ⟨rfl, hb⟩; have H5 := Lib.hid (H4.out.step hb); clear hb)
    | (go_at_call 35; (with_reducible refine (spagekey_in 0 0 (Lib.hid rfl) (by have := HN.out; omega) (Lib.hid rfl) 0 (Lib.hid rfl) _ (H5.out.step ((Below.refl _ _).alloc (Nat.le_refl _) _)).st).mono ?_); rintro e w6 ⟨rfl, hb⟩; have H6 := Lib.hid ((H5.out.step ((Below.refl _ _).alloc (Nat.le_refl _) _)).step hb); have HK6 := Lib.hid ((KeyB.new w5 2 0 0 0 1 25).below hb); clear hb))
  obtain ⟨nb, Hnb⟩ : ∃ nb, Hid (w5.heap.size = nb) := ⟨_, Lib.hid rfl⟩
  obtain ⟨pb, Hpb⟩ : ∃ pb, Hid (w6.heap.size = pb) := ⟨_, Lib.hid rfl⟩
  obtain ⟨w7, hw7⟩ : ∃ w7, w7 = w6.alloc (.cells #[.int .i64 3, .int .i64 0, .int .i64 0, .int .i64 0, .int .u32 0] 25) := ⟨_, rfl⟩
  rw [Hnb.out, Hpb.out, ← hw7]
  have H7 : Hid (SV w w7 S a b _ _ _ _ _ _) := Lib.hid (by rw [hw7]; exact H6.out.step ((Below.refl _ _).alloc (Nat.le_refl _) _))
  have HKn7 : Hid (KeyB w7 nb 2 0 0 0 1) := Lib.hid (by rw [hw7, ← Hnb.out]; exact HK6.out.below ((Below.refl _ _).alloc (Nat.le_refl _) _))
  have HKp7 : Hid (KeyB w7 pb 3 0 0 0 0) := Lib.hid (by rw [hw7, ← Hpb.out]; exact KeyB.new _ _ _ _ _ _ _)
  have HBn : Hid (a.B < nb ∧ a.G < nb ∧ b.B < nb ∧ b.G < nb ∧ nb < pb) := Lib.hid (by
    have h1 := H5.out.st.nd.ar.lt.2
    have h2 := (H5.out.st.nd.row.lt a.G rfl).2
    have h3 := H5.out.st.pg.ar.lt.2
    have h4 := (H5.out.st.pg.row.lt b.G rfl).2
    have h5 := HK6.out.lt
    have h6 := Hnb.out
    have h7 := Hpb.out
    omega)
  have HLn : Hid (liveB a b (upd (fun _ => false) 0 true) (fun _ => 0) (upd (fun _ => false) 0 true) (fun _ => 0) 2 0 0 = true) := Lib.hid (by simp [liveB, thereB, upd, HN.out.1])
  have HLp : Hid (liveB a b (upd (fun _ => false) 0 true) (fun _ => 0) (upd (fun _ => false) 0 true) (fun _ => 0) 3 0 0 = true) := Lib.hid (by simp [liveB, thereB, upd, HN.out.2.1])
  have HNn : Hid (liveB a b (upd (upd (upd (fun _ => false) 0 true) 0 false) 0 true) (upd (fun _ => 0) 0 1) (upd (upd (upd (fun _ => false) 0 true) 0 false) 0 true) (upd (fun _ => 0) 0 1) 2 0 0 = false) := Lib.hid (by simp [liveB, upd])
  have HNp : Hid (liveB a b (upd (upd (upd (fun _ => false) 0 true) 0 false) 0 true) (upd (fun _ => 0) 0 1) (upd (upd (upd (fun _ => false) 0 true) 0 false) 0 true) (upd (fun _ => 0) 0 1) 3 0 0 = false) := Lib.hid (by simp [liveB, upd])
  have HLq : Hid (liveB a b (upd (upd (upd (fun _ => false) 0 true) 0 false) 0 true) (upd (fun _ => 0) 0 1) (upd (upd (upd (fun _ => false) 0 true) 0 false) 0 true) (upd (fun _ => 0) 0 1) 3 0 1 = true) := Lib.hid (by simp [liveB, thereB, upd, HN.out.2.1])
  have HF1 : Hid (freeB (upd (upd (fun _ => false) 0 true) 0 false) (upd (fun _ => 0) 0 1) 0 = true) := Lib.hid (by simp [freeB, upd])
  have c0 := HKn7.out.c0
  have c1 := HKn7.out.c1
  have c2 := HKn7.out.c2
  have c3 := HKn7.out.c3
  have c4 := HKn7.out.c4
  clear hw7
  go_wp2_with (first
    | (go_at_call 16; (with_reducible refine (slive_at 2 0 0 0 1 true HLn _ H7.out.st).mono ?_); rintro e w8 ⟨rfl, hb⟩; have H8 := Lib.hid (H7.out.step hb); have HKn8 := Lib.hid (HKn7.out.below hb); have HKp8 := Lib.hid (HKp7.out.below hb); have d0 := HKp8.out.c0; have d1 := HKp8.out.c1; have d2 := HKp8.out.c2; have d3 := HKp8.out.c3; have d4 := HKp8.out.c4; clear hb)
    | (go_at_call 16; (with_reducible refine (slive_at 3 0 0 0 0 true HLp _ H8.out.st).mono ?_); rintro e w9 ⟨rfl, hb⟩; have H9 := Lib.hid (H8.out.step hb); have HKn9 := Lib.hid (HKn8.out.below hb); have HKp9 := Lib.hid (HKp8.out.below hb); have s0 := H9.out.st.s0; have f0 := H9.out.st.nd.f0; clear hb)
    | (go_at_call 32; (with_reducible refine (agive_at 0 _ H9.out.st.nd.ar 0 (Lib.hid rfl) (by have := HN.out; omega) (Lib.hid rfl) 0 1 (Lib.hid rfl) (by decide) (by decide) (Lib.hid rfl)).mono ?_); rintro e w10 ⟨rfl, hA, hg⟩; have hb := PBelow.of (B := a.B) (G := a.G) hg (.inl rfl); have H10 := Lib.hid (H9.out.node (H9.out.st.nd.turn hA hg) hb); have HKn10 := Lib.hid (HKn9.out.made hb (by have := HBn.out; omega) (by have := HBn.out; omega)); have HKp10 := Lib.hid (HKp9.out.made hb (by have := HBn.out; omega) (by have := HBn.out; omega)); have s1 := H10.out.st.s1; have g0 := H10.out.st.pg.f0; clear hA hg hb s0 f0)
    | (go_at_call 32; (with_reducible refine (agive_at 0 _ H10.out.st.pg.ar 0 (Lib.hid rfl) (by have := HN.out; omega) (Lib.hid rfl) 0 1 (Lib.hid rfl) (by decide) (by decide) (Lib.hid rfl)).mono ?_); rintro e w11 ⟨rfl, hA, hg⟩; have hb := PBelow.of (B := b.B) (G := b.G) hg (.inl rfl); have H11 := Lib.hid (H10.out.page (H10.out.st.pg.turn hA hg) hb); have HKn11 := Lib.hid (HKn10.out.made hb (by have := HBn.out; omega) (by have := HBn.out; omega)); have HKp11 := Lib.hid (HKp10.out.made hb (by have := HBn.out; omega) (by have := HBn.out; omega)); have s0 := H11.out.st.s0; clear hA hg hb s1 g0)
    | (go_at_call 17; (with_reducible refine (nmake_at 0 (eV (sA A 1)) (eV (sA A 2)) none 0 0 (fun _ _ => 0) (by decide) (Lib.hid (by intro i hi; omega)) 0 (Lib.hid rfl) (by have := HN.out; omega) HF1 (Lib.hid (by intro i hi; omega)) 1 (Lib.hid rfl) _ (HE.out.below H11.out.bel) H11.out.st.nd (srcK_none _ _ _ _)).mono ?_); rintro e w12 ⟨rfl, hM, hb⟩; have H12 := Lib.hid (H11.out.node hM hb); have HKn12 := Lib.hid (HKn11.out.made hb (by have := HBn.out; omega) (by have := HBn.out; omega)); have HKp12 := Lib.hid (HKp11.out.made hb (by have := HBn.out; omega) (by have := HBn.out; omega)); have s1 := H12.out.st.s1; clear hM hb s0)
    | (go_at_call 20; (with_reducible refine (pmake_at 0 (some ⟨w12.heap.size, 0, none⟩) 1 1 [x1] (Lib.hid rfl) (by decide) 0 (Lib.hid rfl) (by have := HN.out; omega) HF1 (Lib.hid (by intro i hi; omega)) 1 (Lib.hid rfl) _ (H12.out.st.pg.below ((Below.refl _ _).alloc (Nat.le_refl _) _)) (srcu1 w12 x1 _ b.B b.G H12.out.st.pg.ar.lt.2 (H12.out.st.pg.row.lt b.G rfl).2)).mono ?_); rintro e w13 ⟨rfl, hP, hb⟩; have H13 := Lib.hid ((H12.out.step ((Below.refl _ _).alloc (Nat.le_refl _) _)).page hP hb); have HKn13 := Lib.hid ((HKn12.out.below ((Below.refl _ _).alloc (Nat.le_refl _) _)).made hb (by have := HBn.out; omega) (by have := HBn.out; omega)); have HKp13 := Lib.hid ((HKp12.out.below ((Below.refl _ _).alloc (Nat.le_refl _) _)).made hb (by have := HBn.out; omega) (by have := HBn.out; omega)); have c0 := HKn13.out.c0; have c1 := HKn13.out.c1; have c2 := HKn13.out.c2; have c3 := HKn13.out.c3; have c4 := HKn13.out.c4; clear hP hb s1)
    | (go_at_call 22; (with_reducible refine (sfetch_none 0 0 0 1 s HNn (sA A 4) _ H13.out.st (HS.out.below H13.out.bel).c4 (HS.out.below H13.out.bel).s4).mono ?_); rintro e w14 ⟨rfl, hb⟩; have H14 := Lib.hid (H13.out.step hb); have HKn14 := Lib.hid (HKn13.out.below hb); have HKp14 := Lib.hid (HKp13.out.below hb); have c0 : ∀ o, (World.alloc w14 o).cell? _ = _ := (fun o => (HKn14.out.below ((Below.refl _ _).alloc (Nat.le_refl _) _)).c0); have c1 : ∀ o, (World.alloc w14 o).cell? _ = _ := (fun o => (HKn14.out.below ((Below.refl _ _).alloc (Nat.le_refl _) _)).c1); have c2 : ∀ o, (World.alloc w14 o).cell? _ = _ := (fun o => (HKn14.out.below ((Below.refl _ _).alloc (Nat.le_refl _) _)).c2); have c3 : ∀ o, (World.alloc w14 o).cell? _ = _ := (fun o => (HKn14.out.below ((Below.refl _ _).alloc (Nat.le_refl _) _)).c3); have c4 : ∀ o, (World.alloc w14 o).cell? _ = _ := (fun o => (HKn14.out.below ((Below.refl _ _).alloc (Nat.le_refl _) _)).c4); have d0 : ∀ o, (World.alloc w14 o).cell? _ = _ := (fun o => (HKp14.out.below ((Below.refl _ _).alloc (Nat.le_refl _) _)).c0); have d1 : ∀ o, (World.alloc w14 o).cell? _ = _ := (fun o => (HKp14.out.below ((Below.refl _ _).alloc (Nat.le_refl _) _)).c1); have d2 : ∀ o, (World.alloc w14 o).cell? _ = _ := (fun o => (HKp14.out.below ((Below.refl _ _).alloc (Nat.le_refl _) _)).c2); have d3 : ∀ o, (World.alloc w14 o).cell? _ = _ := (fun o => (HKp14.out.below ((Below.refl _ _).alloc (Nat.le_refl _) _)).c3); have d4 : ∀ o, (World.alloc w14 o).cell? _ = _ := (fun o => (HKp14.out.below ((Below.refl _ _).alloc (Nat.le_refl _) _)).c4); clear hb)
    | (go_at_call 25; (with_reducible refine (sswap_none 0 0 0 1 s 3 0 0 0 0 HNn (sA A 4) _ (H14.out.step ((Below.refl _ _).alloc (Nat.le_refl _) _)).st (HS.out.below (H14.out.step ((Below.refl _ _).alloc (Nat.le_refl _) _)).bel).c4 (HS.out.below (H14.out.step ((Below.refl _ _).alloc (Nat.le_refl _) _)).bel).s4).mono ?_); rintro e w15 ⟨rfl, hb⟩; have H15 := Lib.hid ((H14.out.step ((Below.refl _ _).alloc (Nat.le_refl _) _)).step hb); have HKn15 := Lib.hid ((HKn14.out.below ((Below.refl _ _).alloc (Nat.le_refl _) _)).below hb); have HKp15 := Lib.hid ((HKp14.out.below ((Below.refl _ _).alloc (Nat.le_refl _) _)).below hb); have d0 : ∀ o, (World.alloc w15 o).cell? _ = _ := (fun o => (HKp15.out.below ((Below.refl _ _).alloc (Nat.le_refl _) _)).c0); have d1 : ∀ o, (World.alloc w15 o).cell? _ = _ := (fun o => (HKp15.out.below ((Below.refl _ _).alloc (Nat.le_refl _) _)).c1); have d2 : ∀ o, (World.alloc w15 o).cell? _ = _ := (fun o => (HKp15.out.below ((Below.refl _ _).alloc (Nat.le_refl _) _)).c2); have d3 : ∀ o, (World.alloc w15 o).cell? _ = _ := (fun o => (HKp15.out.below ((Below.refl _ _).alloc (Nat.le_refl _) _)).c3); have d4 : ∀ o, (World.alloc w15 o).cell? _ = _ := (fun o => (HKp15.out.below ((Below.refl _ _).alloc (Nat.le_refl _) _)).c4); clear hb)
    | (go_at_call 27; (with_reducible refine (speek_none 0 0 0 0 s HNp (sA A 4) _ (H15.out.step ((Below.refl _ _).alloc (Nat.le_refl _) _)).st (HS.out.below (H15.out.step ((Below.refl _ _).alloc (Nat.le_refl _) _)).bel).c4 (HS.out.below (H15.out.step ((Below.refl _ _).alloc (Nat.le_refl _) _)).bel).s4).mono ?_); rintro e w16 ⟨rfl, hb⟩; have H16 := Lib.hid ((H15.out.step ((Below.refl _ _).alloc (Nat.le_refl _) _)).step hb); have HKn16 := Lib.hid ((HKn15.out.below ((Below.refl _ _).alloc (Nat.le_refl _) _)).below hb); have HKp16 := Lib.hid ((HKp15.out.below ((Below.refl _ _).alloc (Nat.le_refl _) _)).below hb); have d0 := HKp16.out.c0; have d1 := HKp16.out.c1; have d2 := HKp16.out.c2; have d3 := HKp16.out.c3; have d4 := HKp16.out.c4; clear hb)
    | (go_at_call 29; (with_reducible refine (spoke_none 0 0 0 0 s 5 HNp (sA A 4) _ H16.out.st (HS.out.below H16.out.bel).c4 (HS.out.below H16.out.bel).s4).mono ?_); rintro e w17 ⟨rfl, hb⟩; have H17 := Lib.hid (H16.out.step hb); have HKn17 := Lib.hid (HKn16.out.below hb); have HKp17 := Lib.hid (HKp16.out.below hb); have s1 := H17.out.st.s1; have c0 := HKn17.out.c0; have c1 := HKn17.out.c1; have c2 := HKn17.out.c2; have c3 := HKn17.out.c3; have c4 := HKn17.out.c4; clear hb)
    | (go_at_call 41; (with_reducible refine (pread_at 0 0 0 0 (Lib.hid rfl) (Lib.hid rfl) (by have := HN.out; omega) (by decide) (Lib.hid rfl) x1 (Lib.hid rfl) _ H17.out.st.pg).mono ?_); rintro e w18 ⟨rfl, rfl⟩)
    | (go_at_call 16; (with_reducible refine (slive_at 2 0 0 0 1 false HNn _ H17.out.st).mono ?_); rintro e w19 ⟨rfl, hb⟩; have H19 := Lib.hid (H17.out.step hb); have HKn19 := Lib.hid (HKn17.out.below hb); have HKp19 := Lib.hid (HKp17.out.below hb); have d0 := HKp19.out.c0; have d1 := HKp19.out.c1; have d2 := HKp19.out.c2; have d3 := HKp19.out.c3; have d4 := HKp19.out.c4; clear hb)
    | (go_at_call 16; (with_reducible refine (slive_at 3 0 0 0 0 false HNp _ H19.out.st).mono ?_); rintro e w20 ⟨rfl, hb⟩; have H20 := Lib.hid (H19.out.step hb); clear hb)
    | (go_at_call 19; (with_reducible refine (is_sen A 4 105 (by decide) (Lib.hid (by decide)) _ (HS.out.below H20.out.bel)).mono ?_); rintro e w21 ⟨rfl, hb⟩; have H20 := Lib.hid (H20.out.step hb); clear hb)
    | (go_at_call 35; (with_reducible refine (spagekey_in 0 0 (Lib.hid rfl) (by have := HN.out; omega) (Lib.hid rfl) 1 (Lib.hid rfl) _ H20.out.st).mono ?_); rintro e w24 ⟨rfl, hb⟩; have H24 := Lib.hid (H20.out.step hb); clear hb)
    | (go_at_call 16; (with_reducible refine (slive_at 3 0 1 0 0 true HLq _ H24.out.st).mono ?_); rintro e w25 ⟨rfl, hb⟩; have H25 := Lib.hid (H24.out.step hb); clear hb))
  go_ret
  exact ⟨rfl, H25.out.bel⟩
theorem walk_StoreGone (a0 : Int) (a1 : Int) (w : World) (w0 : (Lit.int .i64 a0).wf = true) (w1 : (Lit.int .u32 a1).wf = true) (hL : laidMetH Tryd.prog Rows.storeGoneRow.laid w) :
    Calls Tryd.prog 5 #[.int .i64 a0, .int .u32 a1] w fun e w' => e = .returned (.bool true) ∧ Below w.heap.size w w' := by
  have hS := (sen_of hL (by intro n hn; simp only [List.mem_cons, List.not_mem_nil, or_false] at hn; rcases hn with rfl | rfl | rfl | rfl | rfl | rfl | rfl | rfl | rfl | rfl | rfl | rfl <;> exact ⟨_, by repeat (first | exact List.Mem.head _ | apply List.Mem.tail)⟩))
  clear hL
  by_cases h : 0 ≤ a0 ∧ a0 < 16
  · exact gone_in a0 a1 h.1 h.2 w _ hS
  · exact gone_out a0 a1 h w _ hS
end Go.Proofs.YtkhgnmgcdgjncaaDoor
