/-
  HoleSays: the walk.
-/
import Derived.Test.YtahhnfhnlffmpaaHv
namespace Go.Proofs.Ytahhnfhnlffmpaa
open Go.ChangeShapes Go.WideShapes Go.ChangeAt Go.RowKit Go.Maps
set_option linter.unusedVariables false
/-- The two boxes that the law makes at once. -/
structure BxAt (w0 w : World) (k0 k1 k2 k3 k4 : Int) (fi fv : Int) (fs : Bool) (pa : Option Addr) (ct cp : Nat) : Prop where
  bel : Below w0.heap.size w0 w
  lt : w0.heap.size + 1 < w.heap.size
  ky : w.cell? ⟨w0.heap.size, 0, none⟩ = some (.int .i64 k0) ∧ w.cell? ⟨w0.heap.size, 1, none⟩ = some (.int .i64 k1) ∧ w.cell? ⟨w0.heap.size, 2, none⟩ = some (.int .i64 k2) ∧ w.cell? ⟨w0.heap.size, 3, none⟩ = some (.int .i64 k3) ∧ w.cell? ⟨w0.heap.size, 4, none⟩ = some (.int .u32 k4)
  fc : w.cell? ⟨w0.heap.size + 1, 0, none⟩ = some (.int .i64 fi) ∧ w.cell? ⟨w0.heap.size + 1, 1, none⟩ = some (.int .i64 fv) ∧ w.cell? ⟨w0.heap.size + 1, 2, none⟩ = some (.bool fs) ∧ w.cell? ⟨w0.heap.size + 1, 3, none⟩ = some (.slice pa ct cp)
section
variable {w0 w w' : World} {k0 k1 k2 k3 k4 : Int} {fi fv : Int} {fs : Bool} {pa : Option Addr} {ct cp : Nat}
theorem BxAt.step (h : BxAt w0 w k0 k1 k2 k3 k4 fi fv fs pa ct cp) (hb : Below w.heap.size w w') : BxAt w0 w' k0 k1 k2 k3 k4 fi fv fs pa ct cp := by
  have hc := (bcell hb).1
  have hz := hb.size
  have hl := h.lt
  obtain ⟨a0, a1, a2, a3, a4⟩ := h.ky
  obtain ⟨b0, b1, b2, b3⟩ := h.fc
  refine ⟨h.bel.trans (hb.mono h.bel.size), by omega, ⟨?_, ?_, ?_, ?_, ?_⟩, ⟨?_, ?_, ?_, ?_⟩⟩
  all_goals rw [hc _ _ (by omega)]; assumption
theorem BxAt.start : BxAt w ((w.alloc (.cells #[.int .i64 k0, .int .i64 k1, .int .i64 k2, .int .i64 k3, .int .u32 k4] 24)).alloc (.cells #[.int .i64 fi, .int .i64 fv, .bool fs, .slice pa ct cp] 27)) k0 k1 k2 k3 k4 fi fv fs pa ct cp :=
  ⟨((Below.refl _ _).alloc (Nat.le_refl _) _).alloc (by simp) _, by simp, ⟨by simp, by simp, by simp, by simp, by simp⟩, ⟨by simp, by simp, by simp, by simp⟩⟩
end
/-- The one factory. -/
def oneD (fi fv : Int) (fs : Bool) (pa : Option Addr) (ct cp : Nat) (key : Nat → Nat → Int) : FD := ⟨1, fun _ => fi, fun _ => fv, fun _ => fs, fun _ => pa, fun i => if i = 0 then ct else 0, fun _ => cp, fun _ => key⟩
theorem fac_one {w : World} {fi fv : Int} {fs : Bool} {pa : Option Addr} {ct cp : Nat} {key : Nat → Nat → Int} (h1 : wfH fi) (h2 : wfH fv) (hk : KysR w pa ct cp key) : FacR (w.alloc (.cells #[.int .i64 fi, .int .i64 fv, .bool fs, .slice pa ct cp] 27)) (some ⟨w.heap.size, 0, none⟩) (oneD fi fv fs pa ct cp key) := by
  refine ⟨fun i hi => ?_, fun i hi => ?_, by unfold maxLen; exact Nat.le_add_left 1 _, fun i hi => ?_⟩
  · obtain rfl : i = 0 := by have : i < 1 := hi; omega
    refine ⟨_, rfl, ?_, ?_, h1, h2⟩
    · rw [Nat.zero_mul, Addr.add_lit]
      simp
    · rw [Nat.zero_mul, Addr.add_lit]
      exact ⟨by simp [oneD], by simp [oneD], by simp [oneD], by simp [oneD]⟩
  · obtain rfl : i = 0 := by have : i < 1 := hi; omega
    exact ⟨hk.at_.below ((Below.refl _ _).alloc (Nat.le_refl _) _), hk.gk, hk.mx, hk.nl⟩
  · have : ¬ i < 1 := hi
    show (if i = 0 then ct else 0) = 0
    rw [if_neg (by omega)]
theorem lightP_one {fi fv : Int} {fs : Bool} {pa : Option Addr} {ct cp : Nat} {key : Nat → Nat → Int} : LightP (oneD fi fv fs pa ct cp key) ↔ ct ≤ 8 ∧ ∀ j, j < ct → codeOf (key j 0) (key j 1) (key j 2) (key j 3) (key j 4) = 0 := by
  constructor
  · rintro ⟨_, h⟩
    exact h 0 (Nat.lt_succ_self 0)
  · intro h
    refine ⟨by show 1 ≤ 20; omega, fun i hi => ?_⟩
    obtain rfl : i = 0 := by have : i < 1 := hi; omega
    exact h
def LightIs (b : Bool) (D : FD) : Prop := b = true ↔ LightP D
theorem LightIs.iff_ {b : Bool} {D : FD} (h : LightIs b D) : b = true ↔ LightP D := h
theorem fac_at {w : World} {a : Option Addr} {D : FD} (h : FacR w a D) (hl : LightP D) : FacAt w a D :=
  ⟨h.row, fun i hi => (h.part i hi).at_, by have := hl.1; omega, fun i => by
    by_cases hi : i < D.n
    · have := (hl.2 i hi).1; omega
    · rw [h.out i hi]; omega⟩
def snD (D : FD) : Nat → Nat → Bool := fun i j => sensB (D.key i j 0) (D.key i j 3)
theorem snOk (D : FD) (hl : LightP D) : SnOk D (snD D) := fun i j hi hj => (sens_is _ _ _ _ _ (rights_in _ _ _ _ _ ((hl.2 i hi).2 j hj))).1
theorem fOk {w : World} {a : Option Addr} {D : FD} (h : FacR w a D) (hl : LightP D) : FOk D (snD D) :=
  ⟨fun i j hi hj => (sens_is _ _ _ _ _ (rights_in _ _ _ _ _ ((hl.2 i hi).2 j hj))).2, fun i hi => (hl.2 i hi).1, hl.1, fun i hi => (h.part i hi).nl, fun i j hi hj => sens_nine D (D.key i j)⟩
theorem reach_ex (D : FD) (sn : Nat → Nat → Bool) : ∃ R, RIs D sn R := ⟨fun x => @decide ((D.fac sn).Reach x) (Classical.propDecidable _), fun x _ => ⟨fun h => @of_decide_eq_true _ (Classical.propDecidable _) h, fun h => @decide_eq_true _ (Classical.propDecidable _) h⟩⟩
theorem rows_two {w : World} {b1 b2 : Nat} {u v : Option Addr} {n m cu cv L : Nat} {l : List Nat} {key : Nat → Nat → Int} (hL : l.length = L) (h1 : KRow w b1 (.slice u n cu) l key) (h2 : KRow w b2 (.slice v m cv) l key) : ∀ q, q < L → ∃ gu gv, u = some ⟨gu, 0, none⟩ ∧ v = some ⟨gv, 0, none⟩ ∧ gu < w.heap.size ∧ gv < w.heap.size ∧ InF w ⟨gu, q * 5, none⟩ (key (l.getD q 0) 0) (key (l.getD q 0) 1) (key (l.getD q 0) 2) (key (l.getD q 0) 3) (key (l.getD q 0) 4) ∧ InF w ⟨gv, q * 5, none⟩ (key (l.getD q 0) 0) (key (l.getD q 0) 1) (key (l.getD q 0) 2) (key (l.getD q 0) 3) (key (l.getD q 0) 4) := by
  intro q hq
  obtain ⟨g1, rfl, l1, i1⟩ := krow_cells h1 q (by omega)
  obtain ⟨g2, rfl, l2, i2⟩ := krow_cells h2 q (by omega)
  exact ⟨g1, g2, rfl, rfl, l1, l2, i1, i2⟩
theorem kysr {w w' : World} {pa : Option Addr} {ct cp : Nat} {key : Nat → Nat → Int} (h : KysR w pa ct cp key) (hb : Below w.heap.size w w') : KysR w' pa ct cp key := ⟨h.at_.below hb, h.gk, h.mx, h.nl⟩
set_option maxRecDepth 100000 in
set_option maxHeartbeats 4000000 in
theorem says_1 (k0 k1 k2 k3 k4 : Int) (fi fv : Int) (fs : Bool) (pa : Option Addr) (ct cp : Nat) (a : Option Addr) (D : FD) (n cap : Nat) (hn : Hid (n = D.n)) (key : Nat → Nat → Int) (gk : k4 ≤ 4294967295) (wk : Hid (wfH k1 ∧ wfH k2)) (wf : Hid (wfH fi ∧ wfH fv)) (w : World) (hF : Hid (FacR w a D)) (hK : Hid (KysR w pa ct cp key)) (hl : Hid (LightIs false D)) : Calls Try.prog 3 #[(Value.agg #[.int .i64 k0, .int .i64 k1, .int .i64 k2, .int .i64 k3, .int .u32 k4]), (Value.agg #[.int .i64 fi, .int .i64 fv, .bool fs, .slice pa ct cp]), .slice a n cap] w fun e w' => e = .returned (.bool true) ∧ Below w.heap.size w w' := by
  go_enter Try.func3, Try.ntmps3
  go_wp2_with (first
    | (go_at_call 6; (with_reducible refine (hfirst_is _).mono ?_); rintro e w1 ⟨rfl, hb⟩; have HX1 : Hid (BxAt w w1 k0 k1 k2 k3 k4 fi fv fs pa ct cp) := Lib.hid (BxAt.start.step hb); clear hb)
    | (go_at_call 7; (with_reducible refine (light_is a D n cap hn false (Lib.hid hl.out.iff_) _ (hF.out.below HX1.out.bel)).mono ?_); rintro e w2 ⟨rfl, hb⟩; have HX2 := Lib.hid (HX1.out.step hb); clear hb; obtain ⟨b0, b1, b2, b3⟩ := HX2.out.fc))
  go_ret
  exact ⟨rfl, HX2.out.bel⟩
set_option maxRecDepth 100000 in
set_option maxHeartbeats 4000000 in
theorem says_2 (k0 k1 k2 k3 k4 : Int) (fi fv : Int) (fs : Bool) (pa : Option Addr) (ct cp : Nat) (a : Option Addr) (D : FD) (n cap : Nat) (hn : Hid (n = D.n)) (key : Nat → Nat → Int) (gk : k4 ≤ 4294967295) (wk : Hid (wfH k1 ∧ wfH k2)) (wf : Hid (wfH fi ∧ wfH fv)) (w : World) (hF : Hid (FacR w a D)) (hK : Hid (KysR w pa ct cp key)) (hl : Hid (LightIs true D)) (hl2 : Hid (LightIs false (oneD fi fv fs pa ct cp key))) : Calls Try.prog 3 #[(Value.agg #[.int .i64 k0, .int .i64 k1, .int .i64 k2, .int .i64 k3, .int .u32 k4]), (Value.agg #[.int .i64 fi, .int .i64 fv, .bool fs, .slice pa ct cp]), .slice a n cap] w fun e w' => e = .returned (.bool true) ∧ Below w.heap.size w w' := by
  go_enter Try.func3, Try.ntmps3
  go_wp2_with (first
    | (go_at_call 6; (with_reducible refine (hfirst_is _).mono ?_); rintro e w1 ⟨rfl, hb⟩; have HX1 : Hid (BxAt w w1 k0 k1 k2 k3 k4 fi fv fs pa ct cp) := Lib.hid (BxAt.start.step hb); clear hb)
    | (go_at_call 7; (with_reducible refine (light_is a D n cap hn true (Lib.hid hl.out.iff_) _ (hF.out.below HX1.out.bel)).mono ?_); rintro e w2 ⟨rfl, hb⟩; have HX2 := Lib.hid (HX1.out.step hb); clear hb; obtain ⟨b0, b1, b2, b3⟩ := HX2.out.fc)
    | (go_at_call 7; (with_reducible refine (light_is (some ⟨w2.heap.size, 0, none⟩) (oneD fi fv fs pa ct cp key) 1 1 (Lib.hid rfl) false (Lib.hid hl2.out.iff_) _ (fac_one wf.out.1 wf.out.2 (kysr hK.out HX2.out.bel))).mono ?_); rintro e w3 ⟨rfl, hb⟩; have HX3 := Lib.hid (HX2.out.step (((Below.refl _ _).alloc (Nat.le_refl _) _ : Below w2.heap.size w2 _).trans (hb.mono (by simp)))); clear hb b0 b1 b2 b3; obtain ⟨a0, a1, a2, a3, a4⟩ := HX3.out.ky))
  go_ret
  exact ⟨rfl, HX3.out.bel⟩
set_option maxRecDepth 100000 in
set_option maxHeartbeats 4000000 in
theorem says_3 (k0 k1 k2 k3 k4 : Int) (fi fv : Int) (fs : Bool) (pa : Option Addr) (ct cp : Nat) (a : Option Addr) (D : FD) (n cap : Nat) (hn : Hid (n = D.n)) (key : Nat → Nat → Int) (gk : k4 ≤ 4294967295) (wk : Hid (wfH k1 ∧ wfH k2)) (wf : Hid (wfH fi ∧ wfH fv)) (w : World) (hF : Hid (FacR w a D)) (hK : Hid (KysR w pa ct cp key)) (hl : Hid (LightIs true D)) (hl2 : Hid (LightIs true (oneD fi fv fs pa ct cp key))) (c : Int) (hc : Hid (codeOf k0 k1 k2 k3 k4 = c)) (hc0 : (c == 0) = false) (hc1 : (c != 0) = true) : Calls Try.prog 3 #[(Value.agg #[.int .i64 k0, .int .i64 k1, .int .i64 k2, .int .i64 k3, .int .u32 k4]), (Value.agg #[.int .i64 fi, .int .i64 fv, .bool fs, .slice pa ct cp]), .slice a n cap] w fun e w' => e = .returned (.bool true) ∧ Below w.heap.size w w' := by
  go_enter Try.func3, Try.ntmps3
  go_wp2_with (first
    | (go_at_call 6; (with_reducible refine (hfirst_is _).mono ?_); rintro e w1 ⟨rfl, hb⟩; have HX1 : Hid (BxAt w w1 k0 k1 k2 k3 k4 fi fv fs pa ct cp) := Lib.hid (BxAt.start.step hb); clear hb)
    | (go_at_call 7; (with_reducible refine (light_is a D n cap hn true (Lib.hid hl.out.iff_) _ (hF.out.below HX1.out.bel)).mono ?_); rintro e w2 ⟨rfl, hb⟩; have HX2 := Lib.hid (HX1.out.step hb); clear hb; obtain ⟨b0, b1, b2, b3⟩ := HX2.out.fc)
    | (go_at_call 7; (with_reducible refine (light_is (some ⟨w2.heap.size, 0, none⟩) (oneD fi fv fs pa ct cp key) 1 1 (Lib.hid rfl) true (Lib.hid hl2.out.iff_) _ (fac_one wf.out.1 wf.out.2 (kysr hK.out HX2.out.bel))).mono ?_); rintro e w3 ⟨rfl, hb⟩; have HX3 := Lib.hid (HX2.out.step (((Below.refl _ _).alloc (Nat.le_refl _) _ : Below w2.heap.size w2 _).trans (hb.mono (by simp)))); clear hb b0 b1 b2 b3; obtain ⟨a0, a1, a2, a3, a4⟩ := HX3.out.ky)
    | (go_at_call 8; (with_reducible refine (valid_is k0 k1 k2 k3 k4 c hc gk _).mono ?_); rintro e w4 ⟨rfl, hb⟩; have HX4 := Lib.hid (HX3.out.step hb); clear hb))
  go_ret
  exact ⟨rfl, HX4.out.bel⟩
theorem BxAt.s8 {w W v : World} (k0 k1 k2 k3 k4 : Int) (fi fv : Int) (fs : Bool) (pa : Option Addr) (ct cp : Nat) (h : BxAt w W k0 k1 k2 k3 k4 fi fv fs pa ct cp) (hb : Below W.heap.size W v) : Below W.heap.size W v ∧ v.cell? ⟨w.heap.size, 0, none⟩ = some (.int .i64 k0) ∧ v.cell? ⟨w.heap.size, 1, none⟩ = some (.int .i64 k1) ∧ v.cell? ⟨w.heap.size, 2, none⟩ = some (.int .i64 k2) ∧ v.cell? ⟨w.heap.size, 3, none⟩ = some (.int .i64 k3) ∧ v.cell? ⟨w.heap.size, 4, none⟩ = some (.int .u32 k4) ∧ (v.cell? ⟨w.heap.size + 1, 0, none⟩ = some (.int .i64 fi) ∧ v.cell? ⟨w.heap.size + 1, 1, none⟩ = some (.int .i64 fv) ∧ v.cell? ⟨w.heap.size + 1, 2, none⟩ = some (.bool fs) ∧ v.cell? ⟨w.heap.size + 1, 3, none⟩ = some (.slice pa ct cp)) := by
  have h2 := h.step hb
  obtain ⟨a0, a1, a2, a3, a4⟩ := h2.ky
  exact ⟨hb, a0, a1, a2, a3, a4, h2.fc⟩
theorem s8b {n : Nat} {W v : World} {R : Prop} (h : Below n W v ∧ R) : Below n W v := h.1
set_option maxRecDepth 100000 in
set_option maxHeartbeats 8000000 in
theorem says_4 (k0 k1 k2 k3 k4 : Int) (fi fv : Int) (fs : Bool) (pa : Option Addr) (ct cp : Nat) (a : Option Addr) (D : FD) (n cap : Nat) (hn : Hid (n = D.n)) (key : Nat → Nat → Int) (gk : k4 ≤ 4294967295) (wk : Hid (wfH k1 ∧ wfH k2)) (wf : Hid (wfH fi ∧ wfH fv)) (w : World) (hF : Hid (FacR w a D)) (hK : Hid (KysR w pa ct cp key)) (hl : Hid (LightIs true D)) (hl2 : Hid (LightIs true (oneD fi fv fs pa ct cp key))) (hc : Hid (codeOf k0 k1 k2 k3 k4 = 0)) (hL : Hid (LightP D)) (h1L : Hid (ct ≤ 8 ∧ ∀ j, j < ct → codeOf (key j 0) (key j 1) (key j 2) (key j 3) (key j 4) = 0)) : Calls Try.prog 3 #[(Value.agg #[.int .i64 k0, .int .i64 k1, .int .i64 k2, .int .i64 k3, .int .u32 k4]), (Value.agg #[.int .i64 fi, .int .i64 fv, .bool fs, .slice pa ct cp]), .slice a n cap] w fun e w' => e = .returned (.bool true) ∧ Below w.heap.size w w' := by
  obtain ⟨R, hR0⟩ := reach_ex D (snD D)
  have hR := Lib.hid hR0
  have hFA := Lib.hid (fac_at hF.out hL.out)
  have hS := Lib.hid (snOk D hL.out)
  have hok := Lib.hid (fOk hF.out hL.out)
  have hS2 : Hid (∀ j, j < ct → Sens (key j 0) (key j 1) (key j 2) (key j 3) (key j 4) (sensB (key j 0) (key j 3))) := Lib.hid (fun j hj => (sens_is _ _ _ _ _ (rights_in _ _ _ _ _ (h1L.out.2 j hj))).1)
  have hRS2 : Hid (∀ j, j < ct → RSens (key j 0) (key j 1) (key j 2) (key j 3) (key j 4) (sensB (key j 0) (key j 3))) := Lib.hid (fun j hj => (sens_is _ _ _ _ _ (rights_in _ _ _ _ _ (h1L.out.2 j hj))).2)
  have h9 : Hid (∀ j, j < ct → NineOk D (sensB (key j 0) (key j 3)) (key j)) := Lib.hid (fun j hj => sens_nine D (key j))
  obtain ⟨p, hp0⟩ : ∃ p : Nat → Bool, ∀ j, j < ct → holeB D R (sensB (key j 0) (key j 3)) (key j 0) (key j 1) (key j 2) = p j := ⟨fun j => holeB D R (sensB (key j 0) (key j 3)) (key j 0) (key j 1) (key j 2), fun j _ => rfl⟩
  have hp := Lib.hid hp0
  obtain ⟨s, hs⟩ : ∃ s, Hid (sensB k0 k3 = s) := ⟨_, Lib.hid rfl⟩
  obtain ⟨hSk, hRSk⟩ := sens_is k0 k1 k2 k3 k4 (rights_in _ _ _ _ _ hc.out)
  have h9k := sens_nine D (kf5 k0 k1 k2 k3 k4)
  have h9k' : NineOk D (sensB k0 k3) (kf5 k0 k1 k2 k3 k4) := h9k
  rw [hs.out] at hSk hRSk h9k'
  have HSk := Lib.hid hSk
  have HRSk := Lib.hid hRSk
  have H9k := Lib.hid h9k'
  obtain ⟨t, ht0⟩ : ∃ t, holeB D R s k0 k1 k2 = t := ⟨_, rfl⟩
  have ht := Lib.hid ht0
  obtain ⟨ln, hln⟩ : ∃ ln, (pickTo p ct).length = ln := ⟨_, rfl⟩
  have HLN := Lib.hid hln
  have hln8 : ln ≤ 64 := by have := pickTo_len p ct; have := h1L.out.1; omega
  have hct : ct ≤ 8 := h1L.out.1
  obtain ⟨t2, ht2⟩ : ∃ t2, decide (ln = 0) = t2 := ⟨_, rfl⟩
  have hcl : Hid (decide ((pickTo p ct).length = 0) = t2) := Lib.hid (by rw [hln]; exact ht2)
  have e2 : ((ln : Int) == 0) = t2 := by rw [← ht2]; by_cases h : ln = 0 <;> simp [h]
  clear hR0 hp0 hSk hRSk h9k h9k' ht0 hln ht2 hs
  go_enter Try.func3, Try.ntmps3
  go_upto_region 8 with (first
    | (go_at_call 6; (with_reducible refine (hfirst_is _).mono ?_); rintro e w1 ⟨rfl, hb⟩; have HX1 : Hid (BxAt w w1 k0 k1 k2 k3 k4 fi fv fs pa ct cp) := Lib.hid (BxAt.start.step hb); clear hb)
    | (go_at_call 7; (with_reducible refine (light_is a D n cap hn true (Lib.hid hl.out.iff_) _ (hF.out.below HX1.out.bel)).mono ?_); rintro e w2 ⟨rfl, hb⟩; have HX2 := Lib.hid (HX1.out.step hb); clear hb; obtain ⟨b0, b1, b2, b3⟩ := HX2.out.fc)
    | (go_at_call 7; (with_reducible refine (light_is (some ⟨w2.heap.size, 0, none⟩) (oneD fi fv fs pa ct cp key) 1 1 (Lib.hid rfl) true (Lib.hid hl2.out.iff_) _ (fac_one wf.out.1 wf.out.2 (kysr hK.out HX2.out.bel))).mono ?_); rintro e w3 ⟨rfl, hb⟩; have HX3 := Lib.hid (HX2.out.step (((Below.refl _ _).alloc (Nat.le_refl _) _ : Below w2.heap.size w2 _).trans (hb.mono (by simp)))); clear hb b0 b1 b2 b3; obtain ⟨a0, a1, a2, a3, a4⟩ := HX3.out.ky)
    | (go_at_call 8; (with_reducible refine (valid_is k0 k1 k2 k3 k4 0 hc gk _).mono ?_); rintro e w4 ⟨rfl, hb⟩; have HX4 := Lib.hid (HX3.out.step hb); clear hb a0 a1 a2 a3 a4)
    | (go_at_call 9; (with_reducible refine (other_is a D n cap hn _ (hFA.out.below HX4.out.bel)).mono ?_); rintro e w5 ⟨xa, xc, rfl, hxf, hb⟩; have HX5 := Lib.hid (HX4.out.step hb); have HXF5 := Lib.hid hxf; clear hb hxf; obtain ⟨b0, b1, b2, b3⟩ := HX5.out.fc)
    | (go_at_call 10; (with_reducible refine (rholes_is xa D n xc hn (snD D) R hR hok pa ct cp key (fun j => sensB (key j 0) (key j 3)) hct hRS2 h9 p hp _ HXF5.out ((kysr hK.out HX5.out.bel).at_)).mono ?_); rintro e w6 ⟨v, rfl, hr, hb⟩; have HX6 := Lib.hid (HX5.out.step hb); have HXF6 := Lib.hid (HXF5.out.below hb); obtain ⟨va, vc, rfl⟩ := hof_empty hr; have HWt := Lib.hid hr; rw [HLN.out]; clear hb hr b0 b1 b2 b3))
  have ST : Hid (Below w6.heap.size w6 w6.drew ∧ w6.drew.cell? ⟨w.heap.size, 0, none⟩ = some (.int .i64 k0) ∧ w6.drew.cell? ⟨w.heap.size, 1, none⟩ = some (.int .i64 k1) ∧ w6.drew.cell? ⟨w.heap.size, 2, none⟩ = some (.int .i64 k2) ∧ w6.drew.cell? ⟨w.heap.size, 3, none⟩ = some (.int .i64 k3) ∧ w6.drew.cell? ⟨w.heap.size, 4, none⟩ = some (.int .u32 k4) ∧ (w6.drew.cell? ⟨w.heap.size + 1, 0, none⟩ = some (.int .i64 fi) ∧ w6.drew.cell? ⟨w.heap.size + 1, 1, none⟩ = some (.int .i64 fv) ∧ w6.drew.cell? ⟨w.heap.size + 1, 2, none⟩ = some (.bool fs) ∧ w6.drew.cell? ⟨w.heap.size + 1, 3, none⟩ = some (.slice pa ct cp))) := Lib.hid (BxAt.s8 _ _ _ _ _ _ _ _ _ _ _ HX6.out (Below.refl _ _).drew)
  have KP : Hid (∀ X Y : World, Below w6.heap.size w6 X → Below X.heap.size X Y → Below w6.heap.size w6 Y ∧ Y.cell? ⟨w.heap.size, 0, none⟩ = some (.int .i64 k0) ∧ Y.cell? ⟨w.heap.size, 1, none⟩ = some (.int .i64 k1) ∧ Y.cell? ⟨w.heap.size, 2, none⟩ = some (.int .i64 k2) ∧ Y.cell? ⟨w.heap.size, 3, none⟩ = some (.int .i64 k3) ∧ Y.cell? ⟨w.heap.size, 4, none⟩ = some (.int .u32 k4) ∧ (Y.cell? ⟨w.heap.size + 1, 0, none⟩ = some (.int .i64 fi) ∧ Y.cell? ⟨w.heap.size + 1, 1, none⟩ = some (.int .i64 fv) ∧ Y.cell? ⟨w.heap.size + 1, 2, none⟩ = some (.bool fs) ∧ Y.cell? ⟨w.heap.size + 1, 3, none⟩ = some (.slice pa ct cp))) := Lib.hid (fun X Y h1 h2 => BxAt.s8 _ _ _ _ _ _ _ _ _ _ _ HX6.out (h1.trans (h2.mono h1.size)))
  have FA : Hid (∀ X : World, Below w6.heap.size w6 X → FacAt X a D) := Lib.hid (fun X h => hFA.out.below (HX6.out.bel.trans (h.mono HX6.out.bel.size)))
  have FX : Hid (∀ X : World, Below w6.heap.size w6 X → FacAt X xa D) := Lib.hid (fun X h => HXF6.out.below h)
  have FK : Hid (∀ X : World, Below w6.heap.size w6 X → KysAt X pa ct key) := Lib.hid (fun X h => (kysr hK.out (HX6.out.bel.trans (h.mono HX6.out.bel.size))).at_)
  have FW : Hid (∀ X : World, Below w6.heap.size w6 X → KRow X w5.heap.size (.slice va (pickTo p ct).length vc) (pickTo p ct) key) := Lib.hid (fun X h => rowbelow HWt.out h)
  clear HX1 HX2 HX3 HX4 HX5 HXF5 HXF6 HWt
  go_region_held3 (fun w' => Below w6.heap.size w6 w' ∧ w'.cell? ⟨w.heap.size, 0, none⟩ = some (.int .i64 k0) ∧ w'.cell? ⟨w.heap.size, 1, none⟩ = some (.int .i64 k1) ∧ w'.cell? ⟨w.heap.size, 2, none⟩ = some (.int .i64 k2) ∧ w'.cell? ⟨w.heap.size, 3, none⟩ = some (.int .i64 k3) ∧ w'.cell? ⟨w.heap.size, 4, none⟩ = some (.int .u32 k4) ∧ (w'.cell? ⟨w.heap.size + 1, 0, none⟩ = some (.int .i64 fi) ∧ w'.cell? ⟨w.heap.size + 1, 1, none⟩ = some (.int .i64 fv) ∧ w'.cell? ⟨w.heap.size + 1, 2, none⟩ = some (.bool fs) ∧ w'.cell? ⟨w.heap.size + 1, 3, none⟩ = some (.slice pa ct cp))) (first | exact ST.out | exact KP.out _ _ (s8b (by assumption)) hb)
    (first
      | (go_at_call 11; (with_reducible refine (hisf_is k0 k1 k2 k3 k4 a D n cap hn (snD D) R hR s t ht wk.out.1 wk.out.2 HSk.out _ (FA.out _ (s8b (by assumption))) hS).mono ?_); rintro e w' ⟨rfl, hb⟩)
      | (go_at_call 12; (with_reducible refine (rhole_is k0 k1 k2 k3 k4 xa D n xc hn (snD D) R hR s t ht HRSk hok H9k _ (FX.out _ (s8b (by assumption)))).mono ?_); rintro e w' ⟨rfl, hb⟩)
      | (go_at_call 14; (with_reducible refine (hof_is a D n cap hn (snD D) R hR fi fv fs pa ct cp key (fun j => sensB (key j 0) (key j 3)) (by omega) hS2 p hp _ (FA.out _ (s8b (by assumption))) (FK.out _ (s8b (by assumption))) hS).mono ?_); rintro e w' ⟨v, rfl, hr, hb⟩; obtain ⟨ga, gc, rfl⟩ := hof_empty hr; rw [HLN.out])
      | (go_at_call 13; (with_reducible refine (samekeys_yes ga va ln gc vc (fun q => key ((pickTo p ct).getD q 0)) _ (rows_two HLN.out hr (FW.out _ (s8b (by assumption)))) hln8).mono ?_); rintro e w' ⟨rfl, hb⟩)
      | (go_at_call 15; (with_reducible refine (hclosed_is a D n cap hn (snD D) R hR fi fv fs pa ct cp key (fun j => sensB (key j 0) (key j 3)) (by omega) hS2 p hp t2 hcl _ (FA.out _ (s8b (by assumption))) (FK.out _ (s8b (by assumption))) hS).mono ?_); rintro e w' ⟨rfl, hb⟩))
  all_goals
    have hS : Below w6.heap.size w6 w' ∧ w'.cell? ⟨w.heap.size, 0, none⟩ = some (.int .i64 k0) ∧ w'.cell? ⟨w.heap.size, 1, none⟩ = some (.int .i64 k1) ∧ w'.cell? ⟨w.heap.size, 2, none⟩ = some (.int .i64 k2) ∧ w'.cell? ⟨w.heap.size, 3, none⟩ = some (.int .i64 k3) ∧ w'.cell? ⟨w.heap.size, 4, none⟩ = some (.int .u32 k4) ∧ (w'.cell? ⟨w.heap.size + 1, 0, none⟩ = some (.int .i64 fi) ∧ w'.cell? ⟨w.heap.size + 1, 1, none⟩ = some (.int .i64 fv) ∧ w'.cell? ⟨w.heap.size + 1, 2, none⟩ = some (.bool fs) ∧ w'.cell? ⟨w.heap.size + 1, 3, none⟩ = some (.slice pa ct cp)) := by assumption
    have HB7 := Lib.hid (HX6.out.bel.trans ((s8b hS).mono HX6.out.bel.size))
    clear hS
    go_wp2_with fail
    go_ret
    exact ⟨by simp, HB7.out⟩
theorem walk_HoleSays (x0_0 : Int) (x0_1 : Int) (x0_2 : Int) (x0_3 : Int) (x0_4 : Int) (a1 : Array Value) (a2 : Option Addr) (len2 cap2 : Nat) (w : World) (wx0_0 : (Lit.int .i64 x0_0).wf = true) (wx0_1 : (Lit.int .i64 x0_1).wf = true) (wx0_2 : (Lit.int .i64 x0_2).wf = true) (wx0_3 : (Lit.int .i64 x0_3).wf = true) (wx0_4 : (Lit.int .u32 x0_4).wf = true) (w1 : Reads Try.prog w 27 a1.toList) (w2 : Reads Try.prog w 28 [.slice a2 len2 cap2]) :
    Calls Try.prog 3 #[.agg #[.int .i64 x0_0, .int .i64 x0_1, .int .i64 x0_2, .int .i64 x0_3, .int .u32 x0_4], .agg a1, .slice a2 len2 cap2] w fun e w' => e = .returned (.bool true) ∧ Below w.heap.size w w' := by
  obtain ⟨f, hf, f1, f2, f3⟩ := fac_read w1
  obtain rfl : a1 = #[.int .i64 f.id, .int .i64 f.ver, .bool f.sl, .slice f.pa f.ct f.cp] := by
    have := congrArg List.toArray hf
    simpa using this
  obtain ⟨D, hn, hD⟩ := facs_read w2
  have gk := wf_u32 wx0_4
  have wk : Hid (wfH x0_1 ∧ wfH x0_2) := Lib.hid ⟨wx0_1, wx0_2⟩
  have wf : Hid (wfH f.id ∧ wfH f.ver) := Lib.hid ⟨f1, f2⟩
  by_cases hl : LightP D
  · have l1 : LightIs true D := ⟨fun _ => hl, fun _ => rfl⟩
    by_cases h2 : LightP (oneD f.id f.ver f.sl f.pa f.ct f.cp f.key)
    · have l2 : LightIs true (oneD f.id f.ver f.sl f.pa f.ct f.cp f.key) := ⟨fun _ => h2, fun _ => rfl⟩
      by_cases hc : codeOf x0_0 x0_1 x0_2 x0_3 x0_4 = 0
      · exact says_4 _ _ _ _ _ _ _ _ _ _ _ _ D _ _ (Lib.hid hn.symm) f.key gk wk wf w (Lib.hid hD) (Lib.hid f3) (Lib.hid l1) (Lib.hid l2) (Lib.hid hc) (Lib.hid hl) (Lib.hid (lightP_one.1 h2))
      · exact says_3 _ _ _ _ _ _ _ _ _ _ _ _ D _ _ (Lib.hid hn.symm) f.key gk wk wf w (Lib.hid hD) (Lib.hid f3) (Lib.hid l1) (Lib.hid l2) _ (Lib.hid rfl) (by simpa using hc) (by simpa using hc)
    · have l2 : LightIs false (oneD f.id f.ver f.sl f.pa f.ct f.cp f.key) := ⟨fun h => (by cases h), fun h => absurd h h2⟩
      exact says_2 _ _ _ _ _ _ _ _ _ _ _ _ D _ _ (Lib.hid hn.symm) f.key gk wk wf w (Lib.hid hD) (Lib.hid f3) (Lib.hid l1) (Lib.hid l2)
  · have l1 : LightIs false D := ⟨fun h => (by cases h), fun h => absurd h hl⟩
    exact says_1 _ _ _ _ _ _ _ _ _ _ _ _ D _ _ (Lib.hid hn.symm) f.key gk wk wf w (Lib.hid hD) (Lib.hid f3) (Lib.hid l1)
end Go.Proofs.Ytahhnfhnlffmpaa
