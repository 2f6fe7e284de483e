/-
  Pa7, PaE as one.
-/
import Derived.Test.YtkhgnmgcdgjncaaDoorP9
import Derived.Deep.CutBlock
namespace Go.Proofs.YtkhgnmgcdgjncaaDoor
open Go.ChangeShapes Go.WideShapes Go.ChangeAt Go.RowKit
set_option linter.unusedVariables false
theorem nset_at {base P p B G n c : Nat} {th : Nat → Bool} {vr_ : Nat → Int} {W : Nat → Nat → Value} (vs vr : Value) (id sl : Int) (k s : Nat) (hid : Hid (id = k)) (hsl : Hid (sl = s)) (hk : k < n) (hs : s < 16) (ht : Hid (th k = true)) (y0 y1 y2 y3 y4 : Int) (hy : Hid (rightB y0 y1 y2 y3 y4 = true)) (w : World) (hE : ErrsAt vs vr w) (h : NdAt w base P p B G n c th vr_ W) (hcell : Hid (∀ j, j < 80 → (W k j).oneCell' = true)) :
    Calls Tryd.prog 43 #[.pointer (some ⟨P, 0, none⟩), .int .i64 id, .int .i64 sl, (Value.agg #[.int .i64 y0, .int .i64 y1, .int .i64 y2, .int .i64 y3, .int .u32 y4])] w fun e w' => e = .returned .nilIface ∧ NdAt w' base P p B G n c th vr_ (updV W k (s * 5) (k5 y0 y1 y2 y3 y4)) ∧ PBelow w w' B G := by
  rw [hid.out, hsl.out]
  exact nset_ok vs vr k s hk hs ht y0 y1 y2 y3 y4 hy w hE h hcell
theorem KeyC.set2 {w : World} {b : Nat} {k0 k1 k2 k3 k4 : Int} (h : KeyC w b k0 k1 k2 k3 k4) (z : Int) : KeyC (w.setCell ⟨b, 2, none⟩ (.int .i64 z)) b k0 k1 z k3 k4 := by
  refine ⟨by simpa using h.lt, ?_, ?_, ?_, ?_, ?_, fun j => by simpa using h.fr j⟩
  · rw [World.cell?_setCell_other _ _ _ _ (by simp)]; exact h.c0
  · rw [World.cell?_setCell_other _ _ _ _ (by simp)]; exact h.c1
  · exact World.cell?_setCell_same _ _ _ h.c2
  · rw [World.cell?_setCell_other _ _ _ _ (by simp)]; exact h.c3
  · rw [World.cell?_setCell_other _ _ _ _ (by simp)]; exact h.c4
/-- Node i of some: each slot holds a key. -/
def All16 (f : Nat → Value) : Prop := ∀ j, j < 16 → ∃ y0 y1 y2 y3 y4, KAt f j y0 y1 y2 y3 y4
theorem All16.one {f : Nat → Value} (h : All16 f) : ∀ b, b < 80 → (f b).oneCell' = true := KAt.one h
theorem All16.set {W : Nat → Nat → Value} {i : Nat} (h : All16 (W i)) (k s : Nat) (y0 y1 y2 y3 y4 : Int) : All16 (updV W k (s * 5) (k5 y0 y1 y2 y3 y4) i) := fun j hj => by
  by_cases e : i = k ∧ j = s
  · obtain ⟨rfl, rfl⟩ := e
    exact ⟨_, _, _, _, _, updV_key W i j y0 y1 y2 y3 y4⟩
  · obtain ⟨x0, x1, x2, x3, x4, hx⟩ := h j hj
    exact ⟨x0, x1, x2, x3, x4, updV_rest W k s i j y0 y1 y2 y3 y4 e hx⟩
theorem All16.fresh (W : Nat → Nat → Value) (i : Nat) (kk : Nat → Nat → Int) : All16 (freshV W i (kcs kk 0) i) := fun j hj => ⟨_, _, _, _, _, freshV_nokey W i kk 0 j (Nat.zero_le _) hj⟩
theorem All16.rest {W : Nat → Nat → Value} {a : Nat} (h : All16 (W a)) (i : Nat) (xs : List Value) (hne : a ≠ i) : All16 (freshV W i xs a) := fun j hj => by
  obtain ⟨x0, x1, x2, x3, x4, hx⟩ := h j hj
  exact ⟨x0, x1, x2, x3, x4, freshV_rest W i xs a j hne hx⟩
theorem fit64 {a : Int} (h : (Lit.int .i64 a).wf = true) : -9223372036854775808 ≤ a ∧ a ≤ 9223372036854775807 := by simpa [Lit.wf, IntKind.min, IntKind.max, IntKind.signed, IntKind.bits] using h
theorem fit32 {a : Int} (h : (Lit.int .u32 a).wf = true) : 0 ≤ a ∧ a ≤ 4294967295 := by simpa [Lit.wf, IntKind.min, IntKind.max, IntKind.signed, IntKind.bits] using h
theorem way_split (p : Nat) (hp : 0 < p) (m : Nat) (hm : m < 16 * p) : ∃ q s : Nat, q < 16 ∧ s < p ∧ m = q * p + s :=
  ⟨m / p, m % p, by rw [Nat.div_lt_iff_lt_mul hp]; exact hm, Nat.mod_lt _ hp, by rw [Nat.mul_comm]; exact (Nat.div_add_mod m p).symm⟩
/-- One step of a way: node i of height h, by slot q. -/
theorem way_at {a b : Shp} {th : Nat → Bool} {vr_ : Nat → Int} {W : Nat → Nat → Value} {th2 : Nat → Bool} {vr2 : Nat → Int} {k1 k2 k3 k4 below addr : Int} {ro : Bool} {ids : List Int} {pg at_ : Int} {r : Bool} {f : Int} (h i q s : Nat) (y0 y1 y2 y3 y4 : Int) (hk : k4 = h) (h1 : 1 ≤ h) (h4 : h ≤ 4) (ha : addr = ((q * (2 * 16 ^ h) + s : Nat) : Int)) (hd : (h : Int) < below) (hi : k1 = i) (hn : i < a.n) (ht : th i = true) (hv : vr_ i = k2) (hq : q < 16) (hr : s < 2 * 16 ^ h) (hy : KAt (W i) q y0 y1 y2 y3 y4) (next : Way a b th vr_ W th2 vr2 y0 y1 y2 y3 y4 h s (ro || roB k3) ids pg at_ r f) : Way a b th vr_ W th2 vr2 2 k1 k2 k3 k4 below addr ro (k1 :: ids) pg at_ r f :=
  .node h i q s (2 * 16 ^ h) _ y0 y1 y2 y3 y4 hk rfl ha rfl h1 h4 (by subst hi; simp [liveB, thereB, hn, ht, hv]) hd hi hn ht hq hr hy next
end Go.Proofs.YtkhgnmgcdgjncaaDoor
namespace Go.Proofs.YtkhgnmgcdgjncaaDoor
open Go.ChangeShapes Go.WideShapes Go.ChangeAt Go.RowKit
set_option linter.unusedVariables false
set_option linter.unusedSimpArgs false
theorem way_fault1 {a b : Shp} {th : Nat → Bool} {vr_ : Nat → Int} {th2 : Nat → Bool} {vr2 : Nat → Int} {k0 k1 k2 k3 k4 f : Int} (W : Nat → Nat → Value) (addr : Int) (ro : Bool) (h0 : 0 ≤ k4) (hz : entP (szP k0 k4) (szB k0 k4) (liveB a b th vr_ th2 vr2 k0 k1 k2) k0 k4 1 addr = (0, f)) (hf : (f != 0) = true) : Way a b th vr_ W th2 vr2 k0 k1 k2 k3 k4 1 addr ro [] 0 0 false f :=
  .fault _ _ _ f h0 ⟨rfl, rfl⟩ rfl hz hf
set_option maxRecDepth 100000 in
set_option maxHeartbeats 8000000 in
theorem faults_walk (a0 a1 a2 : Int) (what slot ask : Nat) (hw6 : what < 6) (hs16 : slot < 16) (hk16 : ask < 16)
    (C0 : Hid (∀ w, Calls Tryd.prog 47 #[.int .i64 a0, .int .i64 6] w fun e w' => e = .returned (.int .i64 (what : Int)) ∧ w = w'))
    (C1 : Hid (∀ w, Calls Tryd.prog 47 #[.int .i64 a1, .int .i64 16] w fun e w' => e = .returned (.int .i64 (slot : Int)) ∧ w = w'))
    (C2 : Hid (∀ w, Calls Tryd.prog 47 #[.int .i64 a2, .int .i64 16] w fun e w' => e = .returned (.int .i64 (ask : Int)) ∧ w = w')) (w : World) (vs vr : Value) (hE : ErrsAt vs vr w) :
    Calls Tryd.prog 9 #[.int .i64 a0, .int .i64 a1, .int .i64 a2] w fun e w' => e = .returned (.bool true) ∧ Below w.heap.size w w' := by
  have HE := Lib.hid hE
  clear hE
  go_enter Tryd.func9, Tryd.ntmps9
  go_upto_region 11 with (first
    | (go_at_call 42; refine (pfirst9_is _).mono ?_; rintro e w1 ⟨rfl, hb1⟩; have HB1 := Lib.hid hb1; clear hb1)
    | (go_at_call 12; (with_reducible refine (snew_ok 3 3 3 3 (Lib.hid rfl) (Lib.hid rfl) (by decide) (by decide) (by decide) (by decide) _).mono ?_); rintro e w2 ⟨S, a, b, rfl, hs, hn, hb⟩; have HN := Lib.hid hn.out; have H2 : Hid (SV w w2 S a b _ _ _ _ _ _) := Lib.hid ⟨HB1.out.trans (hb.mono HB1.out.size), by have := hn.out.2.2; have := HB1.out.size; omega, hs⟩; have s1 := hs.s1; clear hs hb hn)
    | (go_at_call 47; (with_reducible refine (C1.out _).mono ?_); rintro e w9 ⟨rfl, rfl⟩)
    | (go_at_call 47; (with_reducible refine (C2.out _).mono ?_); rintro e w9 ⟨rfl, rfl⟩)
    | (go_at_call 20; (with_reducible refine (pmake_at 0 (some ⟨w2.heap.size, 0, none⟩) 1 1 [5] (Lib.hid rfl) (by decide) 0 (Lib.hid rfl) (by have := HN.out; omega) (Lib.hid (by decide)) (Lib.hid (by intro i hi; omega)) 0 (Lib.hid rfl) _ (H2.out.st.pg.below ((Below.refl _ _).alloc (Nat.le_refl _) _)) (srcu1 w2 5 _ b.B b.G H2.out.st.pg.ar.lt.2 (H2.out.st.pg.row.lt b.G rfl).2)).mono ?_); rintro e w3 ⟨rfl, hP, hb⟩; have H3 := Lib.hid ((H2.out.step ((Below.refl _ _).alloc (Nat.le_refl _) _)).page hP hb); have s0 := H3.out.st.s0; clear hP hb s1)
    | (go_at_call 17; (with_reducible refine (nmake_at 0 vs vr none 0 0 (fun _ _ => 0) (by decide) (Lib.hid (by intro i hi; omega)) 0 (Lib.hid rfl) (by have := HN.out; omega) (Lib.hid (by decide)) (Lib.hid (by intro i hi; omega)) 0 (Lib.hid rfl) _ (HE.out.below H3.out.bel) H3.out.st.nd (srcK_none _ _ _ _)).mono ?_); rintro e w4 ⟨rfl, hM, hb⟩; have H4 := Lib.hid (H3.out.node hM hb); clear hM hb s0))
  obtain ⟨W2, hW2⟩ : ∃ W2, W2 = fresh (fun _ _ => 0) 0 [5] := ⟨_, rfl⟩
  rw [← hW2] at H4
  have HLo : Hid (StLo S a b w4.heap.size) := Lib.hid H4.out.st.lo
  obtain ⟨N, hN⟩ : ∃ N, Hid (w4.heap.size = N) := ⟨_, Lib.hid rfl⟩
  have HW4 : Hid (w.heap.size ≤ N) := Lib.hid (by rw [← hN.out]; exact H4.out.bel.size)
  have HN4 : Hid (N ≤ w4.heap.size) := Lib.hid (by rw [← hN.out]; exact Nat.le_refl _)
  rw [hN.out] at HLo
  clear hW2 H2 H3 HB1 hN
  have HTA : Hid ((upd (fun _ => false) 0 true) 0 = true) := Lib.hid rfl
  have HAN : Hid (0 < a.n ∧ 0 < b.n) := Lib.hid (by have := HN.out; omega)
  go_wp2_with fail
  go_loopw [10] (fun z wr => ∃ (i : Nat) (W : Nat → Nat → Value), i ≤ 16 ∧ z = .int .i64 i ∧ SV w wr S a b (upd (fun _ => false) 0 true) (fun _ => 0) W (upd (fun _ => false) 0 true) (fun _ => 0) W2 ∧ All16 (W 0) ∧ (∀ j, j < i → KAt (W 0) j 3 0 0 0 0) ∧ N ≤ wr.heap.size) (fun z _ => 16 - (intOf z).toNat)
  case atStart => exact ⟨0, _, by omega, rfl, H4.out, All16.fresh _ _ _, fun j hj => by omega, HN4.out⟩
  case round =>
    obtain ⟨i, W, hi, rfl, hs, hall, hkk, hnn⟩ := hrel
    have HR := Lib.hid hs
    have HALL := Lib.hid hall
    have HKK := Lib.hid hkk
    have HNN := Lib.hid hnn
    have i0 : (0 : Int) ≤ i := by omega
    have HSS : Hid (∀ w', Below wr.heap.size wr w' → World.cell? w' ⟨S, 0, none⟩ = some (.pointer (some ⟨a.P, 0, none⟩))) := Lib.hid (fun w' hb => (HR.out.step hb).st.s0)
    clear hs hall hkk hnn
    by_cases hlt : i < 16
    · have i1 : (i : Int) < 16 := by omega
      go_wp2_with fail
      refine wp_region_noPanic ?_
      refine wp_region_held_drew (S := fun w' => World.cell? w' ⟨S, 0, none⟩ = some (.pointer (some ⟨a.P, 0, none⟩))) (by kernel_rfl) (HSS.out _ (Below.refl wr.heap.size wr).drew) (fun hHeld => ?_)
      refine wpAnyH_take (i := 0) (v := ?_) (by rfl) (by kernel_rfl) (by kernel_rfl) (by kernel_rfl) (fun _ _ _ h => h) (Or.inl ⟨by kernel_rfl, ?_⟩) (by assumption) ?_; rotate_left 1; (focus (intro w hSw; (try dsimp only at hSw); simp only [List.getElem_toArray, List.getElem_cons_succ, List.getElem_cons_zero]; all_goals go_simp; all_goals (try with_reducible rfl))); (try simp only [Act.put, List.getElem_toArray, List.getElem_cons_succ, List.getElem_cons_zero, List.setIfInBounds_toArray, List.set_cons_zero, List.set_cons_succ])
      refine wpAnyH_take (i := 1) (v := ?_) (by rfl) (by kernel_rfl) (by kernel_rfl) (by kernel_rfl) (fun _ _ _ h => h) (Or.inl ⟨by kernel_rfl, ?_⟩) (by assumption) ?_; rotate_left 1; (focus (intro w hSw; (try dsimp only at hSw); simp only [List.getElem_toArray, List.getElem_cons_succ, List.getElem_cons_zero]; all_goals go_simp; all_goals (try with_reducible rfl))); (try simp only [Act.put, List.getElem_toArray, List.getElem_cons_succ, List.getElem_cons_zero, List.setIfInBounds_toArray, List.set_cons_zero, List.set_cons_succ])
      refine wpAnyH_take (i := 2) (v := ?_) (by rfl) (by kernel_rfl) (by kernel_rfl) (by kernel_rfl) (fun _ _ _ h => h) (Or.inl ⟨by kernel_rfl, ?_⟩) (by assumption) ?_; rotate_left 1; (focus (intro w hSw; (try dsimp only at hSw); simp only [List.getElem_toArray, List.getElem_cons_succ, List.getElem_cons_zero]; all_goals go_simp; all_goals (try with_reducible rfl))); (try simp only [Act.put, List.getElem_toArray, List.getElem_cons_succ, List.getElem_cons_zero, List.setIfInBounds_toArray, List.set_cons_zero, List.set_cons_succ])
      refine wpAnyH_take (i := 3) (v := ?_) (by rfl) (by kernel_rfl) (by kernel_rfl) (by kernel_rfl) (fun _ _ _ h => h) (Or.inl ⟨by kernel_rfl, ?_⟩) (by assumption) ?_; rotate_left 1; (focus (intro w hSw; (try dsimp only at hSw); simp only [List.getElem_toArray, List.getElem_cons_succ, List.getElem_cons_zero]; all_goals go_simp; all_goals (try with_reducible rfl))); (try simp only [Act.put, List.getElem_toArray, List.getElem_cons_succ, List.getElem_cons_zero, List.setIfInBounds_toArray, List.set_cons_zero, List.set_cons_succ])
      refine wpAnyH_take (i := 4) (v := ?_) (by rfl) (by kernel_rfl) (by kernel_rfl) (by kernel_rfl) (fun _ _ _ h => h) (Or.inl ⟨by kernel_rfl, ?_⟩) (by assumption) ?_; rotate_left 1; (focus (intro w hSw; (try dsimp only at hSw); simp only [List.getElem_toArray, List.getElem_cons_succ, List.getElem_cons_zero]; all_goals go_simp; all_goals (try with_reducible rfl))); (try simp only [Act.put, List.getElem_toArray, List.getElem_cons_succ, List.getElem_cons_zero, List.setIfInBounds_toArray, List.set_cons_zero, List.set_cons_succ])
      refine wpAnyH_take (i := 5) (v := ?_) (by rfl) (by kernel_rfl) (by kernel_rfl) (by kernel_rfl) (fun _ _ _ h => h) (Or.inl ⟨by kernel_rfl, ?_⟩) (by assumption) ?_; rotate_left 1; (focus (intro w hSw; (try dsimp only at hSw); simp only [List.getElem_toArray, List.getElem_cons_succ, List.getElem_cons_zero]; all_goals go_simp; all_goals (try with_reducible rfl))); (try simp only [Act.put, List.getElem_toArray, List.getElem_cons_succ, List.getElem_cons_zero, List.setIfInBounds_toArray, List.set_cons_zero, List.set_cons_succ])
      refine wpAnyH_ready (rs := [6]) (by kernel_rfl) (by simp) ?_; refine AllReadyH.cons (by rfl) (fun K hK => ?_) AllReadyH.nil; rw [if_pos (by kernel_rfl)]; simp only [List.getElem_toArray, List.getElem_cons_succ, List.getElem_cons_zero]
      go_wp2_with (first
        | (go_at_call 35; (with_reducible refine (spagekey_in 0 0 (Lib.hid rfl) HAN.out.2 HTA 0 (Lib.hid rfl) _ (HR.out.step (Below.refl wr.heap.size wr).drew).st).mono ?_); rintro e w5 ⟨rfl, hb⟩; have H5 := Lib.hid ((HR.out.step (Below.refl wr.heap.size wr).drew).step hb); have HNN5 := Lib.hid (Nat.le_trans HNN.out hb.size); clear hb))
      refine hK.out _ _ H5.out.st.s0 (fun hHeld => ?_)
      clear hK K
      (try simp only [Act.put, List.getElem_toArray, List.getElem_cons_succ, List.getElem_cons_zero, List.setIfInBounds_toArray, List.set_cons_zero, List.set_cons_succ])
      refine wpAnyH_ready (rs := [7]) (by kernel_rfl) (by simp) ?_; refine AllReadyH.cons (by rfl) (fun K hK => ?_) AllReadyH.nil; rw [if_pos (by kernel_rfl)]; simp only [List.getElem_toArray, List.getElem_cons_succ, List.getElem_cons_zero]
      go_wp2_with (first
        | (go_at_call 43; (with_reducible refine (nset_at vs vr 0 i 0 i (Lib.hid rfl) (Lib.hid rfl) HAN.out.1 hlt HTA 3 0 0 0 0 (Lib.hid (by decide)) _ (HE.out.below H5.out.bel) H5.out.st.nd (Lib.hid HALL.out.one)).mono ?_); rintro e w6 ⟨rfl, hM, hb⟩; have H6 := Lib.hid (H5.out.node hM hb); have HNN6 := Lib.hid (Nat.le_trans HNN5.out hb.2.2.2.1); clear hM hb))
      refine hK.out _ _ H6.out.st.s0 (fun hHeld => ?_)
      clear hK K
      (try simp only [Act.put, List.getElem_toArray, List.getElem_cons_succ, List.getElem_cons_zero, List.setIfInBounds_toArray, List.set_cons_zero, List.set_cons_succ])
      refine wpAnyH_done (by kernel_rfl) ?_ _
      refine NoPanic.normal ?_
      go_wp2_with fail
      go_roundw
      case rel =>
        refine ⟨i + 1, _, by omega, by go_num, H6.out, HALL.out.set 0 i 3 0 0 0 0, fun j hj => ?_, HNN6.out⟩
        by_cases hji : j = i
        · subst hji; exact updV_key W 0 j 3 0 0 0 0
        · exact updV_rest W 0 i 0 j 3 0 0 0 0 (fun h => hji h.2) (HKK.out j (by omega))
      case measure => simp [intOf]; omega
    · have hi16 : ¬ (i : Int) < 16 := by omega
      have HI16 : Hid (i = 16) := Lib.hid (by omega)
      clear hlt
      go_upto_block 2 with (first
        | (go_at_call 47; (with_reducible refine (C0.out _).mono ?_); rintro e w9 ⟨rfl, rfl⟩))
      obtain ⟨wX, hwX⟩ : ∃ wX, wX = wr.alloc (.cells #[.int .i64 0, .int .i64 0, .int .i64 0, .int .i64 0, .int .u32 0] 25 (0, 0)) := ⟨_, rfl⟩
      rw [← hwX]
      have HX : Hid (SV w wX S a b (upd (fun _ => false) 0 true) (fun _ => 0) W (upd (fun _ => false) 0 true) (fun _ => 0) W2) := Lib.hid (by rw [hwX]; exact HR.out.step ((Below.refl _ _).alloc (Nat.le_refl _) _))
      have HKX : Hid (KeyC wX wr.heap.size 0 0 0 0 0) := Lib.hid (by rw [hwX]; exact KeyC.new _ _ _ _ _ _ _)
      have HXN : Hid (N ≤ wr.heap.size) := HNN
      obtain ⟨xb, hxb⟩ : ∃ xb, Hid (wr.heap.size = xb) := ⟨_, Lib.hid rfl⟩
      rw [hxb.out] at HKX HXN ⊢
      clear hwX hxb
      go_cut [11] (fun v wx => ∃ (x0 x1 x2 x3 x4 want : Int), v = .int .i64 want ∧ SV w wx S a b (upd (fun _ => false) 0 true) (fun _ => 0) W (upd (fun _ => false) 0 true) (fun _ => 0) W2 ∧ KeyC wx xb x0 x1 x2 x3 x4 ∧ rightB x0 x1 x2 x3 x4 = true ∧ (∀ (W : Nat → Nat → Value) (addr : Int) (ro : Bool), Way a b (upd (fun _ => false) 0 true) (fun _ => 0) W (upd (fun _ => false) 0 true) (fun _ => 0) x0 x1 x2 x3 x4 1 addr ro [] 0 0 false want))
      case first =>
        have z0 := HKX.out.c0
        have z1 := HKX.out.c1
        have z2 := HKX.out.c2
        have z3 := HKX.out.c3
        have z4 := HKX.out.c4
        have f0 := HKX.out.fr 0
        have f1 := HKX.out.fr 1
        have f2 := HKX.out.fr 2
        have f3 := HKX.out.fr 3
        have f4 := HKX.out.fr 4
        have h6 : what = 0 ∨ what = 1 ∨ what = 2 ∨ what = 3 ∨ what = 4 ∨ what = 5 := by omega
        rcases h6 with rfl | rfl | rfl | rfl | rfl | rfl
        · go_wp2_with fail
          go_meet
          exact ⟨0, 0, 0, 0, 0, 2, rfl, HX.out, HKX.out, by decide, fun W addr ro => way_fault1 W addr ro (by decide) (by simp [entP, szB]) rfl⟩
        · go_wp2_with fail
          go_meet
          exact ⟨3, 2, 0, 0, 0, 2, rfl, HX.out.put5 HLo.out xb HXN.out HW4.out _ _ _ _ _, HKX.out.set 3 2 0 0 0, by decide, fun W addr ro => way_fault1 W addr ro (by decide) (by simp [entP, szB, liveB, thereB, upd]) rfl⟩
        · go_wp2_with fail
          go_meet
          exact ⟨1, 0, 0, 0, 9, 2, rfl, HX.out.put5 HLo.out xb HXN.out HW4.out _ _ _ _ _, HKX.out.set 1 0 0 0 9, by decide, fun W addr ro => way_fault1 W addr ro (by decide) (by simp [entP, szB]) rfl⟩
        · go_wp2_with (first
            | (go_at_call 36; (with_reducible refine (snodekey_in 0 1 0 (Lib.hid rfl) (by decide) (by decide) HAN.out.1 HTA 0 (Lib.hid rfl) _ HX.out.st).mono ?_); rintro e w7 ⟨rfl, hb⟩; have H7 := Lib.hid (HX.out.step hb); have HK7 := Lib.hid (HKX.out.below hb); have z0 := HK7.out.c0; have z1 := HK7.out.c1; have z2 := HK7.out.c2; have z3 := HK7.out.c3; have z4 := HK7.out.c4; have f0 := HK7.out.fr 0; have f1 := HK7.out.fr 1; have f2 := HK7.out.fr 2; have f3 := HK7.out.fr 3; have f4 := HK7.out.fr 4; clear hb))
          go_meet
          exact ⟨2, 0, 0, 0, 1, 5, rfl, H7.out.put5 HLo.out xb HXN.out HW4.out _ _ _ _ _, HK7.out.set 2 0 0 0 1, by decide, fun W addr ro => way_fault1 W addr ro (by decide) (by simp [entP, szB, liveB, thereB, upd, HAN.out.1]) rfl⟩
        · go_wp2_with (first
            | (go_at_call 36; (with_reducible refine (snodekey_in 0 4 0 (Lib.hid rfl) (by decide) (by decide) HAN.out.1 HTA 0 (Lib.hid rfl) _ HX.out.st).mono ?_); rintro e w7 ⟨rfl, hb⟩; have H7 := Lib.hid (HX.out.step hb); have HK7 := Lib.hid (HKX.out.below hb); have z0 := HK7.out.c0; have z1 := HK7.out.c1; have z2 := HK7.out.c2; have z3 := HK7.out.c3; have z4 := HK7.out.c4; have f0 := HK7.out.fr 0; have f1 := HK7.out.fr 1; have f2 := HK7.out.fr 2; have f3 := HK7.out.fr 3; have f4 := HK7.out.fr 4; clear hb))
          go_meet
          exact ⟨2, 0, 0, 0, 4, 5, rfl, H7.out.put5 HLo.out xb HXN.out HW4.out _ _ _ _ _, HK7.out.set 2 0 0 0 4, by decide, fun W addr ro => way_fault1 W addr ro (by decide) (by simp [entP, szB, liveB, thereB, upd, HAN.out.1]) rfl⟩
        · go_wp2_with (first
            | (go_at_call 35; (with_reducible refine (spagekey_in 0 0 (Lib.hid rfl) HAN.out.2 HTA 0 (Lib.hid rfl) _ HX.out.st).mono ?_); rintro e w7 ⟨rfl, hb⟩; have H7 := Lib.hid (HX.out.step hb); have HK7 := Lib.hid (HKX.out.below hb); have z0 := HK7.out.c0; have z1 := HK7.out.c1; have z2 := HK7.out.c2; have z3 := HK7.out.c3; have z4 := HK7.out.c4; have f0 := HK7.out.fr 0; have f1 := HK7.out.fr 1; have f2 := HK7.out.fr 2; have f3 := HK7.out.fr 3; have f4 := HK7.out.fr 4; clear hb))
          go_meet
          exact ⟨3, 0, 1, 0, 0, 2, rfl, (H7.out.put5 HLo.out xb HXN.out HW4.out _ _ _ _ _).put1 HLo.out xb 2 HXN.out HW4.out _, (HK7.out.set 3 0 0 0 0).set2 1, by decide, fun W addr ro => way_fault1 W addr ro (by decide) (by simp [entP, szB, liveB, thereB, upd]) rfl⟩
      case rest =>
        obtain ⟨x0, x1, x2, x3, x4, want, rfl, hs, hk, hrt, hway⟩ := hcut
        have HC := Lib.hid hs
        have HKC := Lib.hid hk
        have HRT := Lib.hid hrt
        have HWY := Lib.hid hway
        have HSC : Hid (∀ w', Below wc.heap.size wc w' → (World.cell? w' ⟨S, 0, none⟩ = some (.pointer (some ⟨a.P, 0, none⟩)) ∧ World.cell? w' ⟨xb, 0, none⟩ = some (.int .i64 x0) ∧ World.cell? w' ⟨xb, 1, none⟩ = some (.int .i64 x1) ∧ World.cell? w' ⟨xb, 2, none⟩ = some (.int .i64 x2) ∧ World.cell? w' ⟨xb, 3, none⟩ = some (.int .i64 x3) ∧ World.cell? w' ⟨xb, 4, none⟩ = some (.int .u32 x4))) := Lib.hid (fun w' hb => ⟨(HC.out.step hb).st.s0, (HKC.out.below hb).c0, (HKC.out.below hb).c1, (HKC.out.below hb).c2, (HKC.out.below hb).c3, (HKC.out.below hb).c4⟩)
        have s0' : (slot : Int) < 16 := by omega
        clear hs hk hrt hway
        go_wp2_with fail
        refine wp_region_noPanic ?_
        refine wp_region_held_drew (S := fun w' => (World.cell? w' ⟨S, 0, none⟩ = some (.pointer (some ⟨a.P, 0, none⟩)) ∧ World.cell? w' ⟨xb, 0, none⟩ = some (.int .i64 x0) ∧ World.cell? w' ⟨xb, 1, none⟩ = some (.int .i64 x1) ∧ World.cell? w' ⟨xb, 2, none⟩ = some (.int .i64 x2) ∧ World.cell? w' ⟨xb, 3, none⟩ = some (.int .i64 x3) ∧ World.cell? w' ⟨xb, 4, none⟩ = some (.int .u32 x4))) (by kernel_rfl) (HSC.out _ (Below.refl wc.heap.size wc).drew) (fun hHeld => ?_)
        refine wpAnyH_take (i := 0) (v := ?_) (by rfl) (by kernel_rfl) (by kernel_rfl) (by kernel_rfl) (fun _ _ _ h => h) (Or.inl ⟨by kernel_rfl, ?_⟩) (by assumption) ?_; rotate_left 1; (focus (intro w hSw; (try dsimp only at hSw); simp only [List.getElem_toArray, List.getElem_cons_succ, List.getElem_cons_zero]; all_goals go_simp; all_goals (try with_reducible rfl))); (try simp only [Act.put, List.getElem_toArray, List.getElem_cons_succ, List.getElem_cons_zero, List.setIfInBounds_toArray, List.set_cons_zero, List.set_cons_succ])
        refine wpAnyH_take (i := 1) (v := ?_) (by rfl) (by kernel_rfl) (by kernel_rfl) (by kernel_rfl) (fun _ _ _ h => h) (Or.inl ⟨by kernel_rfl, ?_⟩) (by assumption) ?_; rotate_left 1; (focus (intro w hSw; (try dsimp only at hSw); simp only [List.getElem_toArray, List.getElem_cons_succ, List.getElem_cons_zero]; all_goals go_simp; all_goals (try with_reducible rfl))); (try simp only [Act.put, List.getElem_toArray, List.getElem_cons_succ, List.getElem_cons_zero, List.setIfInBounds_toArray, List.set_cons_zero, List.set_cons_succ])
        refine wpAnyH_take (i := 2) (v := ?_) (by rfl) (by kernel_rfl) (by kernel_rfl) (by kernel_rfl) (fun _ _ _ h => h) (Or.inl ⟨by kernel_rfl, ?_⟩) (by assumption) ?_; rotate_left 1; (focus (intro w hSw; (try dsimp only at hSw); simp only [List.getElem_toArray, List.getElem_cons_succ, List.getElem_cons_zero]; all_goals go_simp; all_goals (try with_reducible rfl))); (try simp only [Act.put, List.getElem_toArray, List.getElem_cons_succ, List.getElem_cons_zero, List.setIfInBounds_toArray, List.set_cons_zero, List.set_cons_succ])
        refine wpAnyH_take (i := 3) (v := ?_) (by rfl) (by kernel_rfl) (by kernel_rfl) (by kernel_rfl) (fun _ _ _ h => h) (Or.inl ⟨by kernel_rfl, ?_⟩) (by assumption) ?_; rotate_left 1; (focus (intro w hSw; (try dsimp only at hSw); simp only [List.getElem_toArray, List.getElem_cons_succ, List.getElem_cons_zero]; all_goals go_simp; all_goals (try with_reducible rfl))); (try simp only [Act.put, List.getElem_toArray, List.getElem_cons_succ, List.getElem_cons_zero, List.setIfInBounds_toArray, List.set_cons_zero, List.set_cons_succ])
        refine wpAnyH_take (i := 4) (v := ?_) (by rfl) (by kernel_rfl) (by kernel_rfl) (by kernel_rfl) (fun _ _ _ h => h) (Or.inl ⟨by kernel_rfl, ?_⟩) (by assumption) ?_; rotate_left 1; (focus (intro w hSw; (try dsimp only at hSw); simp only [List.getElem_toArray, List.getElem_cons_succ, List.getElem_cons_zero]; all_goals go_simp; all_goals (try with_reducible rfl))); (try simp only [Act.put, List.getElem_toArray, List.getElem_cons_succ, List.getElem_cons_zero, List.setIfInBounds_toArray, List.set_cons_zero, List.set_cons_succ])
        refine wpAnyH_take (i := 5) (v := ?_) (by rfl) (by kernel_rfl) (by kernel_rfl) (by kernel_rfl) (fun _ _ _ h => h) (Or.inl ⟨by kernel_rfl, ?_⟩) (by assumption) ?_; rotate_left 1; (focus (intro w hSw; (try dsimp only at hSw); simp only [List.getElem_toArray, List.getElem_cons_succ, List.getElem_cons_zero]; all_goals go_simp; all_goals (try with_reducible rfl))); (try simp only [Act.put, List.getElem_toArray, List.getElem_cons_succ, List.getElem_cons_zero, List.setIfInBounds_toArray, List.set_cons_zero, List.set_cons_succ])
        refine wpAnyH_ready (rs := [6]) (by kernel_rfl) (by simp) ?_; refine AllReadyH.cons (by rfl) (fun K hK => ?_) AllReadyH.nil; rw [if_pos (by kernel_rfl)]; simp only [List.getElem_toArray, List.getElem_cons_succ, List.getElem_cons_zero]
        have HD := Lib.hid (HC.out.step (Below.refl wc.heap.size wc).drew)
        have HKD := Lib.hid (HKC.out.below (Below.refl wc.heap.size wc).drew)
        go_wp2_with (first
          | (go_at_call 43; (with_reducible refine (nset_at vs vr 0 slot 0 slot (Lib.hid rfl) (Lib.hid rfl) HAN.out.1 hs16 HTA x0 x1 x2 x3 x4 HRT _ (HE.out.below HD.out.bel) HD.out.st.nd (Lib.hid HALL.out.one)).mono ?_); rintro e w8 ⟨rfl, hM, hb⟩; have H8 := Lib.hid (HD.out.node hM hb); have HK8 := Lib.hid (HKD.out.pbelow hb (by have := HLo.out.n; have := HXN.out; omega) (by have := HLo.out.n; have := HXN.out; omega)); clear hM hb))
        refine hK.out _ _ ⟨H8.out.st.s0, HK8.out.c0, HK8.out.c1, HK8.out.c2, HK8.out.c3, HK8.out.c4⟩ (fun hHeld => ?_)
        clear hK K
        (try simp only [Act.put, List.getElem_toArray, List.getElem_cons_succ, List.getElem_cons_zero, List.setIfInBounds_toArray, List.set_cons_zero, List.set_cons_succ])
        refine wpAnyH_done (by kernel_rfl) ?_ _
        refine NoPanic.normal ?_
        by_cases heq : ask = slot
        · have ht : ((ask : Int) == (slot : Int)) = true := by simp; omega
          have HEQ := Lib.hid heq
          clear heq
          have HWa : Hid (Way a b (upd (fun _ => false) 0 true) (fun _ => 0) (updV W 0 (slot * 5) (k5 x0 x1 x2 x3 x4)) (upd (fun _ => false) 0 true) (fun _ => 0) 2 0 0 0 1 5 (32 * (ask : Int) + 7) false [0] 0 0 false want) := Lib.hid (way_at 1 0 ask 7 x0 x1 x2 x3 x4 rfl (by decide) (by decide) (by omega) (by decide) rfl HAN.out.1 HTA.out rfl hk16 (by decide) (by rw [HEQ.out]; exact updV_key W 0 slot x0 x1 x2 x3 x4) (HWY.out _ _ _))
          go_wp2_with (first
            | (go_at_call 36; (with_reducible refine (snodekey_in 0 1 0 (Lib.hid rfl) (by decide) (by decide) HAN.out.1 HTA 0 (Lib.hid rfl) _ H8.out.st).mono ?_); rintro e w9 ⟨rfl, hb⟩; have H9 := Lib.hid (H8.out.step hb); clear hb)
            | (go_at_call 44; (with_reducible refine (pWalk_is 2 0 0 0 1 _ [0] 0 0 false want HWa _ (H9.out.step ((Below.refl _ _).alloc (Nat.le_refl _) _)).st).mono ?_); rintro e w10 ⟨rfl, hb⟩; have H10 := Lib.hid ((H9.out.step ((Below.refl _ _).alloc (Nat.le_refl _) _)).step hb); clear hb))
          go_ret
          exact ⟨by simp, H10.out.bel.alloc H10.out.bel.size _⟩
        · have ht : ((ask : Int) == (slot : Int)) = false := by simp; omega
          have HEQ := Lib.hid heq
          clear heq
          have HWa : Hid (Way a b (upd (fun _ => false) 0 true) (fun _ => 0) (updV W 0 (slot * 5) (k5 x0 x1 x2 x3 x4)) (upd (fun _ => false) 0 true) (fun _ => 0) 2 0 0 0 1 5 (32 * (ask : Int) + 7) false [0] 0 7 ((false || roB 0) || roB 0) 0) := Lib.hid (way_at 1 0 ask 7 3 0 0 0 0 rfl (by decide) (by decide) (by omega) (by decide) rfl HAN.out.1 HTA.out rfl hk16 (by decide) (updV_rest W 0 slot 0 ask x0 x1 x2 x3 x4 (fun h => HEQ.out h.2) (HKK.out ask (by have := HI16.out; omega))) (.page (by decide) (by decide) (by simp [liveB, thereB, upd, HAN.out.2]) (by decide)))
          go_wp2_with (first
            | (go_at_call 36; (with_reducible refine (snodekey_in 0 1 0 (Lib.hid rfl) (by decide) (by decide) HAN.out.1 HTA 0 (Lib.hid rfl) _ H8.out.st).mono ?_); rintro e w9 ⟨rfl, hb⟩; have H9 := Lib.hid (H8.out.step hb); clear hb)
            | (go_at_call 44; (with_reducible refine (pWalk_is 2 0 0 0 1 _ [0] 0 7 ((false || roB 0) || roB 0) 0 HWa _ (H9.out.step ((Below.refl _ _).alloc (Nat.le_refl _) _)).st).mono ?_); rintro e w10 ⟨rfl, hb⟩; have H10 := Lib.hid ((H9.out.step ((Below.refl _ _).alloc (Nat.le_refl _) _)).step hb); clear hb))
          go_ret
          exact ⟨by simp, H10.out.bel.alloc H10.out.bel.size _⟩
theorem walk_PathFaults (a0 : Int) (a1 : Int) (a2 : Int) (w : World) (w0 : (Lit.int .i64 a0).wf = true) (w1 : (Lit.int .i64 a1).wf = true) (w2 : (Lit.int .i64 a2).wf = true) (hL : laidMetH Tryd.prog Rows.pathFaultsRow.laid w) :
    Calls Tryd.prog 9 #[.int .i64 a0, .int .i64 a1, .int .i64 a2] w fun e w' => e = .returned (.bool true) ∧ Below w.heap.size w w' := by
  obtain ⟨vs, vr, hE⟩ := (errs2 hL ⟨_, by repeat (first | exact List.Mem.head _ | apply List.Mem.tail)⟩ ⟨_, by repeat (first | exact List.Mem.head _ | apply List.Mem.tail)⟩)
  obtain ⟨x0, h0, C0⟩ := number_nat a0 6 6 rfl (by decide) (by decide) (fit64 w0).1 (fit64 w0).2
  obtain ⟨x1, h1, C1⟩ := number_nat a1 16 16 rfl (by decide) (by decide) (fit64 w1).1 (fit64 w1).2
  obtain ⟨x2, h2, C2⟩ := number_nat a2 16 16 rfl (by decide) (by decide) (fit64 w2).1 (fit64 w2).2
  exact faults_walk a0 a1 a2 x0 x1 x2 h0 h1 h2 (Lib.hid C0) (Lib.hid C1) (Lib.hid C2) w vs vr hE
end Go.Proofs.YtkhgnmgcdgjncaaDoor
