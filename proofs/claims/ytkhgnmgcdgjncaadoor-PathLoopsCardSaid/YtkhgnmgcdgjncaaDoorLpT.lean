/-
  Pa7, PaO as one.
-/
import Derived.Test.YtkhgnmgcdgjncaaDoorP9
import Derived.Deep.CutBlock
namespace Go.Proofs.YtkhgnmgcdgjncaaDoor
open Go.ChangeShapes Go.WideShapes Go.ChangeAt Go.RowKit
set_option linter.unusedVariables false
theorem nset_at {base P p B G n c : Nat} {th : Nat → Bool} {vr_ : Nat → Int} {W : Nat → Nat → Value} (vs vr : Value) (id sl : Int) (k s : Nat) (hid : Hid (id = k)) (hsl : Hid (sl = s)) (hk : k < n) (hs : s < 16) (ht : Hid (th k = true)) (y0 y1 y2 y3 y4 : Int) (hy : Hid (rightB y0 y1 y2 y3 y4 = true)) (w : World) (hE : ErrsAt vs vr w) (h : NdAt w base P p B G n c th vr_ W) (hcell : Hid (∀ j, j < 80 → (W k j).oneCell' = true)) :
    Calls Tryd.prog 43 #[.pointer (some ⟨P, 0, none⟩), .int .i64 id, .int .i64 sl, (Value.agg #[.int .i64 y0, .int .i64 y1, .int .i64 y2, .int .i64 y3, .int .u32 y4])] w fun e w' => e = .returned .nilIface ∧ NdAt w' base P p B G n c th vr_ (updV W k (s * 5) (k5 y0 y1 y2 y3 y4)) ∧ PBelow w w' B G := by
  rw [hid.out, hsl.out]
  exact nset_ok vs vr k s hk hs ht y0 y1 y2 y3 y4 hy w hE h hcell
theorem KeyC.set2 {w : World} {b : Nat} {k0 k1 k2 k3 k4 : Int} (h : KeyC w b k0 k1 k2 k3 k4) (z : Int) : KeyC (w.setCell ⟨b, 2, none⟩ (.int .i64 z)) b k0 k1 z k3 k4 := by
  refine ⟨by simpa using h.lt, ?_, ?_, ?_, ?_, ?_, fun j => by simpa using h.fr j⟩
  · rw [World.cell?_setCell_other _ _ _ _ (by simp)]; exact h.c0
  · rw [World.cell?_setCell_other _ _ _ _ (by simp)]; exact h.c1
  · exact World.cell?_setCell_same _ _ _ h.c2
  · rw [World.cell?_setCell_other _ _ _ _ (by simp)]; exact h.c3
  · rw [World.cell?_setCell_other _ _ _ _ (by simp)]; exact h.c4
/-- Node i of some: each slot holds a key. -/
def All16 (f : Nat → Value) : Prop := ∀ j, j < 16 → ∃ y0 y1 y2 y3 y4, KAt f j y0 y1 y2 y3 y4
theorem All16.one {f : Nat → Value} (h : All16 f) : ∀ b, b < 80 → (f b).oneCell' = true := KAt.one h
theorem All16.set {W : Nat → Nat → Value} {i : Nat} (h : All16 (W i)) (k s : Nat) (y0 y1 y2 y3 y4 : Int) : All16 (updV W k (s * 5) (k5 y0 y1 y2 y3 y4) i) := fun j hj => by
  by_cases e : i = k ∧ j = s
  · obtain ⟨rfl, rfl⟩ := e
    exact ⟨_, _, _, _, _, updV_key W i j y0 y1 y2 y3 y4⟩
  · obtain ⟨x0, x1, x2, x3, x4, hx⟩ := h j hj
    exact ⟨x0, x1, x2, x3, x4, updV_rest W k s i j y0 y1 y2 y3 y4 e hx⟩
theorem All16.fresh (W : Nat → Nat → Value) (i : Nat) (kk : Nat → Nat → Int) : All16 (freshV W i (kcs kk 0) i) := fun j hj => ⟨_, _, _, _, _, freshV_nokey W i kk 0 j (Nat.zero_le _) hj⟩
theorem All16.rest {W : Nat → Nat → Value} {a : Nat} (h : All16 (W a)) (i : Nat) (xs : List Value) (hne : a ≠ i) : All16 (freshV W i xs a) := fun j hj => by
  obtain ⟨x0, x1, x2, x3, x4, hx⟩ := h j hj
  exact ⟨x0, x1, x2, x3, x4, freshV_rest W i xs a j hne hx⟩
theorem fit64 {a : Int} (h : (Lit.int .i64 a).wf = true) : -9223372036854775808 ≤ a ∧ a ≤ 9223372036854775807 := by simpa [Lit.wf, IntKind.min, IntKind.max, IntKind.signed, IntKind.bits] using h
theorem fit32 {a : Int} (h : (Lit.int .u32 a).wf = true) : 0 ≤ a ∧ a ≤ 4294967295 := by simpa [Lit.wf, IntKind.min, IntKind.max, IntKind.signed, IntKind.bits] using h
theorem way_split (p : Nat) (hp : 0 < p) (m : Nat) (hm : m < 16 * p) : ∃ q s : Nat, q < 16 ∧ s < p ∧ m = q * p + s :=
  ⟨m / p, m % p, by rw [Nat.div_lt_iff_lt_mul hp]; exact hm, Nat.mod_lt _ hp, by rw [Nat.mul_comm]; exact (Nat.div_add_mod m p).symm⟩
/-- One step of a way: node i of height h, by slot q. -/
theorem way_at {a b : Shp} {th : Nat → Bool} {vr_ : Nat → Int} {W : Nat → Nat → Value} {th2 : Nat → Bool} {vr2 : Nat → Int} {k1 k2 k3 k4 below addr : Int} {ro : Bool} {ids : List Int} {pg at_ : Int} {r : Bool} {f : Int} (h i q s : Nat) (y0 y1 y2 y3 y4 : Int) (hk : k4 = h) (h1 : 1 ≤ h) (h4 : h ≤ 4) (ha : addr = ((q * (2 * 16 ^ h) + s : Nat) : Int)) (hd : (h : Int) < below) (hi : k1 = i) (hn : i < a.n) (ht : th i = true) (hv : vr_ i = k2) (hq : q < 16) (hr : s < 2 * 16 ^ h) (hy : KAt (W i) q y0 y1 y2 y3 y4) (next : Way a b th vr_ W th2 vr2 y0 y1 y2 y3 y4 h s (ro || roB k3) ids pg at_ r f) : Way a b th vr_ W th2 vr2 2 k1 k2 k3 k4 below addr ro (k1 :: ids) pg at_ r f :=
  .node h i q s (2 * 16 ^ h) _ y0 y1 y2 y3 y4 hk rfl ha rfl h1 h4 (by subst hi; simp [liveB, thereB, hn, ht, hv]) hd hi hn ht hq hr hy next
end Go.Proofs.YtkhgnmgcdgjncaaDoor
namespace Go.Proofs.YtkhgnmgcdgjncaaDoor
open Go.ChangeShapes Go.WideShapes Go.ChangeAt Go.RowKit
set_option linter.unusedVariables false
set_option linter.unusedSimpArgs false
theorem right_mem (h : Nat) (h4 : h ≤ 4) : rightB 2 0 0 0 (h : Int) = true := by
  have h5 : h = 0 ∨ h = 1 ∨ h = 2 ∨ h = 3 ∨ h = 4 := by omega
  rcases h5 with rfl | rfl | rfl | rfl | rfl <;> decide
theorem way_mul (s p n : Nat) (hn : n = 16 * p) (hs : s ≤ 15) (hp : p ≤ 131072) : (s : Int) * ((n : Int) / 16) % 4294967296 = ((s * p + 0 : Nat) : Int) := by
  have e : (n : Int) / 16 = p := by omega
  have h : s * p ≤ 15 * 131072 := Nat.mul_le_mul hs hp
  rw [e, Nat.add_zero, ← Int.natCast_mul]
  omega
set_option maxRecDepth 100000 in
set_option maxHeartbeats 8000000 in
theorem loops_walk (a0 a1 a2 : Int) (hu0 : 0 ≤ a2) (hu1 : a2 ≤ 4294967295) (w : World) (vs vr : Value) (hE : ErrsAt vs vr w) :
    Calls Tryd.prog 8 #[.int .i64 a0, .int .i64 a1, .int .u32 a2] w fun e w' => e = .returned (.bool true) ∧ Below w.heap.size w w' := by
  have HE := Lib.hid hE
  obtain ⟨d, hd, ed⟩ := and3_in a0
  obtain ⟨slot, hs15, es⟩ := and15_in a1
  obtain ⟨h, hh⟩ : ∃ h : Nat, h = d + 1 := ⟨_, rfl⟩
  have h1 : 1 ≤ h := by omega
  have h4 : h ≤ 4 := by omega
  have EH : Hid ((d : Int) + 1 = (h : Int)) := Lib.hid (by omega)
  clear hh
  have HU := Lib.hid (And.intro hu0 hu1)
  clear hE hu0 hu1
  go_enter Tryd.func8, Tryd.ntmps8
  go_upto_region 10 with (first
    | (go_at_call 42; refine (pfirst9_is _).mono ?_; rintro e w1 ⟨rfl, hb1⟩; have HB1 := Lib.hid hb1; clear hb1)
    | (go_at_call 12; (with_reducible refine (snew_ok 2 1 2 1 (Lib.hid rfl) (Lib.hid rfl) (by decide) (by decide) (by decide) (by decide) _).mono ?_); rintro e w2 ⟨S, a, b, rfl, hs, hn, hb⟩; have HN := Lib.hid hn.out; have H2 : Hid (SV w w2 S a b _ _ _ _ _ _) := Lib.hid ⟨HB1.out.trans (hb.mono HB1.out.size), by have := hn.out.2.2; have := HB1.out.size; omega, hs⟩; have s0 := hs.s0; clear hs hb hn)
    | (go_at_call 17; (with_reducible refine (nmake_at 0 vs vr none 0 0 (fun _ _ => 0) (by decide) (Lib.hid (by intro i hi; omega)) 0 (Lib.hid rfl) (by have := HN.out; omega) (Lib.hid (by decide)) (Lib.hid (by intro i hi; omega)) 0 (Lib.hid rfl) _ (HE.out.below H2.out.bel) H2.out.st.nd (srcK_none _ _ _ _)).mono ?_); rintro e w4 ⟨rfl, hM, hb⟩; have H4 := Lib.hid (H2.out.node hM hb); clear hM hb s0))
  have HLo : Hid (StLo S a b w4.heap.size) := Lib.hid H4.out.st.lo
  obtain ⟨N, hN⟩ : ∃ N, Hid (w4.heap.size = N) := ⟨_, Lib.hid rfl⟩
  have HW4 : Hid (w.heap.size ≤ N) := Lib.hid (by rw [← hN.out]; exact H4.out.bel.size)
  have HN4 : Hid (N ≤ w4.heap.size) := Lib.hid (by rw [← hN.out]; exact Nat.le_refl _)
  rw [hN.out] at HLo
  clear H2 HB1 hN
  have HTA : Hid ((upd (fun _ => false) 0 true) 0 = true) := Lib.hid rfl
  have HAN : Hid (0 < a.n) := Lib.hid (by have := HN.out; omega)
  rw [EH.out]
  have k0 : (0 : Int) ≤ h := by omega
  have k4 : (h : Int) ≤ 4 := by omega
  go_wp2_with fail
  go_loopw [10] (fun z wr => ∃ (i : Nat) (W : Nat → Nat → Value), i ≤ 16 ∧ z = .int .i64 i ∧ SV w wr S a b (upd (fun _ => false) 0 true) (fun _ => 0) W (fun _ => false) (fun _ => 0) (fun _ _ => 0) ∧ All16 (W 0) ∧ (∀ j, j < i → KAt (W 0) j 2 0 0 0 h) ∧ N ≤ wr.heap.size) (fun z _ => 16 - (intOf z).toNat)
  case atStart => exact ⟨0, _, by omega, rfl, H4.out, All16.fresh _ _ _, fun j hj => by omega, HN4.out⟩
  case round =>
    obtain ⟨i, W, hi, rfl, hs, hall, hkk, hnn⟩ := hrel
    have HR := Lib.hid hs
    have HALL := Lib.hid hall
    have HKK := Lib.hid hkk
    have HNN := Lib.hid hnn
    have i0 : (0 : Int) ≤ i := by omega
    have HSS : Hid (∀ w', Below wr.heap.size wr w' → World.cell? w' ⟨S, 0, none⟩ = some (.pointer (some ⟨a.P, 0, none⟩))) := Lib.hid (fun w' hb => (HR.out.step hb).st.s0)
    clear hs hall hkk hnn
    by_cases hlt : i < 16
    · have i1 : (i : Int) < 16 := by omega
      go_wp2_with fail
      refine wp_region_noPanic ?_
      refine wp_region_held_drew (S := fun w' => World.cell? w' ⟨S, 0, none⟩ = some (.pointer (some ⟨a.P, 0, none⟩))) (by kernel_rfl) (HSS.out _ (Below.refl wr.heap.size wr).drew) (fun hHeld => ?_)
      refine wpAnyH_take (i := 0) (v := ?_) (by rfl) (by kernel_rfl) (by kernel_rfl) (by kernel_rfl) (fun _ _ _ h => h) (Or.inl ⟨by kernel_rfl, ?_⟩) (by assumption) ?_; rotate_left 1; (focus (intro w hSw; (try dsimp only at hSw); simp only [List.getElem_toArray, List.getElem_cons_succ, List.getElem_cons_zero]; all_goals go_simp; all_goals (try with_reducible rfl))); (try simp only [Act.put, List.getElem_toArray, List.getElem_cons_succ, List.getElem_cons_zero, List.setIfInBounds_toArray, List.set_cons_zero, List.set_cons_succ])
      refine wpAnyH_take (i := 1) (v := ?_) (by rfl) (by kernel_rfl) (by kernel_rfl) (by kernel_rfl) (fun _ _ _ h => h) (Or.inl ⟨by kernel_rfl, ?_⟩) (by assumption) ?_; rotate_left 1; (focus (intro w hSw; (try dsimp only at hSw); simp only [List.getElem_toArray, List.getElem_cons_succ, List.getElem_cons_zero]; all_goals go_simp; all_goals (try with_reducible rfl))); (try simp only [Act.put, List.getElem_toArray, List.getElem_cons_succ, List.getElem_cons_zero, List.setIfInBounds_toArray, List.set_cons_zero, List.set_cons_succ])
      refine wpAnyH_take (i := 2) (v := ?_) (by rfl) (by kernel_rfl) (by kernel_rfl) (by kernel_rfl) (fun _ _ _ h => h) (Or.inl ⟨by kernel_rfl, ?_⟩) (by assumption) ?_; rotate_left 1; (focus (intro w hSw; (try dsimp only at hSw); simp only [List.getElem_toArray, List.getElem_cons_succ, List.getElem_cons_zero]; all_goals go_simp; all_goals (try with_reducible rfl))); (try simp only [Act.put, List.getElem_toArray, List.getElem_cons_succ, List.getElem_cons_zero, List.setIfInBounds_toArray, List.set_cons_zero, List.set_cons_succ])
      refine wpAnyH_take (i := 3) (v := ?_) (by rfl) (by kernel_rfl) (by kernel_rfl) (by kernel_rfl) (fun _ _ _ h => h) (Or.inl ⟨by kernel_rfl, ?_⟩) (by assumption) ?_; rotate_left 1; (focus (intro w hSw; (try dsimp only at hSw); simp only [List.getElem_toArray, List.getElem_cons_succ, List.getElem_cons_zero]; all_goals go_simp; all_goals (try with_reducible rfl))); (try simp only [Act.put, List.getElem_toArray, List.getElem_cons_succ, List.getElem_cons_zero, List.setIfInBounds_toArray, List.set_cons_zero, List.set_cons_succ])
      refine wpAnyH_take (i := 4) (v := ?_) (by rfl) (by kernel_rfl) (by kernel_rfl) (by kernel_rfl) (fun _ _ _ h => h) (Or.inl ⟨by kernel_rfl, ?_⟩) (by assumption) ?_; rotate_left 1; (focus (intro w hSw; (try dsimp only at hSw); simp only [List.getElem_toArray, List.getElem_cons_succ, List.getElem_cons_zero]; all_goals go_simp; all_goals (try with_reducible rfl))); (try simp only [Act.put, List.getElem_toArray, List.getElem_cons_succ, List.getElem_cons_zero, List.setIfInBounds_toArray, List.set_cons_zero, List.set_cons_succ])
      refine wpAnyH_take (i := 5) (v := ?_) (by rfl) (by kernel_rfl) (by kernel_rfl) (by kernel_rfl) (fun _ _ _ h => h) (Or.inl ⟨by kernel_rfl, ?_⟩) (by assumption) ?_; rotate_left 1; (focus (intro w hSw; (try dsimp only at hSw); simp only [List.getElem_toArray, List.getElem_cons_succ, List.getElem_cons_zero]; all_goals go_simp; all_goals (try with_reducible rfl))); (try simp only [Act.put, List.getElem_toArray, List.getElem_cons_succ, List.getElem_cons_zero, List.setIfInBounds_toArray, List.set_cons_zero, List.set_cons_succ])
      refine wpAnyH_take (i := 6) (v := ?_) (by rfl) (by kernel_rfl) (by kernel_rfl) (by kernel_rfl) (fun _ _ _ h => h) (Or.inl ⟨by kernel_rfl, ?_⟩) (by assumption) ?_; rotate_left 1; (focus (intro w hSw; (try dsimp only at hSw); simp only [List.getElem_toArray, List.getElem_cons_succ, List.getElem_cons_zero]; all_goals go_simp; all_goals (try with_reducible rfl))); (try simp only [Act.put, List.getElem_toArray, List.getElem_cons_succ, List.getElem_cons_zero, List.setIfInBounds_toArray, List.set_cons_zero, List.set_cons_succ])
      refine wpAnyH_ready (rs := [7]) (by kernel_rfl) (by simp) ?_; refine AllReadyH.cons (by rfl) (fun K hK => ?_) AllReadyH.nil; rw [if_pos (by kernel_rfl)]; simp only [List.getElem_toArray, List.getElem_cons_succ, List.getElem_cons_zero]
      go_wp2_with (first
        | (go_at_call 36; (with_reducible refine (snodekey_in 0 h 0 (Lib.hid rfl) k0 k4 HAN.out HTA 0 (Lib.hid rfl) _ (HR.out.step (Below.refl wr.heap.size wr).drew).st).mono ?_); rintro e w5 ⟨rfl, hb⟩; have H5 := Lib.hid ((HR.out.step (Below.refl wr.heap.size wr).drew).step hb); have HNN5 := Lib.hid (Nat.le_trans HNN.out hb.size); clear hb))
      refine hK.out _ _ H5.out.st.s0 (fun hHeld => ?_)
      clear hK K
      (try simp only [Act.put, List.getElem_toArray, List.getElem_cons_succ, List.getElem_cons_zero, List.setIfInBounds_toArray, List.set_cons_zero, List.set_cons_succ])
      refine wpAnyH_ready (rs := [8]) (by kernel_rfl) (by simp) ?_; refine AllReadyH.cons (by rfl) (fun K hK => ?_) AllReadyH.nil; rw [if_pos (by kernel_rfl)]; simp only [List.getElem_toArray, List.getElem_cons_succ, List.getElem_cons_zero]
      go_wp2_with (first
        | (go_at_call 43; (with_reducible refine (nset_at vs vr 0 i 0 i (Lib.hid rfl) (Lib.hid rfl) HAN.out hlt HTA 2 0 0 0 h (Lib.hid (right_mem h h4)) _ (HE.out.below H5.out.bel) H5.out.st.nd (Lib.hid HALL.out.one)).mono ?_); rintro e w6 ⟨rfl, hM, hb⟩; have H6 := Lib.hid (H5.out.node hM hb); have HNN6 := Lib.hid (Nat.le_trans HNN5.out hb.2.2.2.1); clear hM hb))
      refine hK.out _ _ H6.out.st.s0 (fun hHeld => ?_)
      clear hK K
      (try simp only [Act.put, List.getElem_toArray, List.getElem_cons_succ, List.getElem_cons_zero, List.setIfInBounds_toArray, List.set_cons_zero, List.set_cons_succ])
      refine wpAnyH_done (by kernel_rfl) ?_ _
      refine NoPanic.normal ?_
      go_wp2_with fail
      go_roundw
      case rel =>
        refine ⟨i + 1, _, by omega, by go_num, H6.out, HALL.out.set 0 i 2 0 0 0 h, fun j hj => ?_, HNN6.out⟩
        by_cases hji : j = i
        · subst hji; exact updV_key W 0 j 2 0 0 0 h
        · exact updV_rest W 0 i 0 j 2 0 0 0 h (fun h => hji h.2) (HKK.out j (by omega))
      case measure => simp [intOf]; omega
    · have hi16 : ¬ (i : Int) < 16 := by omega
      have HI16 : Hid (i = 16) := Lib.hid (by omega)
      clear hlt
      obtain ⟨p, hp⟩ : ∃ p : Nat, p = 2 * 16 ^ h := ⟨_, rfl⟩
      have hp5 : p ≤ 131072 := by rw [hp]; exact way_big h h4
      have hp1 : 2 ≤ p := by rw [hp]; exact Nat.le_mul_of_pos_right 2 (Nat.pow_pos (by decide))
      have HS : Hid (szP 2 h = ((16 * p : Nat) : Int) ∧ szB 2 h = true) := Lib.hid (way_sz h h1 h4 p hp)
      obtain ⟨n, hn⟩ : ∃ n : Nat, n = 16 * p := ⟨_, rfl⟩
      rw [← hn] at HS
      obtain ⟨m, hm⟩ : ∃ m : Nat, (m : Int) = a2 % n := ⟨(a2 % n).toNat, by have := Int.emod_nonneg a2 (b := (n : Int)) (by omega); omega⟩
      have hmn : m < n := by have := Int.emod_lt_of_pos a2 (b := (n : Int)) (by omega); omega
      obtain ⟨q, s, hq, hsp, hms⟩ := way_split p (by omega) m (by omega)
      have HP := Lib.hid hp
      have HM := Lib.hid hm
      have HMS := Lib.hid hms
      have HNp := Lib.hid hn
      have hn0 : ¬ n = 0 := by omega
      have hn1 : n ≤ 2097152 := by omega
      clear hp hn hm hms
      go_upto_region 16 with (first
        | (go_at_call 36; (with_reducible refine (snodekey_in 0 h 0 (Lib.hid rfl) k0 k4 HAN.out HTA 0 (Lib.hid rfl) _ HR.out.st).mono ?_); rintro e w7 ⟨rfl, hb⟩; have H7 := Lib.hid (HR.out.step hb); have HN7 := Lib.hid (Nat.le_trans HNN.out hb.size); clear hb)
        | (go_at_call 46; (with_reducible refine (psize_at 2 0 0 0 h k0 _ true HS _).mono ?_); rintro e w8 ⟨rfl, hb⟩; have H8 := Lib.hid ((H7.out.step ((Below.refl _ _).alloc (Nat.le_refl _) _)).step hb); have HK8 := Lib.hid ((KeyC.new w7 2 0 0 0 h 25).below hb); clear hb))
      have HKC8 := Lib.hid HK8.out
      obtain ⟨kb, hkb⟩ : ∃ kb, Hid (w7.heap.size = kb) := ⟨_, Lib.hid rfl⟩
      have HKN : Hid (N ≤ kb) := Lib.hid (by rw [← hkb.out]; exact HN7.out)
      rw [hkb.out] at HK8 ⊢
      have HLive : Hid (liveB a b (upd (fun _ => false) 0 true) (fun _ => 0) (fun _ => false) (fun _ => 0) 2 0 0 = true) := Lib.hid (by simp [liveB, thereB, upd, HAN.out])
      have HWa : Hid (Way a b (upd (fun _ => false) 0 true) (fun _ => 0) W (fun _ => false) (fun _ => 0) 2 0 0 0 h 5 m false [0] 0 0 false 5) := Lib.hid (way_at h 0 q s 2 0 0 0 h rfl h1 h4 (by rw [HMS.out, HP.out]) (by omega) rfl HAN.out HTA.out rfl hq (by rw [← HP.out]; exact hsp) (HKK.out q (by have := HI16.out; omega)) (.fault _ _ _ 5 k0 ⟨rfl, rfl⟩ rfl (by rw [HS.out.2, HLive.out]; simp [entP]) rfl))
      have EM : Hid (a2.tmod n = m) := Lib.hid (by rw [Int.tmod_eq_emod_of_nonneg HU.out.1]; exact HM.out.symm)
      have EM' : Hid (IntKind.u32.wrap (a2.tmod n) = m) := Lib.hid (by rw [EM.out, IntKind.wrap_u32]; omega)
      go_cut [14, 15] (fun u v wx => ∃ bx : Nat, u = .pointer (some ⟨bx, 0, none⟩) ∧ v = .int .i64 5 ∧ SV w wx S a b (upd (fun _ => false) 0 true) (fun _ => 0) W (fun _ => false) (fun _ => 0) (fun _ _ => 0) ∧ KeyC wx kb 2 0 0 0 h)
      case first =>
        have HSS8 : Hid (∀ w', Below w8.heap.size w8 w' → (World.cell? w' ⟨kb, 0, none⟩ = some (.int .i64 2) ∧ World.cell? w' ⟨kb, 1, none⟩ = some (.int .i64 0) ∧ World.cell? w' ⟨kb, 2, none⟩ = some (.int .i64 0) ∧ World.cell? w' ⟨kb, 3, none⟩ = some (.int .i64 0) ∧ World.cell? w' ⟨kb, 4, none⟩ = some (.int .u32 h))) := Lib.hid (fun w' hb => ⟨(HK8.out.below hb).c0, (HK8.out.below hb).c1, (HK8.out.below hb).c2, (HK8.out.below hb).c3, (HK8.out.below hb).c4⟩)
        refine wp_region_noPanic ?_
        refine wp_region_held_drew (S := fun w' => (World.cell? w' ⟨kb, 0, none⟩ = some (.int .i64 2) ∧ World.cell? w' ⟨kb, 1, none⟩ = some (.int .i64 0) ∧ World.cell? w' ⟨kb, 2, none⟩ = some (.int .i64 0) ∧ World.cell? w' ⟨kb, 3, none⟩ = some (.int .i64 0) ∧ World.cell? w' ⟨kb, 4, none⟩ = some (.int .u32 h))) (by kernel_rfl) (HSS8.out _ (Below.refl w8.heap.size w8).drew) (fun hHeld => ?_)
        refine wpAnyH_take (i := 0) (v := ?_) (by rfl) (by kernel_rfl) (by kernel_rfl) (by kernel_rfl) (fun _ _ _ h => h) (Or.inl ⟨by kernel_rfl, ?_⟩) (by assumption) ?_; rotate_left 1; (focus (intro w hSw; (try dsimp only at hSw); simp only [List.getElem_toArray, List.getElem_cons_succ, List.getElem_cons_zero]; all_goals go_simp; all_goals (try with_reducible rfl))); (try simp only [Act.put, List.getElem_toArray, List.getElem_cons_succ, List.getElem_cons_zero, List.setIfInBounds_toArray, List.set_cons_zero, List.set_cons_succ])
        refine wpAnyH_take (i := 1) (v := ?_) (by rfl) (by kernel_rfl) (by kernel_rfl) (by kernel_rfl) (fun _ _ _ h => h) (Or.inl ⟨by kernel_rfl, ?_⟩) (by assumption) ?_; rotate_left 1; (focus (intro w hSw; (try dsimp only at hSw); simp only [List.getElem_toArray, List.getElem_cons_succ, List.getElem_cons_zero]; all_goals go_simp; all_goals (try with_reducible rfl))); (try simp only [Act.put, List.getElem_toArray, List.getElem_cons_succ, List.getElem_cons_zero, List.setIfInBounds_toArray, List.set_cons_zero, List.set_cons_succ])
        refine wpAnyH_take (i := 2) (v := ?_) (by rfl) (by kernel_rfl) (by kernel_rfl) (by kernel_rfl) (fun _ _ _ h => h) (Or.inl ⟨by kernel_rfl, ?_⟩) (by assumption) ?_; rotate_left 1; (focus (intro w hSw; (try dsimp only at hSw); simp only [List.getElem_toArray, List.getElem_cons_succ, List.getElem_cons_zero]; all_goals go_simp; all_goals (try with_reducible rfl))); (try simp only [Act.put, List.getElem_toArray, List.getElem_cons_succ, List.getElem_cons_zero, List.setIfInBounds_toArray, List.set_cons_zero, List.set_cons_succ])
        refine wpAnyH_take (i := 3) (v := ?_) (by rfl) (by kernel_rfl) (by kernel_rfl) (by kernel_rfl) (fun _ _ _ h => h) (Or.inl ⟨by kernel_rfl, ?_⟩) (by assumption) ?_; rotate_left 1; (focus (intro w hSw; (try dsimp only at hSw); simp only [List.getElem_toArray, List.getElem_cons_succ, List.getElem_cons_zero]; all_goals go_simp; all_goals (try with_reducible rfl))); (try simp only [Act.put, List.getElem_toArray, List.getElem_cons_succ, List.getElem_cons_zero, List.setIfInBounds_toArray, List.set_cons_zero, List.set_cons_succ])
        refine wpAnyH_take (i := 4) (v := .int .u32 m) (by rfl) (by kernel_rfl) (by kernel_rfl) (by kernel_rfl) (fun _ _ _ h => h) (Or.inl ⟨by kernel_rfl, ?_⟩) (by assumption) ?_
        · intro w hSw
          simp only [List.getElem_toArray, List.getElem_cons_succ, List.getElem_cons_zero]
          go_simp
          first | rfl | rw [EM'.out] | rw [EM.out]
        simp only [Act.put, List.getElem_toArray, List.getElem_cons_succ, List.getElem_cons_zero, List.setIfInBounds_toArray, List.set_cons_zero, List.set_cons_succ]
        refine wpAnyH_ready (rs := [5, 9]) (by kernel_rfl) (by simp) ?_
        refine AllReadyH.cons (by rfl) (fun K hK => ?_) (AllReadyH.cons (by rfl) (fun K hK => ?_) AllReadyH.nil)
        · skip
          rw [if_pos (by kernel_rfl)]
          simp only [List.getElem_toArray, List.getElem_cons_succ, List.getElem_cons_zero]
          go_wp2_with (first | (go_at_call 44; (with_reducible refine (pWalk_is 2 0 0 0 h m [0] 0 0 false 5 HWa _ (H8.out.step (Below.refl w8.heap.size w8).drew).st).mono ?_); rintro e w9 ⟨rfl, hb⟩; have HBB := Lib.hid ((Below.refl w8.heap.size w8).drew.trans (hb.mono (by simp))); clear hb))
          refine hK.out _ _ (HSS8.out _ HBB.out) (fun hHeld => ?_)
          clear hK K
          (try simp only [Act.put, List.getElem_toArray, List.getElem_cons_succ, List.getElem_cons_zero, List.setIfInBounds_toArray, List.set_cons_zero, List.set_cons_succ])
          refine wpAnyH_take (i := 6) (v := ?_) (by rfl) (by kernel_rfl) (by kernel_rfl) (by kernel_rfl) (fun _ _ _ h => h) (Or.inl ⟨by kernel_rfl, ?_⟩) (by assumption) ?_; rotate_left 1; (focus (intro w hSw; (try dsimp only at hSw); simp only [List.getElem_toArray, List.getElem_cons_succ, List.getElem_cons_zero]; all_goals go_simp; all_goals (try with_reducible rfl))); (try simp only [Act.put, List.getElem_toArray, List.getElem_cons_succ, List.getElem_cons_zero, List.setIfInBounds_toArray, List.set_cons_zero, List.set_cons_succ])
          refine wpAnyH_take (i := 7) (v := ?_) (by rfl) (by kernel_rfl) (by kernel_rfl) (by kernel_rfl) (fun _ _ _ h => h) (Or.inl ⟨by kernel_rfl, ?_⟩) (by assumption) ?_; rotate_left 1; (focus (intro w hSw; (try dsimp only at hSw); simp only [List.getElem_toArray, List.getElem_cons_succ, List.getElem_cons_zero]; all_goals go_simp; all_goals (try with_reducible rfl))); (try simp only [Act.put, List.getElem_toArray, List.getElem_cons_succ, List.getElem_cons_zero, List.setIfInBounds_toArray, List.set_cons_zero, List.set_cons_succ])
          refine wpAnyH_take (i := 8) (v := ?_) (by rfl) (by kernel_rfl) (by kernel_rfl) (by kernel_rfl) (fun _ _ _ h => h) (Or.inl ⟨by kernel_rfl, ?_⟩) (by assumption) ?_; rotate_left 1; (focus (intro w hSw; (try dsimp only at hSw); simp only [List.getElem_toArray, List.getElem_cons_succ, List.getElem_cons_zero]; all_goals go_simp; all_goals (try with_reducible rfl))); (try simp only [Act.put, List.getElem_toArray, List.getElem_cons_succ, List.getElem_cons_zero, List.setIfInBounds_toArray, List.set_cons_zero, List.set_cons_succ])
          refine wpAnyH_ready (rs := [9]) (by kernel_rfl) (by simp) ?_; refine AllReadyH.cons (by rfl) (fun K hK => ?_) AllReadyH.nil; rw [if_pos (by kernel_rfl)]; simp only [List.getElem_toArray, List.getElem_cons_succ, List.getElem_cons_zero]
          go_wp2_with fail
          refine hK.out _ _ (HSS8.out _ (HBB.out.alloc HBB.out.size _)) (fun hHeld => ?_)
          clear hK K
          (try simp only [Act.put, List.getElem_toArray, List.getElem_cons_succ, List.getElem_cons_zero, List.setIfInBounds_toArray, List.set_cons_zero, List.set_cons_succ])
          refine wpAnyH_ready (rs := [10]) (by kernel_rfl) (by simp) ?_; refine AllReadyH.cons (by rfl) (fun K hK => ?_) AllReadyH.nil; rw [if_pos (by kernel_rfl)]; simp only [List.getElem_toArray, List.getElem_cons_succ, List.getElem_cons_zero]
          go_wp2_with fail
          refine hK.out _ _ (HSS8.out _ (HBB.out.alloc HBB.out.size _)) (fun hHeld => ?_)
          clear hK K
          (try simp only [Act.put, List.getElem_toArray, List.getElem_cons_succ, List.getElem_cons_zero, List.setIfInBounds_toArray, List.set_cons_zero, List.set_cons_succ])
          refine wpAnyH_take (i := 11) (v := ?_) (by rfl) (by kernel_rfl) (by kernel_rfl) (by kernel_rfl) (fun _ _ _ h => h) (Or.inl ⟨by kernel_rfl, ?_⟩) (by assumption) ?_; rotate_left 1; (focus (intro w hSw; (try dsimp only at hSw); simp only [List.getElem_toArray, List.getElem_cons_succ, List.getElem_cons_zero]; all_goals go_simp; all_goals (try with_reducible rfl))); (try simp only [Act.put, List.getElem_toArray, List.getElem_cons_succ, List.getElem_cons_zero, List.setIfInBounds_toArray, List.set_cons_zero, List.set_cons_succ])
          refine wpAnyH_done (by kernel_rfl) ?_ _
          refine NoPanic.normal ?_
          go_wp2_with fail
          go_meet
          have hb := HBB.out.alloc HBB.out.size (.cells #[.int .i64 0, .int .i64 0, .bool false] 97 (0, 0))
          exact ⟨_, rfl, rfl, H8.out.step hb, HK8.out.below hb⟩
        · skip
          rw [if_pos (by kernel_rfl)]
          simp only [List.getElem_toArray, List.getElem_cons_succ, List.getElem_cons_zero]
          go_wp2_with fail
          refine hK.out _ _ (HSS8.out _ ((Below.refl w8.heap.size w8).alloc (Nat.le_refl _) _).drew) (fun hHeld => ?_)
          clear hK K
          (try simp only [Act.put, List.getElem_toArray, List.getElem_cons_succ, List.getElem_cons_zero, List.setIfInBounds_toArray, List.set_cons_zero, List.set_cons_succ])
          refine wpAnyH_ready (rs := [5]) (by kernel_rfl) (by simp) ?_; refine AllReadyH.cons (by rfl) (fun K hK => ?_) AllReadyH.nil; rw [if_pos (by kernel_rfl)]; simp only [List.getElem_toArray, List.getElem_cons_succ, List.getElem_cons_zero]
          go_wp2_with (first | (go_at_call 44; (with_reducible refine (pWalk_is 2 0 0 0 h m [0] 0 0 false 5 HWa _ (H8.out.step ((Below.refl w8.heap.size w8).alloc (Nat.le_refl _) _).drew).st).mono ?_); rintro e w9 ⟨rfl, hb⟩; have HBA := Lib.hid (((Below.refl w8.heap.size w8).alloc (Nat.le_refl _) _).drew.trans (hb.mono (by simp; try omega))); have hPB := ((PlC.new w8 0 0 false 97).below (Below.refl _ _).drew).below hb; have kc0 := hPB.c0; have kc1 := hPB.c1; have kc2 := hPB.c2; have kf0 := hPB.fr 0; have kf1 := hPB.fr 1; have kf2 := hPB.fr 2; clear hb hPB))
          refine hK.out _ _ (HSS8.out _ HBA.out) (fun hHeld => ?_)
          clear hK K
          (try simp only [Act.put, List.getElem_toArray, List.getElem_cons_succ, List.getElem_cons_zero, List.setIfInBounds_toArray, List.set_cons_zero, List.set_cons_succ])
          refine wpAnyH_take (i := 6) (v := ?_) (by rfl) (by kernel_rfl) (by kernel_rfl) (by kernel_rfl) (fun _ _ _ h => h) (Or.inl ⟨by kernel_rfl, ?_⟩) (by assumption) ?_; rotate_left 1; (focus (intro w hSw; (try dsimp only at hSw); simp only [List.getElem_toArray, List.getElem_cons_succ, List.getElem_cons_zero]; all_goals go_simp; all_goals (try with_reducible rfl))); (try simp only [Act.put, List.getElem_toArray, List.getElem_cons_succ, List.getElem_cons_zero, List.setIfInBounds_toArray, List.set_cons_zero, List.set_cons_succ])
          refine wpAnyH_take (i := 7) (v := ?_) (by rfl) (by kernel_rfl) (by kernel_rfl) (by kernel_rfl) (fun _ _ _ h => h) (Or.inl ⟨by kernel_rfl, ?_⟩) (by assumption) ?_; rotate_left 1; (focus (intro w hSw; (try dsimp only at hSw); simp only [List.getElem_toArray, List.getElem_cons_succ, List.getElem_cons_zero]; all_goals go_simp; all_goals (try with_reducible rfl))); (try simp only [Act.put, List.getElem_toArray, List.getElem_cons_succ, List.getElem_cons_zero, List.setIfInBounds_toArray, List.set_cons_zero, List.set_cons_succ])
          refine wpAnyH_take (i := 8) (v := ?_) (by rfl) (by kernel_rfl) (by kernel_rfl) (by kernel_rfl) (fun _ _ _ h => h) (Or.inl ⟨by kernel_rfl, ?_⟩) (by assumption) ?_; rotate_left 1; (focus (intro w hSw; (try dsimp only at hSw); simp only [List.getElem_toArray, List.getElem_cons_succ, List.getElem_cons_zero]; all_goals go_simp; all_goals (try with_reducible rfl))); (try simp only [Act.put, List.getElem_toArray, List.getElem_cons_succ, List.getElem_cons_zero, List.setIfInBounds_toArray, List.set_cons_zero, List.set_cons_succ])
          refine wpAnyH_ready (rs := [10]) (by kernel_rfl) (by simp) ?_; refine AllReadyH.cons (by rfl) (fun K hK => ?_) AllReadyH.nil; rw [if_pos (by kernel_rfl)]; simp only [List.getElem_toArray, List.getElem_cons_succ, List.getElem_cons_zero]
          go_wp2_with fail
          have hb := set3_below HBA.out (Nat.le_refl _) (.int .i64 0) (.int .i64 0) (.bool false)
          refine hK.out _ _ (HSS8.out _ hb) (fun hHeld => ?_)
          clear hK K
          (try simp only [Act.put, List.getElem_toArray, List.getElem_cons_succ, List.getElem_cons_zero, List.setIfInBounds_toArray, List.set_cons_zero, List.set_cons_succ])
          refine wpAnyH_take (i := 11) (v := ?_) (by rfl) (by kernel_rfl) (by kernel_rfl) (by kernel_rfl) (fun _ _ _ h => h) (Or.inl ⟨by kernel_rfl, ?_⟩) (by assumption) ?_; rotate_left 1; (focus (intro w hSw; (try dsimp only at hSw); simp only [List.getElem_toArray, List.getElem_cons_succ, List.getElem_cons_zero]; all_goals go_simp; all_goals (try with_reducible rfl))); (try simp only [Act.put, List.getElem_toArray, List.getElem_cons_succ, List.getElem_cons_zero, List.setIfInBounds_toArray, List.set_cons_zero, List.set_cons_succ])
          refine wpAnyH_done (by kernel_rfl) ?_ _
          refine NoPanic.normal ?_
          go_wp2_with fail
          go_meet
          exact ⟨_, rfl, rfl, H8.out.step hb, HK8.out.below hb⟩
      case rest =>
        obtain ⟨bx, rfl, rfl, hs, hk⟩ := hcut
        have HC := Lib.hid hs
        have HKC := Lib.hid hk
        have hsl : slot < 16 := by omega
        have s0' : (slot : Int) < 16 := by omega
        have HSC : Hid (∀ w', Below wc.heap.size wc w' → World.cell? w' ⟨S, 0, none⟩ = some (.pointer (some ⟨a.P, 0, none⟩))) := Lib.hid (fun w' hb => (HC.out.step hb).st.s0)
        clear hs hk
        go_wp2_with fail
        refine wp_region_noPanic ?_
        refine wp_region_held_drew (S := fun w' => World.cell? w' ⟨S, 0, none⟩ = some (.pointer (some ⟨a.P, 0, none⟩))) (by kernel_rfl) (HSC.out _ (Below.refl wc.heap.size wc).drew) (fun hHeld => ?_)
        refine wpAnyH_take (i := 0) (v := ?_) (by rfl) (by kernel_rfl) (by kernel_rfl) (by kernel_rfl) (fun _ _ _ h => h) (Or.inl ⟨by kernel_rfl, ?_⟩) (by assumption) ?_; rotate_left 1; (focus (intro w hSw; (try dsimp only at hSw); simp only [List.getElem_toArray, List.getElem_cons_succ, List.getElem_cons_zero]; all_goals go_simp; all_goals (try with_reducible rfl))); (try simp only [Act.put, List.getElem_toArray, List.getElem_cons_succ, List.getElem_cons_zero, List.setIfInBounds_toArray, List.set_cons_zero, List.set_cons_succ])
        refine wpAnyH_take (i := 1) (v := ?_) (by rfl) (by kernel_rfl) (by kernel_rfl) (by kernel_rfl) (fun _ _ _ h => h) (Or.inl ⟨by kernel_rfl, ?_⟩) (by assumption) ?_; rotate_left 1; (focus (intro w hSw; (try dsimp only at hSw); simp only [List.getElem_toArray, List.getElem_cons_succ, List.getElem_cons_zero]; all_goals go_simp; all_goals (try with_reducible rfl))); (try simp only [Act.put, List.getElem_toArray, List.getElem_cons_succ, List.getElem_cons_zero, List.setIfInBounds_toArray, List.set_cons_zero, List.set_cons_succ])
        refine wpAnyH_take (i := 2) (v := ?_) (by rfl) (by kernel_rfl) (by kernel_rfl) (by kernel_rfl) (fun _ _ _ h => h) (Or.inl ⟨by kernel_rfl, ?_⟩) (by assumption) ?_; rotate_left 1; (focus (intro w hSw; (try dsimp only at hSw); simp only [List.getElem_toArray, List.getElem_cons_succ, List.getElem_cons_zero]; all_goals go_simp; all_goals (try with_reducible rfl))); (try simp only [Act.put, List.getElem_toArray, List.getElem_cons_succ, List.getElem_cons_zero, List.setIfInBounds_toArray, List.set_cons_zero, List.set_cons_succ])
        refine wpAnyH_take (i := 3) (v := ?_) (by rfl) (by kernel_rfl) (by kernel_rfl) (by kernel_rfl) (fun _ _ _ h => h) (Or.inl ⟨by kernel_rfl, ?_⟩) (by assumption) ?_; rotate_left 1; (focus (intro w hSw; (try dsimp only at hSw); simp only [List.getElem_toArray, List.getElem_cons_succ, List.getElem_cons_zero]; all_goals go_simp; all_goals (try with_reducible rfl))); (try simp only [Act.put, List.getElem_toArray, List.getElem_cons_succ, List.getElem_cons_zero, List.setIfInBounds_toArray, List.set_cons_zero, List.set_cons_succ])
        refine wpAnyH_take (i := 4) (v := ?_) (by rfl) (by kernel_rfl) (by kernel_rfl) (by kernel_rfl) (fun _ _ _ h => h) (Or.inl ⟨by kernel_rfl, ?_⟩) (by assumption) ?_; rotate_left 1; (focus (intro w hSw; (try dsimp only at hSw); simp only [List.getElem_toArray, List.getElem_cons_succ, List.getElem_cons_zero]; all_goals go_simp; all_goals (try with_reducible rfl))); (try simp only [Act.put, List.getElem_toArray, List.getElem_cons_succ, List.getElem_cons_zero, List.setIfInBounds_toArray, List.set_cons_zero, List.set_cons_succ])
        refine wpAnyH_take (i := 5) (v := ?_) (by rfl) (by kernel_rfl) (by kernel_rfl) (by kernel_rfl) (fun _ _ _ h => h) (Or.inl ⟨by kernel_rfl, ?_⟩) (by assumption) ?_; rotate_left 1; (focus (intro w hSw; (try dsimp only at hSw); simp only [List.getElem_toArray, List.getElem_cons_succ, List.getElem_cons_zero]; all_goals go_simp; all_goals (try with_reducible rfl))); (try simp only [Act.put, List.getElem_toArray, List.getElem_cons_succ, List.getElem_cons_zero, List.setIfInBounds_toArray, List.set_cons_zero, List.set_cons_succ])
        refine wpAnyH_ready (rs := [6]) (by kernel_rfl) (by simp) ?_; refine AllReadyH.cons (by rfl) (fun K hK => ?_) AllReadyH.nil; rw [if_pos (by kernel_rfl)]; simp only [List.getElem_toArray, List.getElem_cons_succ, List.getElem_cons_zero]
        go_wp2_with (first
          | (go_at_call 36; (with_reducible refine (snodekey_in 0 0 0 (Lib.hid rfl) (by decide) (by decide) HAN.out HTA 0 (Lib.hid rfl) _ (HC.out.step (Below.refl wc.heap.size wc).drew).st).mono ?_); rintro e w5 ⟨rfl, hb⟩; have H5 := Lib.hid ((HC.out.step (Below.refl wc.heap.size wc).drew).step hb); have HK5 := Lib.hid ((HKC.out.below (Below.refl wc.heap.size wc).drew).below hb); clear hb))
        refine hK.out _ _ H5.out.st.s0 (fun hHeld => ?_)
        clear hK K
        (try simp only [Act.put, List.getElem_toArray, List.getElem_cons_succ, List.getElem_cons_zero, List.setIfInBounds_toArray, List.set_cons_zero, List.set_cons_succ])
        refine wpAnyH_ready (rs := [7]) (by kernel_rfl) (by simp) ?_; refine AllReadyH.cons (by rfl) (fun K hK => ?_) AllReadyH.nil; rw [if_pos (by kernel_rfl)]; simp only [List.getElem_toArray, List.getElem_cons_succ, List.getElem_cons_zero]
        go_wp2_with (first
          | (go_at_call 43; (with_reducible refine (nset_at vs vr 0 slot 0 slot (Lib.hid rfl) (Lib.hid rfl) HAN.out hsl HTA 2 0 0 0 0 (Lib.hid (by decide)) _ (HE.out.below H5.out.bel) H5.out.st.nd (Lib.hid HALL.out.one)).mono ?_); rintro e w6 ⟨rfl, hM, hb⟩; have H6 := Lib.hid (H5.out.node hM hb); have HK6 := Lib.hid (HK5.out.pbelow hb (by have := HLo.out.n; have := HKN.out; omega) (by have := HLo.out.n; have := HKN.out; omega)); have q0 := HK6.out.c0; have q1 := HK6.out.c1; have q2 := HK6.out.c2; have q3 := HK6.out.c3; have q4 := HK6.out.c4; clear hM hb))
        refine hK.out _ _ H6.out.st.s0 (fun hHeld => ?_)
        clear hK K
        (try simp only [Act.put, List.getElem_toArray, List.getElem_cons_succ, List.getElem_cons_zero, List.setIfInBounds_toArray, List.set_cons_zero, List.set_cons_succ])
        refine wpAnyH_done (by kernel_rfl) ?_ _
        refine NoPanic.normal ?_
        have HWb : Hid (Way a b (upd (fun _ => false) 0 true) (fun _ => 0) (updV W 0 (slot * 5) (k5 2 0 0 0 0)) (fun _ => false) (fun _ => 0) 2 0 0 0 h 5 ((slot : Int) * ((n : Int) / 16) % 4294967296) false [0] 0 0 false 2) := Lib.hid (way_at h 0 slot 0 2 0 0 0 0 rfl h1 h4 (by rw [← HP.out]; exact way_mul slot p n HNp.out (by omega) hp5) (by omega) rfl HAN.out HTA.out rfl hsl (by rw [← HP.out]; omega) (updV_key W 0 slot 2 0 0 0 0) (.fault _ _ _ 2 (by decide) ⟨rfl, rfl⟩ rfl (by simp [entP, szB]) rfl))
        go_wp2_with (first
          | (go_at_call 44; (with_reducible refine (pWalk_is 2 0 0 0 h _ [0] 0 0 false 2 HWb _ H6.out.st).mono ?_); rintro e w9 ⟨rfl, hb⟩; have H9 := Lib.hid (H6.out.step hb); clear hb))
        go_ret
        exact ⟨by simp, H9.out.bel.alloc H9.out.bel.size _⟩
theorem walk_PathLoops (a0 : Int) (a1 : Int) (a2 : Int) (w : World) (w0 : (Lit.int .i64 a0).wf = true) (w1 : (Lit.int .i64 a1).wf = true) (w2 : (Lit.int .u32 a2).wf = true) (hL : laidMetH Tryd.prog Rows.pathLoopsRow.laid w) :
    Calls Tryd.prog 8 #[.int .i64 a0, .int .i64 a1, .int .u32 a2] w fun e w' => e = .returned (.bool true) ∧ Below w.heap.size w w' := by
  obtain ⟨vs, vr, hE⟩ := (errs2 hL ⟨_, by repeat (first | exact List.Mem.head _ | apply List.Mem.tail)⟩ ⟨_, by repeat (first | exact List.Mem.head _ | apply List.Mem.tail)⟩)
  exact loops_walk a0 a1 a2 (fit32 w2).1 (fit32 w2).2 w vs vr hE
end Go.Proofs.YtkhgnmgcdgjncaaDoor
