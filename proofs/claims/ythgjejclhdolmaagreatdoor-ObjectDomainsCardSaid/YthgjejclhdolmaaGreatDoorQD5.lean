/-
  Yy, Si, Ke, Om, On, Kf, Yz, Kg, Zf: what ObjectDomains reaches of them.
-/
import Derived.Test.YthgjejclhdolmaaGreatDoorQD4
namespace Go.Proofs.YthgjejclhdolmaaGreatDoor
open Go.ChangeShapes Go.WideShapes Go.ChangeAt Go.RowKit
set_option linter.unusedVariables false
set_option linter.unusedSimpArgs false
section
variable {cs nt : List Value} {s d N N2 : Nat} {k0 k1 k2 k3 k4 o x : Int} {Q : World → Prop}
set_option maxRecDepth 100000 in
set_option maxHeartbeats 1000000 in
theorem cput_two (hnl : nt.length = 19) (hn1 : ∀ v, v ∈ nt → v.oneCell' = true) (hc : Hid (CallC cs s k0 k1 k2 k3 k4 o x)) (f : Nat → Value) (hf : Hid (∀ j, j < 107 → (f j).oneCell' = true)) (ev : Value) (w : World) (hN : N ≤ w.heap.size) (hN2 : N2 ≤ w.heap.size)
    (hs : w.cell? ⟨s, 1, none⟩ = some (.pointer (some ⟨d, 0, none⟩)))
    (hQ : ∀ w1 w2, Q w1 → Below N2 w1 w2 → Q w2) (hQc : ∀ W, Q W → W.cell? ⟨s, 1, none⟩ = some (.pointer (some ⟨d, 0, none⟩)))
    (hP : ∀ W, Below w.heap.size w W → Calls Tryz.prog 162 #[.pointer (some ⟨d, 0, none⟩), .int .i64 k1, .agg (rowL f).toArray] W fun e w' => e = .returned ev ∧ Q w' ∧ UpT N W w')
    (hT : ∀ W, Q W → Calls Tryz.prog 76 #[(Value.agg #[.int .u32 0, .int .u32 0, .int .u32 0, .int .u32 0, .int .i64 0, .int .i64 0, .int .i64 0, .int .i64 0, .int .u32 0, .int .i64 0, .int .i64 0, .int .i64 0, .int .i64 0, .int .u32 0, .int .i64 0, .int .i64 0, .int .i64 0, .int .i64 0, .int .u32 0]), ev] W fun e w' => e = .returned (.agg nt.toArray) ∧ Below W.heap.size W w') :
    Calls Tryz.prog 127 #[(.agg cs.toArray), .agg (rowL f).toArray] w fun e w' => e = .returned (.agg nt.toArray) ∧ Q w' ∧ UpT N w w' := by
  have HPt := Lib.hid hP
  have HTo := Lib.hid hT
  have HQ := Lib.hid hQ
  have HQc := Lib.hid hQc
  have HL := Lib.hid (⟨cell_lt hs, hs⟩ : s < w.heap.size ∧ w.cell? ⟨s, 1, none⟩ = some (.pointer (some ⟨d, 0, none⟩)))
  have hsz : nt.toArray.size = 19 := by simp [hnl]
  clear hP hT hs hQ hQc
  go_enter Tryz.func127, Tryz.ntmps127; go_upto_region 1 with fail; generalize hA : World.alloc w _ = wK; obtain ⟨C, hC⟩ : ∃ C, C = w.heap.size := ⟨_, rfl⟩; have HK : Hid (Below w.heap.size w wK ∧ wK.rangeAt C 0 cs ∧ wK.heap.size = C + 1) := Lib.hid (by rw [← hA, hC]; exact ⟨(Below.refl _ _).alloc (Nat.le_refl _) _, cbox _ _ _, by simp⟩); have HCl : Hid (w.heap.size ≤ C) := Lib.hid (by rw [hC]; exact Nat.le_refl _); rw [← hC]; clear hA hC; generalize hA : World.alloc wK _ = wX; obtain ⟨J, hJ⟩ : ∃ J, J = C + 1 := ⟨_, rfl⟩; have HX : Hid (Below w.heap.size w wX ∧ wX.rangeAt C 0 cs ∧ wX.rangeAt J 0 (rowL f) ∧ C < J ∧ wX.heap.size = J + 1) := Lib.hid (by rw [← hA, hJ, ← HK.out.2.2]; exact ⟨HK.out.1.alloc HK.out.1.size _, range_below HK.out.2.1 ((Below.refl _ _).alloc (Nat.le_refl _) _) (by have := HK.out.2.2; omega), (fun j v hv => by simp; simpa using hv), by have := HK.out.2.2; omega, by simp⟩); have HZ : Hid (∀ i, wX.frozen? ⟨J, i, none⟩ = false) := Lib.hid (by intro i; rw [← hA, hJ, ← HK.out.2.2]; simp); rw [show C + 1 = J from hJ.symm]; clear hA hJ; generalize hA : World.alloc wX _ = wA; have HFz : Hid (∀ i, wA.frozen? ⟨J, i, none⟩ = false) := Lib.hid (by intro i; rw [← hA]; exact (World.frozen?_of_block (a := ⟨J, i, none⟩) (((Below.refl _ _).alloc (Nat.le_refl _) _ : Below wX.heap.size wX _).block J (by have := HX.out.2.2.2; omega))).trans (HZ.out i)); obtain ⟨R, hR⟩ : ∃ R, R = J + 1 := ⟨_, rfl⟩; have HA : Hid (Below w.heap.size w wA ∧ wA.rangeAt C 0 cs ∧ wA.rangeAt J 0 (rowL f) ∧ World.there wA R 0 19 ∧ C < J ∧ J < R ∧ R < wA.heap.size) := Lib.hid (by rw [← hA, hR, ← HX.out.2.2.2.2]; exact ⟨HX.out.1.alloc HX.out.1.size _, range_below HX.out.2.1 ((Below.refl _ _).alloc (Nat.le_refl _) _) (by have := HX.out.2.2.2; omega), range_below HX.out.2.2.1 ((Below.refl _ _).alloc (Nat.le_refl _) _) (by have := HX.out.2.2.2; omega), nthere_new _ _ 19 (by rfl) _, HX.out.2.2.2.1, by have := HX.out.2.2.2; omega, by simp⟩); rw [← hR]; clear hA hR
  have HSr : Hid (∀ W, W.rangeAt C 0 cs → W.rangeAt J 0 (rowL f) → W.cell? ⟨s, 1, none⟩ = some (.pointer (some ⟨d, 0, none⟩)) → (World.cell? W ⟨C, 0, none⟩ = some (.pointer (some ⟨s, 0, none⟩)) ∧ World.cell? W ⟨s, 1, none⟩ = some (.pointer (some ⟨d, 0, none⟩)) ∧ World.cell? W ⟨C, 2, none⟩ = some (.int .i64 k1) ∧ World.rangeAt W J 0 (rowL f) ∧ World.rangeAt W C 0 cs)) := Lib.hid (fun W hr hj h1 => ⟨CallC.cell hr 0 _ hc.out.c0, h1, CallC.cell hr 2 _ hc.out.c2, hj, hr⟩)
  have HSC : Hid (∀ W, Below wA.heap.size wA W → (World.cell? W ⟨C, 0, none⟩ = some (.pointer (some ⟨s, 0, none⟩)) ∧ World.cell? W ⟨s, 1, none⟩ = some (.pointer (some ⟨d, 0, none⟩)) ∧ World.cell? W ⟨C, 2, none⟩ = some (.int .i64 k1) ∧ World.rangeAt W J 0 (rowL f) ∧ World.rangeAt W C 0 cs)) := Lib.hid (fun W hW => by
    have hz := HA.out.2.2.2.2
    have hb := HA.out.1.trans (hW.mono HA.out.1.size)
    exact HSr.out W (range_below HA.out.2.1 hW (by omega)) (range_below HA.out.2.2.1 hW (by omega)) ((hb.cell (p := ⟨s, 1, none⟩) HL.out.1).trans HL.out.2))
  have HCs : Hid (C < wA.heap.size ∧ N ≤ C ∧ N ≤ J ∧ J < wA.heap.size ∧ N ≤ R ∧ R < wA.heap.size ∧ N ≤ wA.heap.size ∧ N2 ≤ wA.heap.size) := Lib.hid (by have := HA.out.2.2.2.2; have := HCl.out; omega)
  obtain ⟨wD, hwD⟩ : ∃ wD, wD = wA.drew := ⟨_, rfl⟩
  have HBd : Hid (Below wA.heap.size wA wD) := Lib.hid (by rw [hwD]; exact (Below.refl _ _).drew)
  refine wp_region_noPanic ?_
  refine wp_region_held_drew (S := fun W => (World.cell? W ⟨C, 0, none⟩ = some (.pointer (some ⟨s, 0, none⟩)) ∧ World.cell? W ⟨s, 1, none⟩ = some (.pointer (some ⟨d, 0, none⟩)) ∧ World.cell? W ⟨C, 2, none⟩ = some (.int .i64 k1) ∧ World.rangeAt W J 0 (rowL f) ∧ World.rangeAt W C 0 cs)) (by kernel_rfl) (by rw [← hwD]; exact HSC.out _ HBd.out) (fun hHeld => ?_)
  rw [← hwD] at hHeld ⊢
  clear hwD
  refine wpAnyH_take (i := 1) (v := ?_) (by rfl) (by kernel_rfl) (by kernel_rfl) (by kernel_rfl) (fun _ _ _ h => h) (Or.inl ⟨by kernel_rfl, ?_⟩) (by assumption) ?_; rotate_left 1; (focus (intro w hSw; (try dsimp only at hSw); simp only [List.getElem_toArray, List.getElem_cons_succ, List.getElem_cons_zero]; all_goals go_simp; all_goals (try with_reducible rfl))); (try simp only [Act.put, List.getElem_toArray, List.getElem_cons_succ, List.getElem_cons_zero, List.setIfInBounds_toArray, List.set_cons_zero, List.set_cons_succ])
  refine wpAnyH_take (i := 2) (v := ?_) (by rfl) (by kernel_rfl) (by kernel_rfl) (by kernel_rfl) (fun _ _ _ h => h) (Or.inl ⟨by kernel_rfl, ?_⟩) (by assumption) ?_; rotate_left 1; (focus (intro w hSw; (try dsimp only at hSw); simp only [List.getElem_toArray, List.getElem_cons_succ, List.getElem_cons_zero]; all_goals go_simp; all_goals (try with_reducible rfl))); (try simp only [Act.put, List.getElem_toArray, List.getElem_cons_succ, List.getElem_cons_zero, List.setIfInBounds_toArray, List.set_cons_zero, List.set_cons_succ])
  refine wpAnyH_take (i := 3) (v := ?_) (by rfl) (by kernel_rfl) (by kernel_rfl) (by kernel_rfl) (fun _ _ _ h => h) (Or.inl ⟨by kernel_rfl, ?_⟩) (by assumption) ?_; rotate_left 1; (focus (intro w hSw; (try dsimp only at hSw); simp only [List.getElem_toArray, List.getElem_cons_succ, List.getElem_cons_zero]; all_goals go_simp; all_goals (try with_reducible rfl))); (try simp only [Act.put, List.getElem_toArray, List.getElem_cons_succ, List.getElem_cons_zero, List.setIfInBounds_toArray, List.set_cons_zero, List.set_cons_succ])
  refine wpAnyH_take (i := 4) (v := ?_) (by rfl) (by kernel_rfl) (by kernel_rfl) (by kernel_rfl) (fun _ _ _ h => h) (Or.inl ⟨by kernel_rfl, ?_⟩) (by assumption) ?_; rotate_left 1; (focus (intro w hSw; (try dsimp only at hSw); simp only [List.getElem_toArray, List.getElem_cons_succ, List.getElem_cons_zero]; all_goals go_simp; all_goals (try with_reducible rfl))); (try simp only [Act.put, List.getElem_toArray, List.getElem_cons_succ, List.getElem_cons_zero, List.setIfInBounds_toArray, List.set_cons_zero, List.set_cons_succ])
  refine wpAnyH_take (i := 5) (v := ?_) (by rfl) (by kernel_rfl) (by kernel_rfl) (by kernel_rfl) (fun _ _ _ h => h) (Or.inl ⟨by kernel_rfl, ?_⟩) (by assumption) ?_; rotate_left 1; (focus (intro w hSw; (try dsimp only at hSw); simp only [List.getElem_toArray, List.getElem_cons_succ, List.getElem_cons_zero]; all_goals go_simp; all_goals (try with_reducible rfl))); (try simp only [Act.put, List.getElem_toArray, List.getElem_cons_succ, List.getElem_cons_zero, List.setIfInBounds_toArray, List.set_cons_zero, List.set_cons_succ])
  refine wpAnyH_take (i := 6) (v := ?_) (by rfl) (by kernel_rfl) (by kernel_rfl) (by kernel_rfl) (fun _ _ _ h => h) (Or.inl ⟨by kernel_rfl, ?_⟩) (by assumption) ?_; rotate_left 1; (focus (intro w hSw; (try dsimp only at hSw); simp only [List.getElem_toArray, List.getElem_cons_succ, List.getElem_cons_zero]; all_goals go_simp; all_goals (try with_reducible rfl))); (try simp only [Act.put, List.getElem_toArray, List.getElem_cons_succ, List.getElem_cons_zero, List.setIfInBounds_toArray, List.set_cons_zero, List.set_cons_succ])
  refine wpAnyH_take (i := 7) (v := ?_) (by rfl) (by kernel_rfl) (by kernel_rfl) (by kernel_rfl) (fun _ _ _ h => h) (Or.inl ⟨by kernel_rfl, ?_⟩) (by assumption) ?_; rotate_left 1; (focus (intro w hSw; (try dsimp only at hSw); simp only [List.getElem_toArray, List.getElem_cons_succ, List.getElem_cons_zero]; all_goals go_simp; all_goals (try with_reducible rfl))); (try simp only [Act.put, List.getElem_toArray, List.getElem_cons_succ, List.getElem_cons_zero, List.setIfInBounds_toArray, List.set_cons_zero, List.set_cons_succ])
  refine wpAnyH_take (i := 8) (v := ?_) (by rfl) (by kernel_rfl) (by kernel_rfl) (by kernel_rfl) (fun _ _ _ h => h) (Or.inl ⟨by kernel_rfl, ?_⟩) (by assumption) ?_; rotate_left 1; (focus (intro w hSw; (try dsimp only at hSw); simp only [List.getElem_toArray, List.getElem_cons_succ, List.getElem_cons_zero]; all_goals go_simp; all_goals (try with_reducible rfl))); (try simp only [Act.put, List.getElem_toArray, List.getElem_cons_succ, List.getElem_cons_zero, List.setIfInBounds_toArray, List.set_cons_zero, List.set_cons_succ])
  refine wpAnyH_take (i := 9) (v := .agg (rowL f).toArray) (by rfl) (by kernel_rfl) (by kernel_rfl) (by kernel_rfl) (fun _ _ _ h => h) (yieldsIf_load_mid (by kernel_rfl) 128 (.tmp 3) (by rfl) J 0 (by rfl) (rowL f) _ (fun w h => h.2.2.2.1) Tryz.underlying128 rfl (by rw [rowL_len]; exact infoDomS)) (by assumption) ?_
  (try simp only [Act.put, List.getElem_toArray, List.getElem_cons_succ, List.getElem_cons_zero, List.setIfInBounds_toArray, List.set_cons_zero, List.set_cons_succ])
  refine wpAnyH_ready (rs := [0]) (by kernel_rfl) (by simp) ?_; refine AllReadyH.cons (by rfl) (fun K hK => ?_) AllReadyH.nil; rw [if_pos (by kernel_rfl)]; simp only [List.getElem_toArray, List.getElem_cons_succ, List.getElem_cons_zero]
  go_wp2_with (first | (go_at_call 73; (with_reducible refine (owords_none _).mono ?_); rintro e w2 ⟨rfl, hb⟩; have HB2 := Lib.hid (HBd.out.trans (hb.mono HBd.out.size)); clear hb))
  refine hK.out _ _ (HSC.out _ HB2.out) (fun hHeld => ?_)
  clear hK K
  (try simp only [Act.put, List.getElem_toArray, List.getElem_cons_succ, List.getElem_cons_zero, List.setIfInBounds_toArray, List.set_cons_zero, List.set_cons_succ])
  refine wpAnyH_ready (rs := [10]) (by kernel_rfl) (by simp) ?_; refine AllReadyH.cons (by rfl) (fun K hK => ?_) AllReadyH.nil; rw [if_pos (by kernel_rfl)]; simp only [List.getElem_toArray, List.getElem_cons_succ, List.getElem_cons_zero]
  go_wp2_with (first | (go_at_call 162; (with_reducible refine (HPt.out _ (HA.out.1.trans (HB2.out.mono HA.out.1.size))).mono ?_); rintro e w4 ⟨rfl, hq, hu⟩; have H4 : Hid (Q w4 ∧ UpT N wA w4) := Lib.hid ⟨hq, (UpT.below HB2.out).trans hu⟩; clear hq hu))
  have HR4 : Hid (w4.rangeAt C 0 cs ∧ w4.rangeAt J 0 (rowL f) ∧ World.there w4 R 0 19) := Lib.hid ⟨range_same HA.out.2.1 (H4.out.2.2 C HCs.out.2.1 HCs.out.1), range_same HA.out.2.2.1 (H4.out.2.2 J HCs.out.2.2.1 HCs.out.2.2.2.1), nthere_same HA.out.2.2.2.1 (H4.out.2.2 R HCs.out.2.2.2.2.1 HCs.out.2.2.2.2.2.1)⟩
  refine hK.out _ _ (HSr.out _ HR4.out.1 HR4.out.2.1 (HQc.out _ H4.out.1)) (fun hHeld => ?_)
  clear hK K
  (try simp only [Act.put, List.getElem_toArray, List.getElem_cons_succ, List.getElem_cons_zero, List.setIfInBounds_toArray, List.set_cons_zero, List.set_cons_succ])
  refine wpAnyH_ready (rs := [11]) (by kernel_rfl) (by simp) ?_; refine AllReadyH.cons (by rfl) (fun K hK => ?_) AllReadyH.nil; rw [if_pos (by kernel_rfl)]; simp only [List.getElem_toArray, List.getElem_cons_succ, List.getElem_cons_zero]
  go_wp2_with (first | (go_at_call 76; (with_reducible refine (HTo.out _ H4.out.1).mono ?_); rintro e w5 ⟨rfl, hb⟩; have H5 : Hid (Q w5 ∧ UpT N wA w5 ∧ w5.rangeAt C 0 cs ∧ w5.rangeAt J 0 (rowL f) ∧ World.there w5 R 0 19) := Lib.hid ⟨HQ.out _ _ H4.out.1 (hb.mono (Nat.le_trans HCs.out.2.2.2.2.2.2.2 H4.out.2.1)), H4.out.2.trans (UpT.below hb), range_below HR4.out.1 hb (Nat.lt_of_lt_of_le HCs.out.1 H4.out.2.1), range_below HR4.out.2.1 hb (Nat.lt_of_lt_of_le HCs.out.2.2.2.1 H4.out.2.1), nthere_below HR4.out.2.2 hb (Nat.lt_of_lt_of_le HCs.out.2.2.2.2.2.1 H4.out.2.1)⟩; clear hb))
  refine hK.out _ _ (HSr.out _ H5.out.2.2.1 H5.out.2.2.2.1 (HQc.out _ H5.out.1)) (fun hHeld => ?_)
  clear hK K
  (try simp only [Act.put, List.getElem_toArray, List.getElem_cons_succ, List.getElem_cons_zero, List.setIfInBounds_toArray, List.set_cons_zero, List.set_cons_succ])
  refine wpAnyH_ready (rs := [12]) (by kernel_rfl) (by simp) ?_; refine AllReadyH.cons (by rfl) (fun K hK => ?_) AllReadyH.nil; rw [if_pos (by kernel_rfl)]; simp only [List.getElem_toArray, List.getElem_cons_succ, List.getElem_cons_zero]
  refine wp_store_mid 49 (Operand.tmp 4) (Operand.tmp 16) (by rfl) R 0 nt.toArray (by rfl) (by rfl) (by rw [hsz]; exact H5.out.2.2.2.2) (by rw [hsz]; exact infoNote) (all_one hn1) ?_
  have hRn : w.heap.size ≤ R := by have := HA.out.2.2.2.2; have := HCl.out; omega
  have HCR : C ≠ R := by have := HA.out.2.2.2.2; omega
  have HJR : J ≠ R := by have := HA.out.2.2.2.2; omega
  generalize hS : World.setCells w5 _ _ _ = wS
  have HS : Hid (Below w.heap.size w5 wS ∧ wS.rangeAt R 0 nt ∧ wS.rangeAt C 0 cs ∧ wS.rangeAt J 0 (rowL f)) := Lib.hid (by rw [← hS]; exact ⟨nbelow_cells (Below.refl _ _) hRn _ _, World.rangeAt_setCells_same w5 R 0 nt (by rw [hnl]; exact H5.out.2.2.2.2), World.rangeAt_setCells_apart H5.out.2.2.1 R 0 _ (.inl HCR), World.rangeAt_setCells_apart H5.out.2.2.2.1 R 0 _ (.inl HJR)⟩)
  clear hS
  have HQS := Lib.hid (HQ.out _ _ H5.out.1 (HS.out.1.mono hN2))
  refine hK.out _ _ (HSr.out _ HS.out.2.2.1 HS.out.2.2.2 (HQc.out _ HQS.out)) (fun hHeld => ?_)
  clear hK K
  (try simp only [Act.put, List.getElem_toArray, List.getElem_cons_succ, List.getElem_cons_zero, List.setIfInBounds_toArray, List.set_cons_zero, List.set_cons_succ])
  refine wpAnyH_done (by kernel_rfl) ?_ _
  refine NoPanic.normal ?_
  go_wp2_with fail
  have hld := nload hnl HS.out.2.1
  refine bodyPost_ret (v := (.agg nt.toArray)) (by simp [results, Tryz.results127, Act.put, asAddr, hld]) rfl ⟨rfl, HQS.out, ((UpT.below HA.out.1).trans H5.out.2.1).low HS.out.1 (Nat.le_refl _)⟩
end
section
variable {cs nt : List Value} {s d q N : Nat} {k0 k1 k2 k3 k4 o x : Int} {Q Q1 : Nat → Nat → World → Prop}
set_option maxRecDepth 100000 in
set_option maxHeartbeats 1000000 in
theorem cstart_q (hc : Hid (CallC cs s k0 k1 k2 k3 k4 7 x)) (hnl : nt.length = 19) (hn1 : ∀ v, v ∈ nt → v.oneCell' = true) (f : Nat → Value) (hf : Hid (∀ j, j < 107 → (f j).oneCell' = true)) (ev : Value) (w : World) (hN : N ≤ w.heap.size) (hs : (w.cell? ⟨s, 1, none⟩ = some (.pointer (some ⟨d, 0, none⟩)) ∧ w.cell? ⟨s, 5, none⟩ = some (.pointer (some ⟨q, 0, none⟩)))) (hQ : QF N Q) (hQc : ∀ M T W, Q M T W → (W.cell? ⟨s, 1, none⟩ = some (.pointer (some ⟨d, 0, none⟩)) ∧ W.cell? ⟨s, 5, none⟩ = some (.pointer (some ⟨q, 0, none⟩)))) (hQ1 : QF N Q1) (hQ1c : ∀ M T W, Q1 M T W → (W.cell? ⟨s, 1, none⟩ = some (.pointer (some ⟨d, 0, none⟩)) ∧ W.cell? ⟨s, 5, none⟩ = some (.pointer (some ⟨q, 0, none⟩)))) (hP : ∀ M T W, Q1 M T W → N ≤ T → T ≤ W.heap.size → Calls Tryz.prog 162 #[.pointer (some ⟨d, 0, none⟩), .int .i64 k1, .agg (rowL (uF (uF f 9 (.int .i64 3)) 10 (.int .i64 0))).toArray] W fun e w' => e = .returned ev ∧ Q M T w' ∧ UpT N W w') (hT : ∀ M T W, Q M T W → Calls Tryz.prog 76 #[(Value.agg #[.int .u32 0, .int .u32 0, .int .u32 0, .int .u32 0, .int .i64 0, .int .i64 0, .int .i64 0, .int .i64 0, .int .u32 0, .int .i64 0, .int .i64 0, .int .i64 0, .int .i64 0, .int .u32 0, .int .i64 0, .int .i64 0, .int .i64 0, .int .i64 0, .int .u32 0]), ev] W fun e w' => e = .returned (.agg nt.toArray) ∧ Below W.heap.size W w') (h9 : Hid (f 9 = .int .i64 1))
    (hR : ∀ W, Below w.heap.size w W → Calls Tryz.prog 128 #[.pointer (some ⟨q, 0, none⟩), .slice (some ⟨W.heap.size, 0, none⟩) 1 1] (W.alloc (.cells #[.int .i64 k1] 3)) fun e w' => (∃ rv, e = .returned rv) ∧ Q1 W.heap.size w'.heap.size w' ∧ UpT N W w') : Calls Tryz.prog 87 #[(.agg cs.toArray), .agg (rowL f).toArray] w fun e w' => e = .returned (.agg nt.toArray) ∧ Q w.heap.size w'.heap.size w' ∧ UpT N w w' := by
  have HRq := Lib.hid hR
  clear hR
  have HF1 : Hid (∀ j, j < 107 → (uF (uF f 9 (.int .i64 3)) 10 (.int .i64 0) j).oneCell' = true) := Lib.hid (uF_one (uF_one hf.out 9 _ rfl) 10 _ rfl)
  have HPt := Lib.hid hP; have HTo := Lib.hid hT; have HQ := Lib.hid hQ; have HQc := Lib.hid (fun M T W h => (hQc M T W h).1); have HQ1 := Lib.hid hQ1; have HQ1c := Lib.hid hQ1c; have HL := Lib.hid (⟨cell_lt hs.1, hs⟩ : s < w.heap.size ∧ (w.cell? ⟨s, 1, none⟩ = some (.pointer (some ⟨d, 0, none⟩)) ∧ w.cell? ⟨s, 5, none⟩ = some (.pointer (some ⟨q, 0, none⟩)))); have hsz : nt.toArray.size = 19 := (by simp [hnl]); clear hP hT hs hQ hQc hQ1 hQ1c; go_enter Tryz.func87, Tryz.ntmps87; go_upto_region 1 with fail; generalize hA : World.alloc w _ = wK; obtain ⟨C, hC⟩ : ∃ C, C = w.heap.size := ⟨_, rfl⟩; have HK : Hid (Below w.heap.size w wK ∧ wK.rangeAt C 0 cs ∧ wK.heap.size = C + 1) := Lib.hid (by rw [← hA, hC]; exact ⟨(Below.refl _ _).alloc (Nat.le_refl _) _, cbox _ _ _, by simp⟩); have HCl : Hid (w.heap.size ≤ C) := Lib.hid (by rw [hC]; exact Nat.le_refl _); rw [← hC]; clear hA hC; generalize hA : World.alloc wK _ = wX; obtain ⟨J, hJ⟩ : ∃ J, J = C + 1 := ⟨_, rfl⟩; have HX : Hid (Below w.heap.size w wX ∧ wX.rangeAt C 0 cs ∧ wX.rangeAt J 0 (rowL f) ∧ C < J ∧ wX.heap.size = J + 1) := Lib.hid (by rw [← hA, hJ, ← HK.out.2.2]; exact ⟨HK.out.1.alloc HK.out.1.size _, range_below HK.out.2.1 ((Below.refl _ _).alloc (Nat.le_refl _) _) (by have := HK.out.2.2; omega), (fun j v hv => by simp; simpa using hv), by have := HK.out.2.2; omega, by simp⟩); have HZ : Hid (∀ i, wX.frozen? ⟨J, i, none⟩ = false) := Lib.hid (by intro i; rw [← hA, hJ, ← HK.out.2.2]; simp); rw [show C + 1 = J from hJ.symm]; clear hA hJ; generalize hA : World.alloc wX _ = wA; have HFz : Hid (∀ i, wA.frozen? ⟨J, i, none⟩ = false) := Lib.hid (by intro i; rw [← hA]; exact (World.frozen?_of_block (a := ⟨J, i, none⟩) (((Below.refl _ _).alloc (Nat.le_refl _) _ : Below wX.heap.size wX _).block J (by have := HX.out.2.2.2; omega))).trans (HZ.out i)); obtain ⟨R, hR⟩ : ∃ R, R = J + 1 := ⟨_, rfl⟩; have HA : Hid (Below w.heap.size w wA ∧ wA.rangeAt C 0 cs ∧ wA.rangeAt J 0 (rowL f) ∧ World.there wA R 0 19 ∧ C < J ∧ J < R ∧ R < wA.heap.size) := Lib.hid (by rw [← hA, hR, ← HX.out.2.2.2.2]; exact ⟨HX.out.1.alloc HX.out.1.size _, range_below HX.out.2.1 ((Below.refl _ _).alloc (Nat.le_refl _) _) (by have := HX.out.2.2.2; omega), range_below HX.out.2.2.1 ((Below.refl _ _).alloc (Nat.le_refl _) _) (by have := HX.out.2.2.2; omega), nthere_new _ _ 19 (by rfl) _, HX.out.2.2.2.1, by have := HX.out.2.2.2; omega, by simp⟩); rw [← hR]; clear hA hR
  have j9 : wA.cell? ⟨J, 9, none⟩ = some (.int .i64 1) := by rw [rangeD HA.out.2.2.1 9 (by decide), h9.out]
  have j10 := rangeD HA.out.2.2.1 10 (by decide)
  have z9 := HFz.out 9
  have z10 := HFz.out 10
  go_upto_region 4 with fail
  generalize hw3 : World.setCell (World.setCell wA _ _) _ _ = w3
  have H3 : Hid (Below w.heap.size w w3 ∧ w3.rangeAt C 0 cs ∧ w3.rangeAt J 0 (rowL (uF (uF f 9 (.int .i64 3)) 10 (.int .i64 0))) ∧ World.there w3 R 0 19 ∧ R < w3.heap.size) := Lib.hid (by
    have hz := HA.out.2.2.2.2
    have hcl := HCl.out
    rw [← hw3]
    exact ⟨(HA.out.1.setCell (show w.heap.size ≤ J by omega) _).setCell (show w.heap.size ≤ J by omega) _, fun j u hj => ((World.cell?_setCell_other _ _ _ _ (by simp <;> omega)).trans (World.cell?_setCell_other _ _ _ _ (by simp <;> omega))).trans (HA.out.2.1 j u hj), range_uF (range_uF HA.out.2.2.1 9 _) 10 _, nthere_same HA.out.2.2.2.1 ((Below.heap_setCell _ _ _ _ (show R ≠ J by omega)).trans (Below.heap_setCell _ _ _ _ (show R ≠ J by omega))), by simpa using hz.2.2⟩)
  clear hw3 j9 j10 z9 z10
  have HNC : Hid (N ≤ C ∧ C < w3.heap.size ∧ N ≤ J ∧ J < w3.heap.size ∧ N ≤ R ∧ R < w3.heap.size ∧ N ≤ w3.heap.size) := (Lib.hid (by have hz := HA.out.2.2.2.2; have hcl := HCl.out; have hr := H3.out.2.2.2.2; omega)); have HSC : Hid (∀ W, Below w3.heap.size w3 W → (World.cell? W ⟨C, 0, none⟩ = some (.pointer (some ⟨s, 0, none⟩)) ∧ World.cell? W ⟨s, 5, none⟩ = some (.pointer (some ⟨q, 0, none⟩)) ∧ World.cell? W ⟨C, 2, none⟩ = some (.int .i64 k1))) := (Lib.hid (fun W hW => by have hr := range_below H3.out.2.1 hW HNC.out.2.1; have hb := H3.out.1.trans (hW.mono H3.out.1.size); exact ⟨CallC.cell hr 0 _ hc.out.c0, (hb.cell (p := ⟨s, 5, none⟩) HL.out.1).trans HL.out.2.2, CallC.cell hr 2 _ hc.out.c2⟩)); obtain ⟨wD, hwD⟩ : ∃ wD, wD = w3.drew := ⟨_, rfl⟩; have HBd : Hid (Below w3.heap.size w3 wD) := (Lib.hid (by rw [hwD]; exact (Below.refl _ _).drew)); refine wp_region_noPanic ?_; refine wp_region_held_drew (S := fun W => (World.cell? W ⟨C, 0, none⟩ = some (.pointer (some ⟨s, 0, none⟩)) ∧ World.cell? W ⟨s, 5, none⟩ = some (.pointer (some ⟨q, 0, none⟩)) ∧ World.cell? W ⟨C, 2, none⟩ = some (.int .i64 k1))) (by kernel_rfl) (by rw [← hwD]; exact HSC.out _ HBd.out) (fun hHeld => ?_); rw [← hwD] at hHeld ⊢; clear hwD; refine wpAnyH_take (i := 0) (v := ?_) (by rfl) (by kernel_rfl) (by kernel_rfl) (by kernel_rfl) (fun _ _ _ h => h) (Or.inl ⟨by kernel_rfl, ?_⟩) (by assumption) ?_; rotate_left 1; (focus (intro w hSw; (try dsimp only at hSw); simp only [List.getElem_toArray, List.getElem_cons_succ, List.getElem_cons_zero]; all_goals go_simp; all_goals (try with_reducible rfl))); (try simp only [Act.put, List.getElem_toArray, List.getElem_cons_succ, List.getElem_cons_zero, List.setIfInBounds_toArray, List.set_cons_zero, List.set_cons_succ]); refine wpAnyH_take (i := 1) (v := ?_) (by rfl) (by kernel_rfl) (by kernel_rfl) (by kernel_rfl) (fun _ _ _ h => h) (Or.inl ⟨by kernel_rfl, ?_⟩) (by assumption) ?_; rotate_left 1; (focus (intro w hSw; (try dsimp only at hSw); simp only [List.getElem_toArray, List.getElem_cons_succ, List.getElem_cons_zero]; all_goals go_simp; all_goals (try with_reducible rfl))); (try simp only [Act.put, List.getElem_toArray, List.getElem_cons_succ, List.getElem_cons_zero, List.setIfInBounds_toArray, List.set_cons_zero, List.set_cons_succ]); refine wpAnyH_take (i := 2) (v := ?_) (by rfl) (by kernel_rfl) (by kernel_rfl) (by kernel_rfl) (fun _ _ _ h => h) (Or.inl ⟨by kernel_rfl, ?_⟩) (by assumption) ?_; rotate_left 1; (focus (intro w hSw; (try dsimp only at hSw); simp only [List.getElem_toArray, List.getElem_cons_succ, List.getElem_cons_zero]; all_goals go_simp; all_goals (try with_reducible rfl))); (try simp only [Act.put, List.getElem_toArray, List.getElem_cons_succ, List.getElem_cons_zero, List.setIfInBounds_toArray, List.set_cons_zero, List.set_cons_succ]); refine wpAnyH_take (i := 3) (v := ?_) (by rfl) (by kernel_rfl) (by kernel_rfl) (by kernel_rfl) (fun _ _ _ h => h) (Or.inl ⟨by kernel_rfl, ?_⟩) (by assumption) ?_; rotate_left 1; (focus (intro w hSw; (try dsimp only at hSw); simp only [List.getElem_toArray, List.getElem_cons_succ, List.getElem_cons_zero]; all_goals go_simp; all_goals (try with_reducible rfl))); (try simp only [Act.put, List.getElem_toArray, List.getElem_cons_succ, List.getElem_cons_zero, List.setIfInBounds_toArray, List.set_cons_zero, List.set_cons_succ]); refine wpAnyH_take (i := 4) (v := ?_) (by rfl) (by kernel_rfl) (by kernel_rfl) (by kernel_rfl) (fun _ _ _ h => h) (Or.inl ⟨by kernel_rfl, ?_⟩) (by assumption) ?_; rotate_left 1; (focus (intro w hSw; (try dsimp only at hSw); simp only [List.getElem_toArray, List.getElem_cons_succ, List.getElem_cons_zero]; all_goals go_simp; all_goals (try with_reducible rfl))); (try simp only [Act.put, List.getElem_toArray, List.getElem_cons_succ, List.getElem_cons_zero, List.setIfInBounds_toArray, List.set_cons_zero, List.set_cons_succ]); refine wpAnyH_take (i := 5) (v := ?_) (by rfl) (by kernel_rfl) (by kernel_rfl) (by kernel_rfl) (fun _ _ _ h => h) (Or.inl ⟨by kernel_rfl, ?_⟩) (by assumption) ?_; rotate_left 1; (focus (intro w hSw; (try dsimp only at hSw); simp only [List.getElem_toArray, List.getElem_cons_succ, List.getElem_cons_zero]; all_goals go_simp; all_goals (try with_reducible rfl))); (try simp only [Act.put, List.getElem_toArray, List.getElem_cons_succ, List.getElem_cons_zero, List.setIfInBounds_toArray, List.set_cons_zero, List.set_cons_succ]); refine wpAnyH_take (i := 6) (v := ?_) (by rfl) (by kernel_rfl) (by kernel_rfl) (by kernel_rfl) (fun _ _ _ h => h) (Or.inl ⟨by kernel_rfl, ?_⟩) (by assumption) ?_; rotate_left 1; (focus (intro w hSw; (try dsimp only at hSw); simp only [List.getElem_toArray, List.getElem_cons_succ, List.getElem_cons_zero]; all_goals go_simp; all_goals (try with_reducible rfl))); (try simp only [Act.put, List.getElem_toArray, List.getElem_cons_succ, List.getElem_cons_zero, List.setIfInBounds_toArray, List.set_cons_zero, List.set_cons_succ]); refine wpAnyH_take (i := 7) (v := ?_) (by rfl) (by kernel_rfl) (by kernel_rfl) (by kernel_rfl) (fun _ _ _ h => h) (Or.inl ⟨by kernel_rfl, ?_⟩) (by assumption) ?_; rotate_left 1; (focus (intro w hSw; (try dsimp only at hSw); simp only [List.getElem_toArray, List.getElem_cons_succ, List.getElem_cons_zero]; all_goals go_simp; all_goals (try with_reducible rfl))); (try simp only [Act.put, List.getElem_toArray, List.getElem_cons_succ, List.getElem_cons_zero, List.setIfInBounds_toArray, List.set_cons_zero, List.set_cons_succ])
  refine wpAnyH_ready (rs := [8]) (by kernel_rfl) (by simp) ?_; refine AllReadyH.cons (by rfl) (fun K hK => ?_) AllReadyH.nil; rw [if_pos (by kernel_rfl)]; simp only [List.getElem_toArray, List.getElem_cons_succ, List.getElem_cons_zero]
  go_wp2_with fail
  generalize hE : World.alloc wD _ = wE
  have HE : Hid (Below w3.heap.size w3 wE) := Lib.hid (by rw [← hE]; exact HBd.out.alloc HBd.out.size _)
  refine hK.out _ _ (HSC.out _ HE.out) (fun hHeld => ?_)
  clear hK K
  (try simp only [Act.put, List.getElem_toArray, List.getElem_cons_succ, List.getElem_cons_zero, List.setIfInBounds_toArray, List.set_cons_zero, List.set_cons_succ])
  refine wpAnyH_ready (rs := [9]) (by kernel_rfl) (by simp) ?_; refine AllReadyH.cons (by rfl) (fun K hK => ?_) AllReadyH.nil; rw [if_pos (by kernel_rfl)]; simp only [List.getElem_toArray, List.getElem_cons_succ, List.getElem_cons_zero]
  go_wp2_with (first | (go_at_call 128; rw [← hE]; (with_reducible refine (HRq.out wD (H3.out.1.trans (HBd.out.mono H3.out.1.size))).mono ?_); rintro e w4 ⟨⟨rv, rfl⟩, hq, hu⟩; have H4 : Hid (Q1 wD.heap.size w4.heap.size w4 ∧ UpT N w3 w4) := Lib.hid ⟨hq, (UpT.below HBd.out).trans hu⟩; clear hq hu))
  have HR4 : Hid (w4.rangeAt C 0 cs ∧ w4.rangeAt J 0 (rowL (uF (uF f 9 (.int .i64 3)) 10 (.int .i64 0))) ∧ World.there w4 R 0 19) := (Lib.hid ⟨range_same H3.out.2.1 (H4.out.2.2 C HNC.out.1 HNC.out.2.1), range_same H3.out.2.2.1 (H4.out.2.2 J HNC.out.2.2.1 HNC.out.2.2.2.1), nthere_same H3.out.2.2.2.1 (H4.out.2.2 R HNC.out.2.2.2.2.1 HNC.out.2.2.2.2.2.1)⟩); refine hK.out _ _ ⟨CallC.cell HR4.out.1 0 _ hc.out.c0, (HQ1c.out _ _ _ H4.out.1).2, CallC.cell HR4.out.1 2 _ hc.out.c2⟩ (fun hHeld => ?_); clear hK K; (try simp only [Act.put, List.getElem_toArray, List.getElem_cons_succ, List.getElem_cons_zero, List.setIfInBounds_toArray, List.set_cons_zero, List.set_cons_succ]); refine wpAnyH_done (by kernel_rfl) ?_ _; refine NoPanic.normal ?_; go_wp2_with (first | (refine wpList_load_mid (by rfl) _ _ (by rfl) C 0 (by rfl) cs _ HR4.out.1 Tryz.underlying84 rfl (by rw [hc.out.len]; exact infoCall) ?_) | (refine wpList_load_mid (by rfl) _ _ (by rfl) J 0 (by rfl) (rowL (uF (uF f 9 (.int .i64 3)) 10 (.int .i64 0))) _ HR4.out.2.1 Tryz.underlying128 rfl (by rw [rowL_len]; exact infoDomS) ?_) | (go_at_call 127; (refine (cput_two (Q := Q wD.heap.size w4.heap.size) (N2 := w4.heap.size) hnl hn1 hc (uF (uF f 9 (.int .i64 3)) 10 (.int .i64 0)) HF1 ev _ (Nat.le_trans HNC.out.2.2.2.2.2.2 H4.out.2.1) (Nat.le_refl _) (HQ1c.out _ _ _ H4.out.1).1 (fun w1 w2 h1 h2 => HQ.out.keep h1 h2 (Nat.le_trans HNC.out.2.2.2.2.2.2 H4.out.2.1) (Nat.le_refl _)) (fun W h => HQc.out _ _ W h) (fun W hb => HPt.out _ _ W (HQ1.out.keep H4.out.1 hb (Nat.le_trans HNC.out.2.2.2.2.2.2 H4.out.2.1) (Nat.le_refl _)) (Nat.le_trans HNC.out.2.2.2.2.2.2 H4.out.2.1) hb.size) (fun W h => HTo.out _ _ W h)).mono ?_); rintro e w5 ⟨rfl, hq, hu⟩; have H5 : Hid (Q wD.heap.size w4.heap.size w5 ∧ UpT N w w5 ∧ w4.heap.size ≤ w5.heap.size) := Lib.hid ⟨hq, ((UpT.below H3.out.1).trans H4.out.2).trans hu, hu.1⟩; have HT5 : Hid (World.there w5 R 0 19) := Lib.hid (nthere_same HR4.out.2.2 (hu.2 R HNC.out.2.2.2.2.1 (Nat.lt_of_lt_of_le HNC.out.2.2.2.2.2.1 H4.out.2.1))); clear hq hu) | (refine wpList_store_mid (by rfl) _ _ _ (by rfl) R 0 nt.toArray (by rfl) (by rfl) (by rw [hsz]; exact HT5.out) (by rw [hsz]; exact infoNote) (all_one hn1) ?_))
  have hRn : w.heap.size ≤ R := (by have := HA.out.2.2.2.2; have := HCl.out; omega); generalize hS : World.setCells w5 _ _ _ = wS; have HS : Hid (Below w.heap.size w5 wS ∧ wS.rangeAt R 0 nt) := Lib.hid (by rw [← hS]; exact ⟨nbelow_cells (Below.refl _ _) hRn _ _, World.rangeAt_setCells_same w5 R 0 nt (by rw [hnl]; exact HT5.out)⟩); have HQS : Hid (Q w.heap.size wS.heap.size wS) := Lib.hid (by rw [← hS]; exact HQ.out.store H5.out.1 _ (Nat.le_trans hN hRn) (Nat.lt_of_lt_of_le HNC.out.2.2.2.2.2.1 HBd.out.size) (Nat.le_trans H3.out.1.size HBd.out.size) (Nat.le_trans H5.out.2.2 (nbelow_cells (Below.refl 0 _) (Nat.zero_le _) _ _).size)); clear hS; have hld := nload hnl HS.out.2; refine bodyPost_ret (v := (.agg nt.toArray)) (by simp [results, Tryz.results87, Act.put, asAddr, hld]) rfl ⟨rfl, HQS.out, H5.out.2.1.low HS.out.1 (Nat.le_refl _)⟩
set_option maxRecDepth 100000 in
set_option maxHeartbeats 1000000 in
theorem chalt_q (hc : Hid (CallC cs s k0 k1 k2 k3 k4 9 x)) (hnl : nt.length = 19) (hn1 : ∀ v, v ∈ nt → v.oneCell' = true) (f : Nat → Value) (hf : Hid (∀ j, j < 107 → (f j).oneCell' = true)) (ev : Value) (w : World) (hN : N ≤ w.heap.size) (hs : (w.cell? ⟨s, 1, none⟩ = some (.pointer (some ⟨d, 0, none⟩)) ∧ w.cell? ⟨s, 5, none⟩ = some (.pointer (some ⟨q, 0, none⟩)))) (hQ : QF N Q) (hQc : ∀ M T W, Q M T W → (W.cell? ⟨s, 1, none⟩ = some (.pointer (some ⟨d, 0, none⟩)) ∧ W.cell? ⟨s, 5, none⟩ = some (.pointer (some ⟨q, 0, none⟩)))) (hQ1 : QF N Q1) (hQ1c : ∀ M T W, Q1 M T W → (W.cell? ⟨s, 1, none⟩ = some (.pointer (some ⟨d, 0, none⟩)) ∧ W.cell? ⟨s, 5, none⟩ = some (.pointer (some ⟨q, 0, none⟩)))) (hP : ∀ M T W, Q1 M T W → N ≤ T → T ≤ W.heap.size → Calls Tryz.prog 162 #[.pointer (some ⟨d, 0, none⟩), .int .i64 k1, .agg (rowL (uF f 9 (.int .i64 4))).toArray] W fun e w' => e = .returned ev ∧ Q M T w' ∧ UpT N W w') (hT : ∀ M T W, Q M T W → Calls Tryz.prog 76 #[(Value.agg #[.int .u32 0, .int .u32 0, .int .u32 0, .int .u32 0, .int .i64 0, .int .i64 0, .int .i64 0, .int .i64 0, .int .u32 0, .int .i64 0, .int .i64 0, .int .i64 0, .int .i64 0, .int .u32 0, .int .i64 0, .int .i64 0, .int .i64 0, .int .i64 0, .int .u32 0]), ev] W fun e w' => e = .returned (.agg nt.toArray) ∧ Below W.heap.size W w') (h9 : Hid (f 9 = .int .i64 3))
    (hR : ∀ W, Below w.heap.size w W → Calls Tryz.prog 129 #[.pointer (some ⟨q, 0, none⟩), .int .i64 k1] W fun e w' => (∃ rv, e = .returned rv) ∧ Q1 W.heap.size w'.heap.size w' ∧ UpT N W w') : Calls Tryz.prog 88 #[(.agg cs.toArray), .agg (rowL f).toArray] w fun e w' => e = .returned (.agg nt.toArray) ∧ Q w.heap.size w'.heap.size w' ∧ UpT N w w' := by
  have HRq := Lib.hid hR
  clear hR
  have HF1 : Hid (∀ j, j < 107 → (uF f 9 (.int .i64 4) j).oneCell' = true) := Lib.hid (uF_one hf.out 9 _ rfl)
  have HPt := Lib.hid hP; have HTo := Lib.hid hT; have HQ := Lib.hid hQ; have HQc := Lib.hid (fun M T W h => (hQc M T W h).1); have HQ1 := Lib.hid hQ1; have HQ1c := Lib.hid hQ1c; have HL := Lib.hid (⟨cell_lt hs.1, hs⟩ : s < w.heap.size ∧ (w.cell? ⟨s, 1, none⟩ = some (.pointer (some ⟨d, 0, none⟩)) ∧ w.cell? ⟨s, 5, none⟩ = some (.pointer (some ⟨q, 0, none⟩)))); have hsz : nt.toArray.size = 19 := (by simp [hnl]); clear hP hT hs hQ hQc hQ1 hQ1c; go_enter Tryz.func88, Tryz.ntmps88; go_upto_region 1 with fail; generalize hA : World.alloc w _ = wK; obtain ⟨C, hC⟩ : ∃ C, C = w.heap.size := ⟨_, rfl⟩; have HK : Hid (Below w.heap.size w wK ∧ wK.rangeAt C 0 cs ∧ wK.heap.size = C + 1) := Lib.hid (by rw [← hA, hC]; exact ⟨(Below.refl _ _).alloc (Nat.le_refl _) _, cbox _ _ _, by simp⟩); have HCl : Hid (w.heap.size ≤ C) := Lib.hid (by rw [hC]; exact Nat.le_refl _); rw [← hC]; clear hA hC; generalize hA : World.alloc wK _ = wX; obtain ⟨J, hJ⟩ : ∃ J, J = C + 1 := ⟨_, rfl⟩; have HX : Hid (Below w.heap.size w wX ∧ wX.rangeAt C 0 cs ∧ wX.rangeAt J 0 (rowL f) ∧ C < J ∧ wX.heap.size = J + 1) := Lib.hid (by rw [← hA, hJ, ← HK.out.2.2]; exact ⟨HK.out.1.alloc HK.out.1.size _, range_below HK.out.2.1 ((Below.refl _ _).alloc (Nat.le_refl _) _) (by have := HK.out.2.2; omega), (fun j v hv => by simp; simpa using hv), by have := HK.out.2.2; omega, by simp⟩); have HZ : Hid (∀ i, wX.frozen? ⟨J, i, none⟩ = false) := Lib.hid (by intro i; rw [← hA, hJ, ← HK.out.2.2]; simp); rw [show C + 1 = J from hJ.symm]; clear hA hJ; generalize hA : World.alloc wX _ = wA; have HFz : Hid (∀ i, wA.frozen? ⟨J, i, none⟩ = false) := Lib.hid (by intro i; rw [← hA]; exact (World.frozen?_of_block (a := ⟨J, i, none⟩) (((Below.refl _ _).alloc (Nat.le_refl _) _ : Below wX.heap.size wX _).block J (by have := HX.out.2.2.2; omega))).trans (HZ.out i)); obtain ⟨R, hR⟩ : ∃ R, R = J + 1 := ⟨_, rfl⟩; have HA : Hid (Below w.heap.size w wA ∧ wA.rangeAt C 0 cs ∧ wA.rangeAt J 0 (rowL f) ∧ World.there wA R 0 19 ∧ C < J ∧ J < R ∧ R < wA.heap.size) := Lib.hid (by rw [← hA, hR, ← HX.out.2.2.2.2]; exact ⟨HX.out.1.alloc HX.out.1.size _, range_below HX.out.2.1 ((Below.refl _ _).alloc (Nat.le_refl _) _) (by have := HX.out.2.2.2; omega), range_below HX.out.2.2.1 ((Below.refl _ _).alloc (Nat.le_refl _) _) (by have := HX.out.2.2.2; omega), nthere_new _ _ 19 (by rfl) _, HX.out.2.2.2.1, by have := HX.out.2.2.2; omega, by simp⟩); rw [← hR]; clear hA hR
  have j9 : wA.cell? ⟨J, 9, none⟩ = some (.int .i64 3) := by rw [rangeD HA.out.2.2.1 9 (by decide), h9.out]
  have z9 := HFz.out 9
  go_upto_region 4 with fail
  generalize hw3 : World.setCell wA _ _ = w3
  have H3 : Hid (Below w.heap.size w w3 ∧ w3.rangeAt C 0 cs ∧ w3.rangeAt J 0 (rowL (uF f 9 (.int .i64 4))) ∧ World.there w3 R 0 19 ∧ R < w3.heap.size) := Lib.hid (by
    have hz := HA.out.2.2.2.2
    have hcl := HCl.out
    rw [← hw3]
    exact ⟨HA.out.1.setCell (show w.heap.size ≤ J by omega) _, fun j u hj => (World.cell?_setCell_other _ _ _ _ (by simp <;> omega)).trans (HA.out.2.1 j u hj), range_uF HA.out.2.2.1 9 _, nthere_same HA.out.2.2.2.1 (Below.heap_setCell _ _ _ _ (show R ≠ J by omega)), by simpa using hz.2.2⟩)
  clear hw3 j9 z9
  have HNC : Hid (N ≤ C ∧ C < w3.heap.size ∧ N ≤ J ∧ J < w3.heap.size ∧ N ≤ R ∧ R < w3.heap.size ∧ N ≤ w3.heap.size) := (Lib.hid (by have hz := HA.out.2.2.2.2; have hcl := HCl.out; have hr := H3.out.2.2.2.2; omega)); have HSC : Hid (∀ W, Below w3.heap.size w3 W → (World.cell? W ⟨C, 0, none⟩ = some (.pointer (some ⟨s, 0, none⟩)) ∧ World.cell? W ⟨s, 5, none⟩ = some (.pointer (some ⟨q, 0, none⟩)) ∧ World.cell? W ⟨C, 2, none⟩ = some (.int .i64 k1))) := (Lib.hid (fun W hW => by have hr := range_below H3.out.2.1 hW HNC.out.2.1; have hb := H3.out.1.trans (hW.mono H3.out.1.size); exact ⟨CallC.cell hr 0 _ hc.out.c0, (hb.cell (p := ⟨s, 5, none⟩) HL.out.1).trans HL.out.2.2, CallC.cell hr 2 _ hc.out.c2⟩)); obtain ⟨wD, hwD⟩ : ∃ wD, wD = w3.drew := ⟨_, rfl⟩; have HBd : Hid (Below w3.heap.size w3 wD) := (Lib.hid (by rw [hwD]; exact (Below.refl _ _).drew)); refine wp_region_noPanic ?_; refine wp_region_held_drew (S := fun W => (World.cell? W ⟨C, 0, none⟩ = some (.pointer (some ⟨s, 0, none⟩)) ∧ World.cell? W ⟨s, 5, none⟩ = some (.pointer (some ⟨q, 0, none⟩)) ∧ World.cell? W ⟨C, 2, none⟩ = some (.int .i64 k1))) (by kernel_rfl) (by rw [← hwD]; exact HSC.out _ HBd.out) (fun hHeld => ?_); rw [← hwD] at hHeld ⊢; clear hwD; refine wpAnyH_take (i := 0) (v := ?_) (by rfl) (by kernel_rfl) (by kernel_rfl) (by kernel_rfl) (fun _ _ _ h => h) (Or.inl ⟨by kernel_rfl, ?_⟩) (by assumption) ?_; rotate_left 1; (focus (intro w hSw; (try dsimp only at hSw); simp only [List.getElem_toArray, List.getElem_cons_succ, List.getElem_cons_zero]; all_goals go_simp; all_goals (try with_reducible rfl))); (try simp only [Act.put, List.getElem_toArray, List.getElem_cons_succ, List.getElem_cons_zero, List.setIfInBounds_toArray, List.set_cons_zero, List.set_cons_succ]); refine wpAnyH_take (i := 1) (v := ?_) (by rfl) (by kernel_rfl) (by kernel_rfl) (by kernel_rfl) (fun _ _ _ h => h) (Or.inl ⟨by kernel_rfl, ?_⟩) (by assumption) ?_; rotate_left 1; (focus (intro w hSw; (try dsimp only at hSw); simp only [List.getElem_toArray, List.getElem_cons_succ, List.getElem_cons_zero]; all_goals go_simp; all_goals (try with_reducible rfl))); (try simp only [Act.put, List.getElem_toArray, List.getElem_cons_succ, List.getElem_cons_zero, List.setIfInBounds_toArray, List.set_cons_zero, List.set_cons_succ]); refine wpAnyH_take (i := 2) (v := ?_) (by rfl) (by kernel_rfl) (by kernel_rfl) (by kernel_rfl) (fun _ _ _ h => h) (Or.inl ⟨by kernel_rfl, ?_⟩) (by assumption) ?_; rotate_left 1; (focus (intro w hSw; (try dsimp only at hSw); simp only [List.getElem_toArray, List.getElem_cons_succ, List.getElem_cons_zero]; all_goals go_simp; all_goals (try with_reducible rfl))); (try simp only [Act.put, List.getElem_toArray, List.getElem_cons_succ, List.getElem_cons_zero, List.setIfInBounds_toArray, List.set_cons_zero, List.set_cons_succ]); refine wpAnyH_take (i := 3) (v := ?_) (by rfl) (by kernel_rfl) (by kernel_rfl) (by kernel_rfl) (fun _ _ _ h => h) (Or.inl ⟨by kernel_rfl, ?_⟩) (by assumption) ?_; rotate_left 1; (focus (intro w hSw; (try dsimp only at hSw); simp only [List.getElem_toArray, List.getElem_cons_succ, List.getElem_cons_zero]; all_goals go_simp; all_goals (try with_reducible rfl))); (try simp only [Act.put, List.getElem_toArray, List.getElem_cons_succ, List.getElem_cons_zero, List.setIfInBounds_toArray, List.set_cons_zero, List.set_cons_succ]); refine wpAnyH_take (i := 4) (v := ?_) (by rfl) (by kernel_rfl) (by kernel_rfl) (by kernel_rfl) (fun _ _ _ h => h) (Or.inl ⟨by kernel_rfl, ?_⟩) (by assumption) ?_; rotate_left 1; (focus (intro w hSw; (try dsimp only at hSw); simp only [List.getElem_toArray, List.getElem_cons_succ, List.getElem_cons_zero]; all_goals go_simp; all_goals (try with_reducible rfl))); (try simp only [Act.put, List.getElem_toArray, List.getElem_cons_succ, List.getElem_cons_zero, List.setIfInBounds_toArray, List.set_cons_zero, List.set_cons_succ]); refine wpAnyH_take (i := 5) (v := ?_) (by rfl) (by kernel_rfl) (by kernel_rfl) (by kernel_rfl) (fun _ _ _ h => h) (Or.inl ⟨by kernel_rfl, ?_⟩) (by assumption) ?_; rotate_left 1; (focus (intro w hSw; (try dsimp only at hSw); simp only [List.getElem_toArray, List.getElem_cons_succ, List.getElem_cons_zero]; all_goals go_simp; all_goals (try with_reducible rfl))); (try simp only [Act.put, List.getElem_toArray, List.getElem_cons_succ, List.getElem_cons_zero, List.setIfInBounds_toArray, List.set_cons_zero, List.set_cons_succ]); refine wpAnyH_take (i := 6) (v := ?_) (by rfl) (by kernel_rfl) (by kernel_rfl) (by kernel_rfl) (fun _ _ _ h => h) (Or.inl ⟨by kernel_rfl, ?_⟩) (by assumption) ?_; rotate_left 1; (focus (intro w hSw; (try dsimp only at hSw); simp only [List.getElem_toArray, List.getElem_cons_succ, List.getElem_cons_zero]; all_goals go_simp; all_goals (try with_reducible rfl))); (try simp only [Act.put, List.getElem_toArray, List.getElem_cons_succ, List.getElem_cons_zero, List.setIfInBounds_toArray, List.set_cons_zero, List.set_cons_succ]); refine wpAnyH_take (i := 7) (v := ?_) (by rfl) (by kernel_rfl) (by kernel_rfl) (by kernel_rfl) (fun _ _ _ h => h) (Or.inl ⟨by kernel_rfl, ?_⟩) (by assumption) ?_; rotate_left 1; (focus (intro w hSw; (try dsimp only at hSw); simp only [List.getElem_toArray, List.getElem_cons_succ, List.getElem_cons_zero]; all_goals go_simp; all_goals (try with_reducible rfl))); (try simp only [Act.put, List.getElem_toArray, List.getElem_cons_succ, List.getElem_cons_zero, List.setIfInBounds_toArray, List.set_cons_zero, List.set_cons_succ])
  refine wpAnyH_ready (rs := [8]) (by kernel_rfl) (by simp) ?_; refine AllReadyH.cons (by rfl) (fun K hK => ?_) AllReadyH.nil; rw [if_pos (by kernel_rfl)]; simp only [List.getElem_toArray, List.getElem_cons_succ, List.getElem_cons_zero]
  go_wp2_with (first | (go_at_call 129; (with_reducible refine (HRq.out wD (H3.out.1.trans (HBd.out.mono H3.out.1.size))).mono ?_); rintro e w4 ⟨⟨rv, rfl⟩, hq, hu⟩; have H4 : Hid (Q1 wD.heap.size w4.heap.size w4 ∧ UpT N w3 w4) := Lib.hid ⟨hq, (UpT.below HBd.out).trans hu⟩; clear hq hu))
  have HR4 : Hid (w4.rangeAt C 0 cs ∧ w4.rangeAt J 0 (rowL (uF f 9 (.int .i64 4))) ∧ World.there w4 R 0 19) := (Lib.hid ⟨range_same H3.out.2.1 (H4.out.2.2 C HNC.out.1 HNC.out.2.1), range_same H3.out.2.2.1 (H4.out.2.2 J HNC.out.2.2.1 HNC.out.2.2.2.1), nthere_same H3.out.2.2.2.1 (H4.out.2.2 R HNC.out.2.2.2.2.1 HNC.out.2.2.2.2.2.1)⟩); refine hK.out _ _ ⟨CallC.cell HR4.out.1 0 _ hc.out.c0, (HQ1c.out _ _ _ H4.out.1).2, CallC.cell HR4.out.1 2 _ hc.out.c2⟩ (fun hHeld => ?_); clear hK K; (try simp only [Act.put, List.getElem_toArray, List.getElem_cons_succ, List.getElem_cons_zero, List.setIfInBounds_toArray, List.set_cons_zero, List.set_cons_succ]); refine wpAnyH_done (by kernel_rfl) ?_ _; refine NoPanic.normal ?_; go_wp2_with (first | (refine wpList_load_mid (by rfl) _ _ (by rfl) C 0 (by rfl) cs _ HR4.out.1 Tryz.underlying84 rfl (by rw [hc.out.len]; exact infoCall) ?_) | (refine wpList_load_mid (by rfl) _ _ (by rfl) J 0 (by rfl) (rowL (uF f 9 (.int .i64 4))) _ HR4.out.2.1 Tryz.underlying128 rfl (by rw [rowL_len]; exact infoDomS) ?_) | (go_at_call 127; (refine (cput_two (Q := Q wD.heap.size w4.heap.size) (N2 := w4.heap.size) hnl hn1 hc (uF f 9 (.int .i64 4)) HF1 ev _ (Nat.le_trans HNC.out.2.2.2.2.2.2 H4.out.2.1) (Nat.le_refl _) (HQ1c.out _ _ _ H4.out.1).1 (fun w1 w2 h1 h2 => HQ.out.keep h1 h2 (Nat.le_trans HNC.out.2.2.2.2.2.2 H4.out.2.1) (Nat.le_refl _)) (fun W h => HQc.out _ _ W h) (fun W hb => HPt.out _ _ W (HQ1.out.keep H4.out.1 hb (Nat.le_trans HNC.out.2.2.2.2.2.2 H4.out.2.1) (Nat.le_refl _)) (Nat.le_trans HNC.out.2.2.2.2.2.2 H4.out.2.1) hb.size) (fun W h => HTo.out _ _ W h)).mono ?_); rintro e w5 ⟨rfl, hq, hu⟩; have H5 : Hid (Q wD.heap.size w4.heap.size w5 ∧ UpT N w w5 ∧ w4.heap.size ≤ w5.heap.size) := Lib.hid ⟨hq, ((UpT.below H3.out.1).trans H4.out.2).trans hu, hu.1⟩; have HT5 : Hid (World.there w5 R 0 19) := Lib.hid (nthere_same HR4.out.2.2 (hu.2 R HNC.out.2.2.2.2.1 (Nat.lt_of_lt_of_le HNC.out.2.2.2.2.2.1 H4.out.2.1))); clear hq hu) | (refine wpList_store_mid (by rfl) _ _ _ (by rfl) R 0 nt.toArray (by rfl) (by rfl) (by rw [hsz]; exact HT5.out) (by rw [hsz]; exact infoNote) (all_one hn1) ?_))
  have hRn : w.heap.size ≤ R := (by have := HA.out.2.2.2.2; have := HCl.out; omega); generalize hS : World.setCells w5 _ _ _ = wS; have HS : Hid (Below w.heap.size w5 wS ∧ wS.rangeAt R 0 nt) := Lib.hid (by rw [← hS]; exact ⟨nbelow_cells (Below.refl _ _) hRn _ _, World.rangeAt_setCells_same w5 R 0 nt (by rw [hnl]; exact HT5.out)⟩); have HQS : Hid (Q w.heap.size wS.heap.size wS) := Lib.hid (by rw [← hS]; exact HQ.out.store H5.out.1 _ (Nat.le_trans hN hRn) (Nat.lt_of_lt_of_le HNC.out.2.2.2.2.2.1 HBd.out.size) (Nat.le_trans H3.out.1.size HBd.out.size) (Nat.le_trans H5.out.2.2 (nbelow_cells (Below.refl 0 _) (Nat.zero_le _) _ _).size)); clear hS; have hld := nload hnl HS.out.2; refine bodyPost_ret (v := (.agg nt.toArray)) (by simp [results, Tryz.results88, Act.put, asAddr, hld]) rfl ⟨rfl, HQS.out, H5.out.2.1.low HS.out.1 (Nat.le_refl _)⟩
end
section
variable {cs nt : List Value} {s d N : Nat} {k0 k1 k2 k3 k4 o x : Int} {Q : Nat → Nat → World → Prop}
set_option maxRecDepth 100000 in
set_option maxHeartbeats 2000000 in
theorem cdom_7q (hc : Hid (CallC cs s k0 k1 k2 k3 k4 7 x)) (F : Nat → Value) (hF : Hid (∀ j, j < 107 → (F j).oneCell' = true)) (g : Bool) (w : World) (hs : w.cell? ⟨s, 1, none⟩ = some (.pointer (some ⟨d, 0, none⟩))) (hG : ∀ W, Below w.heap.size w W → Calls Tryz.prog 72 #[.pointer (some ⟨d, 0, none⟩), .int .i64 k1] W fun e w' => e = .returned (.tuple #[.agg (rowL F).toArray, .bool g]) ∧ Below W.heap.size W w') (hnl : nt.length = 19) (hn1 : ∀ v, v ∈ nt → v.oneCell' = true) (hN : N ≤ w.heap.size) (hQ : QF N Q) (hFn : ∀ W, Below w.heap.size w W → Calls Tryz.prog 87 #[(.agg cs.toArray), .agg (rowL F).toArray] W fun e w' => e = .returned (.agg nt.toArray) ∧ Q W.heap.size w'.heap.size w' ∧ UpT N W w') : Calls Tryz.prog 55 #[(.agg cs.toArray)] w fun e w' => e = .returned (.agg nt.toArray) ∧ Q w.heap.size w'.heap.size w' ∧ UpT N w w' := by
  have HQ := Lib.hid hQ
  have HFn := Lib.hid hFn
  have hsz : nt.toArray.size = 19 := by simp [hnl]
  clear hQ hFn
  have HG := Lib.hid hG; have HSl : Hid (s < w.heap.size ∧ w.cell? ⟨s, 1, none⟩ = some (.pointer (some ⟨d, 0, none⟩))) := Lib.hid ⟨cell_lt hs, hs⟩; clear hG hs; go_enter Tryz.func55, Tryz.ntmps55; go_upto_region 1 with fail; generalize hA : World.alloc w _ = wK; obtain ⟨C, hC⟩ : ∃ C, C = w.heap.size := ⟨_, rfl⟩; have HK : Hid (Below w.heap.size w wK ∧ wK.rangeAt C 0 cs ∧ wK.heap.size = C + 1) := Lib.hid (by rw [← hA, hC]; exact ⟨(Below.refl _ _).alloc (Nat.le_refl _) _, cbox _ _ _, by simp⟩); have HCl : Hid (w.heap.size ≤ C) := Lib.hid (by rw [hC]; exact Nat.le_refl _); rw [← hC]; clear hA hC; generalize hA : World.alloc wK _ = wA; obtain ⟨R, hR⟩ : ∃ R, R = C + 1 := ⟨_, rfl⟩; have HA : Hid (Below w.heap.size w wA ∧ wA.rangeAt C 0 cs ∧ World.there wA R 0 19 ∧ C < R ∧ R < wA.heap.size) := Lib.hid (by rw [← hA, hR, ← HK.out.2.2]; exact ⟨HK.out.1.alloc HK.out.1.size _, range_below HK.out.2.1 ((Below.refl _ _).alloc (Nat.le_refl _) _) (by have := HK.out.2.2; omega), nthere_new _ _ 19 (by rfl) _, by have := HK.out.2.2; omega, by simp⟩); rw [← hR]; clear hA hR; have HS1 : Hid (∀ W, Below wA.heap.size wA W → (World.cell? W ⟨C, 0, none⟩ = some (.pointer (some ⟨s, 0, none⟩)) ∧ World.cell? W ⟨C, 2, none⟩ = some (.int .i64 k1) ∧ World.cell? W ⟨s, 1, none⟩ = some (.pointer (some ⟨d, 0, none⟩)))) := (Lib.hid (fun W hW => by have hr := range_below HA.out.2.1 hW (Nat.lt_trans HA.out.2.2.2.1 HA.out.2.2.2.2); exact ⟨CallC.cell hr 0 _ hc.out.c0, CallC.cell hr 2 _ hc.out.c2, ((HA.out.1.trans (hW.mono HA.out.1.size)).cell (p := ⟨s, 1, none⟩) HSl.out.1).trans HSl.out.2⟩))
  go_cut [3] (fun v wx => ∃ J : Nat, v = .pointer (some ⟨J, 0, none⟩) ∧ Below wA.heap.size wA wx ∧ wx.rangeAt J 0 (rowL F) ∧ wA.heap.size ≤ J ∧ J < wx.heap.size)
  case first =>
    obtain ⟨wD, hwD⟩ : ∃ wD, wD = wA.drew := ⟨_, rfl⟩; have HBd : Hid (Below wA.heap.size wA wD) := Lib.hid (by rw [hwD]; exact (Below.refl _ _).drew); refine wp_region_noPanic ?_; refine wp_region_held_drew (S := fun W => (World.cell? W ⟨C, 0, none⟩ = some (.pointer (some ⟨s, 0, none⟩)) ∧ World.cell? W ⟨C, 2, none⟩ = some (.int .i64 k1) ∧ World.cell? W ⟨s, 1, none⟩ = some (.pointer (some ⟨d, 0, none⟩)))) (by kernel_rfl) (by rw [← hwD]; exact HS1.out _ HBd.out) (fun hHeld => ?_); rw [← hwD] at hHeld ⊢; clear hwD; refine wpAnyH_take (i := 0) (v := ?_) (by rfl) (by kernel_rfl) (by kernel_rfl) (by kernel_rfl) (fun _ _ _ h => h) (Or.inl ⟨by kernel_rfl, ?_⟩) (by assumption) ?_; rotate_left 1; (focus (intro w hSw; (try dsimp only at hSw); simp only [List.getElem_toArray, List.getElem_cons_succ, List.getElem_cons_zero]; all_goals go_simp; all_goals (try with_reducible rfl))); (try simp only [Act.put, List.getElem_toArray, List.getElem_cons_succ, List.getElem_cons_zero, List.setIfInBounds_toArray, List.set_cons_zero, List.set_cons_succ]); refine wpAnyH_take (i := 1) (v := ?_) (by rfl) (by kernel_rfl) (by kernel_rfl) (by kernel_rfl) (fun _ _ _ h => h) (Or.inl ⟨by kernel_rfl, ?_⟩) (by assumption) ?_; rotate_left 1; (focus (intro w hSw; (try dsimp only at hSw); simp only [List.getElem_toArray, List.getElem_cons_succ, List.getElem_cons_zero]; all_goals go_simp; all_goals (try with_reducible rfl))); (try simp only [Act.put, List.getElem_toArray, List.getElem_cons_succ, List.getElem_cons_zero, List.setIfInBounds_toArray, List.set_cons_zero, List.set_cons_succ]); refine wpAnyH_take (i := 2) (v := ?_) (by rfl) (by kernel_rfl) (by kernel_rfl) (by kernel_rfl) (fun _ _ _ h => h) (Or.inl ⟨by kernel_rfl, ?_⟩) (by assumption) ?_; rotate_left 1; (focus (intro w hSw; (try dsimp only at hSw); simp only [List.getElem_toArray, List.getElem_cons_succ, List.getElem_cons_zero]; all_goals go_simp; all_goals (try with_reducible rfl))); (try simp only [Act.put, List.getElem_toArray, List.getElem_cons_succ, List.getElem_cons_zero, List.setIfInBounds_toArray, List.set_cons_zero, List.set_cons_succ]); refine wpAnyH_take (i := 3) (v := ?_) (by rfl) (by kernel_rfl) (by kernel_rfl) (by kernel_rfl) (fun _ _ _ h => h) (Or.inl ⟨by kernel_rfl, ?_⟩) (by assumption) ?_; rotate_left 1; (focus (intro w hSw; (try dsimp only at hSw); simp only [List.getElem_toArray, List.getElem_cons_succ, List.getElem_cons_zero]; all_goals go_simp; all_goals (try with_reducible rfl))); (try simp only [Act.put, List.getElem_toArray, List.getElem_cons_succ, List.getElem_cons_zero, List.setIfInBounds_toArray, List.set_cons_zero, List.set_cons_succ]); refine wpAnyH_take (i := 4) (v := ?_) (by rfl) (by kernel_rfl) (by kernel_rfl) (by kernel_rfl) (fun _ _ _ h => h) (Or.inl ⟨by kernel_rfl, ?_⟩) (by assumption) ?_; rotate_left 1; (focus (intro w hSw; (try dsimp only at hSw); simp only [List.getElem_toArray, List.getElem_cons_succ, List.getElem_cons_zero]; all_goals go_simp; all_goals (try with_reducible rfl))); (try simp only [Act.put, List.getElem_toArray, List.getElem_cons_succ, List.getElem_cons_zero, List.setIfInBounds_toArray, List.set_cons_zero, List.set_cons_succ]); refine wpAnyH_take (i := 5) (v := ?_) (by rfl) (by kernel_rfl) (by kernel_rfl) (by kernel_rfl) (fun _ _ _ h => h) (Or.inl ⟨by kernel_rfl, ?_⟩) (by assumption) ?_; rotate_left 1; (focus (intro w hSw; (try dsimp only at hSw); simp only [List.getElem_toArray, List.getElem_cons_succ, List.getElem_cons_zero]; all_goals go_simp; all_goals (try with_reducible rfl))); (try simp only [Act.put, List.getElem_toArray, List.getElem_cons_succ, List.getElem_cons_zero, List.setIfInBounds_toArray, List.set_cons_zero, List.set_cons_succ]); refine wpAnyH_take (i := 6) (v := ?_) (by rfl) (by kernel_rfl) (by kernel_rfl) (by kernel_rfl) (fun _ _ _ h => h) (Or.inl ⟨by kernel_rfl, ?_⟩) (by assumption) ?_; rotate_left 1; (focus (intro w hSw; (try dsimp only at hSw); simp only [List.getElem_toArray, List.getElem_cons_succ, List.getElem_cons_zero]; all_goals go_simp; all_goals (try with_reducible rfl))); (try simp only [Act.put, List.getElem_toArray, List.getElem_cons_succ, List.getElem_cons_zero, List.setIfInBounds_toArray, List.set_cons_zero, List.set_cons_succ]); refine wpAnyH_take (i := 7) (v := ?_) (by rfl) (by kernel_rfl) (by kernel_rfl) (by kernel_rfl) (fun _ _ _ h => h) (Or.inl ⟨by kernel_rfl, ?_⟩) (by assumption) ?_; rotate_left 1; (focus (intro w hSw; (try dsimp only at hSw); simp only [List.getElem_toArray, List.getElem_cons_succ, List.getElem_cons_zero]; all_goals go_simp; all_goals (try with_reducible rfl))); (try simp only [Act.put, List.getElem_toArray, List.getElem_cons_succ, List.getElem_cons_zero, List.setIfInBounds_toArray, List.set_cons_zero, List.set_cons_succ]); refine wpAnyH_ready (rs := [8, 12]) (by kernel_rfl) (by simp) ?_; refine AllReadyH.cons (by rfl) (fun K hK => ?_) (AllReadyH.cons (by rfl) (fun K hK => ?_) AllReadyH.nil)
    · rw [if_pos (by kernel_rfl)]; simp only [List.getElem_toArray, List.getElem_cons_succ, List.getElem_cons_zero]; go_wp2_with (first | (go_at_call 72; (with_reducible refine (HG.out _ (HA.out.1.trans (HBd.out.mono HA.out.1.size))).mono ?_); rintro e w2 ⟨rfl, hb⟩; have HB2 := Lib.hid (HBd.out.trans (hb.mono HBd.out.size)); clear hb)); refine hK.out _ _ (HS1.out _ HB2.out) (fun hHeld => ?_); clear hK K; (try simp only [Act.put, List.getElem_toArray, List.getElem_cons_succ, List.getElem_cons_zero, List.setIfInBounds_toArray, List.set_cons_zero, List.set_cons_succ]); refine wpAnyH_take (i := 9) (v := ?_) (by rfl) (by kernel_rfl) (by kernel_rfl) (by kernel_rfl) (fun _ _ _ h => h) (Or.inl ⟨by kernel_rfl, ?_⟩) (by assumption) ?_; rotate_left 1; (focus (intro w hSw; (try dsimp only at hSw); simp only [List.getElem_toArray, List.getElem_cons_succ, List.getElem_cons_zero]; all_goals go_simp; all_goals (try with_reducible rfl))); (try simp only [Act.put, List.getElem_toArray, List.getElem_cons_succ, List.getElem_cons_zero, List.setIfInBounds_toArray, List.set_cons_zero, List.set_cons_succ]); refine wpAnyH_take (i := 10) (v := ?_) (by rfl) (by kernel_rfl) (by kernel_rfl) (by kernel_rfl) (fun _ _ _ h => h) (Or.inl ⟨by kernel_rfl, ?_⟩) (by assumption) ?_; rotate_left 1; (focus (intro w hSw; (try dsimp only at hSw); simp only [List.getElem_toArray, List.getElem_cons_succ, List.getElem_cons_zero]; all_goals go_simp; all_goals (try with_reducible rfl))); (try simp only [Act.put, List.getElem_toArray, List.getElem_cons_succ, List.getElem_cons_zero, List.setIfInBounds_toArray, List.set_cons_zero, List.set_cons_succ]); refine wpAnyH_take (i := 11) (v := ?_) (by rfl) (by kernel_rfl) (by kernel_rfl) (by kernel_rfl) (fun _ _ _ h => h) (Or.inl ⟨by kernel_rfl, ?_⟩) (by assumption) ?_; rotate_left 1; (focus (intro w hSw; (try dsimp only at hSw); simp only [List.getElem_toArray, List.getElem_cons_succ, List.getElem_cons_zero]; all_goals go_simp; all_goals (try with_reducible rfl))); (try simp only [Act.put, List.getElem_toArray, List.getElem_cons_succ, List.getElem_cons_zero, List.setIfInBounds_toArray, List.set_cons_zero, List.set_cons_succ]); refine wpAnyH_ready (rs := [12]) (by kernel_rfl) (by simp) ?_; refine AllReadyH.cons (by rfl) (fun K hK => ?_) AllReadyH.nil; rw [if_pos (by kernel_rfl)]; simp only [List.getElem_toArray, List.getElem_cons_succ, List.getElem_cons_zero]; go_wp2_with fail; generalize hE : World.alloc w2 _ = wE; obtain ⟨J, hJ⟩ : ∃ J, J = w2.heap.size := ⟨_, rfl⟩; have HE : Hid (Below wA.heap.size wA wE ∧ World.there wE J 0 107 ∧ wA.heap.size ≤ J ∧ J < wE.heap.size) := Lib.hid (by rw [← hE, hJ]; exact ⟨(HB2.out).alloc (HB2.out).size _, nthere_new _ _ 107 zsize _, (HB2.out).size, by simp⟩); rw [← hJ]; clear hE hJ; refine hK.out _ _ (HS1.out _ HE.out.1) (fun hHeld => ?_); clear hK K; (try simp only [Act.put, List.getElem_toArray, List.getElem_cons_succ, List.getElem_cons_zero, List.setIfInBounds_toArray, List.set_cons_zero, List.set_cons_succ]); refine wpAnyH_ready (rs := [13]) (by kernel_rfl) (by simp) ?_; refine AllReadyH.cons (by rfl) (fun K hK => ?_) AllReadyH.nil; rw [if_pos (by kernel_rfl)]; simp only [List.getElem_toArray, List.getElem_cons_succ, List.getElem_cons_zero]; refine wp_store_mid 128 (Operand.tmp 3) (Operand.tmp 15) (by rfl) J 0 (rowL F).toArray (by rfl) (by rfl) (by rw [rowL_size]; exact HE.out.2.1) (by rw [rowL_size]; exact infoDomS) (rowL_one F hF.out) ?_; generalize hW : World.setCells wE _ _ _ = wF; have HF9 : Hid (Below wA.heap.size wA wF ∧ wF.rangeAt J 0 (rowL F) ∧ J < wF.heap.size) := Lib.hid (by rw [← hW]; refine ⟨nbelow_cells HE.out.1 (HE.out.2.2).1 _ _, World.rangeAt_setCells_same wE J 0 (rowL F) (by rw [rowL_len]; exact HE.out.2.1), ?_⟩; exact Nat.lt_of_lt_of_le (HE.out.2.2).2 (nbelow_cells (Below.refl J wE) (Nat.le_refl J) _ _).size); clear hW; refine hK.out _ _ (HS1.out _ HF9.out.1) (fun hHeld => ?_); clear hK K; (try simp only [Act.put, List.getElem_toArray, List.getElem_cons_succ, List.getElem_cons_zero, List.setIfInBounds_toArray, List.set_cons_zero, List.set_cons_succ]); refine wpAnyH_take (i := 14) (v := ?_) (by rfl) (by kernel_rfl) (by kernel_rfl) (by kernel_rfl) (fun _ _ _ h => h) (Or.inl ⟨by kernel_rfl, ?_⟩) (by assumption) ?_; rotate_left 1; (focus (intro w hSw; (try dsimp only at hSw); simp only [List.getElem_toArray, List.getElem_cons_succ, List.getElem_cons_zero]; all_goals go_simp; all_goals (try with_reducible rfl))); (try simp only [Act.put, List.getElem_toArray, List.getElem_cons_succ, List.getElem_cons_zero, List.setIfInBounds_toArray, List.set_cons_zero, List.set_cons_succ]); refine wpAnyH_done (by kernel_rfl) ?_ _; refine NoPanic.normal ?_; go_wp2_with fail; go_meet; exact ⟨J, rfl, HF9.out.1, HF9.out.2.1, (HE.out.2.2).1, HF9.out.2.2⟩
    · rw [if_pos (by kernel_rfl)]; simp only [List.getElem_toArray, List.getElem_cons_succ, List.getElem_cons_zero]; go_wp2_with fail; generalize hE : World.alloc wD _ = wE; obtain ⟨J, hJ⟩ : ∃ J, J = wD.heap.size := ⟨_, rfl⟩; have HE : Hid (Below wA.heap.size wA wE ∧ World.there wE J 0 107 ∧ wA.heap.size ≤ J ∧ J < wE.heap.size) := Lib.hid (by rw [← hE, hJ]; exact ⟨(HBd.out).alloc (HBd.out).size _, nthere_new _ _ 107 zsize _, (HBd.out).size, by simp⟩); rw [← hJ]; clear hE hJ; refine hK.out _ _ (HS1.out _ HE.out.1) (fun hHeld => ?_); clear hK K; (try simp only [Act.put, List.getElem_toArray, List.getElem_cons_succ, List.getElem_cons_zero, List.setIfInBounds_toArray, List.set_cons_zero, List.set_cons_succ]); refine wpAnyH_ready (rs := [8]) (by kernel_rfl) (by simp) ?_; refine AllReadyH.cons (by rfl) (fun K hK => ?_) AllReadyH.nil; rw [if_pos (by kernel_rfl)]; simp only [List.getElem_toArray, List.getElem_cons_succ, List.getElem_cons_zero]; go_wp2_with (first | (go_at_call 72; (with_reducible refine (HG.out _ (HA.out.1.trans (HE.out.1.mono HA.out.1.size))).mono ?_); rintro e w2 ⟨rfl, hb⟩; have HB2 : Hid (Below wA.heap.size wA w2 ∧ World.there w2 J 0 107 ∧ wA.heap.size ≤ J ∧ J < w2.heap.size) := Lib.hid ⟨HE.out.1.trans (hb.mono HE.out.1.size), nthere_below HE.out.2.1 hb HE.out.2.2.2, HE.out.2.2.1, Nat.lt_of_lt_of_le HE.out.2.2.2 hb.size⟩; clear hb)); refine hK.out _ _ (HS1.out _ HB2.out.1) (fun hHeld => ?_); clear hK K; (try simp only [Act.put, List.getElem_toArray, List.getElem_cons_succ, List.getElem_cons_zero, List.setIfInBounds_toArray, List.set_cons_zero, List.set_cons_succ]); refine wpAnyH_take (i := 9) (v := ?_) (by rfl) (by kernel_rfl) (by kernel_rfl) (by kernel_rfl) (fun _ _ _ h => h) (Or.inl ⟨by kernel_rfl, ?_⟩) (by assumption) ?_; rotate_left 1; (focus (intro w hSw; (try dsimp only at hSw); simp only [List.getElem_toArray, List.getElem_cons_succ, List.getElem_cons_zero]; all_goals go_simp; all_goals (try with_reducible rfl))); (try simp only [Act.put, List.getElem_toArray, List.getElem_cons_succ, List.getElem_cons_zero, List.setIfInBounds_toArray, List.set_cons_zero, List.set_cons_succ]); refine wpAnyH_take (i := 10) (v := ?_) (by rfl) (by kernel_rfl) (by kernel_rfl) (by kernel_rfl) (fun _ _ _ h => h) (Or.inl ⟨by kernel_rfl, ?_⟩) (by assumption) ?_; rotate_left 1; (focus (intro w hSw; (try dsimp only at hSw); simp only [List.getElem_toArray, List.getElem_cons_succ, List.getElem_cons_zero]; all_goals go_simp; all_goals (try with_reducible rfl))); (try simp only [Act.put, List.getElem_toArray, List.getElem_cons_succ, List.getElem_cons_zero, List.setIfInBounds_toArray, List.set_cons_zero, List.set_cons_succ]); refine wpAnyH_take (i := 11) (v := ?_) (by rfl) (by kernel_rfl) (by kernel_rfl) (by kernel_rfl) (fun _ _ _ h => h) (Or.inl ⟨by kernel_rfl, ?_⟩) (by assumption) ?_; rotate_left 1; (focus (intro w hSw; (try dsimp only at hSw); simp only [List.getElem_toArray, List.getElem_cons_succ, List.getElem_cons_zero]; all_goals go_simp; all_goals (try with_reducible rfl))); (try simp only [Act.put, List.getElem_toArray, List.getElem_cons_succ, List.getElem_cons_zero, List.setIfInBounds_toArray, List.set_cons_zero, List.set_cons_succ]); refine wpAnyH_ready (rs := [13]) (by kernel_rfl) (by simp) ?_; refine AllReadyH.cons (by rfl) (fun K hK => ?_) AllReadyH.nil; rw [if_pos (by kernel_rfl)]; simp only [List.getElem_toArray, List.getElem_cons_succ, List.getElem_cons_zero]; refine wp_store_mid 128 (Operand.tmp 3) (Operand.tmp 15) (by rfl) J 0 (rowL F).toArray (by rfl) (by rfl) (by rw [rowL_size]; exact HB2.out.2.1) (by rw [rowL_size]; exact infoDomS) (rowL_one F hF.out) ?_; generalize hW : World.setCells w2 _ _ _ = wF; have HF9 : Hid (Below wA.heap.size wA wF ∧ wF.rangeAt J 0 (rowL F) ∧ J < wF.heap.size) := Lib.hid (by rw [← hW]; refine ⟨nbelow_cells HB2.out.1 (HB2.out.2.2).1 _ _, World.rangeAt_setCells_same w2 J 0 (rowL F) (by rw [rowL_len]; exact HB2.out.2.1), ?_⟩; exact Nat.lt_of_lt_of_le (HB2.out.2.2).2 (nbelow_cells (Below.refl J w2) (Nat.le_refl J) _ _).size); clear hW; refine hK.out _ _ (HS1.out _ HF9.out.1) (fun hHeld => ?_); clear hK K; (try simp only [Act.put, List.getElem_toArray, List.getElem_cons_succ, List.getElem_cons_zero, List.setIfInBounds_toArray, List.set_cons_zero, List.set_cons_succ]); refine wpAnyH_take (i := 14) (v := ?_) (by rfl) (by kernel_rfl) (by kernel_rfl) (by kernel_rfl) (fun _ _ _ h => h) (Or.inl ⟨by kernel_rfl, ?_⟩) (by assumption) ?_; rotate_left 1; (focus (intro w hSw; (try dsimp only at hSw); simp only [List.getElem_toArray, List.getElem_cons_succ, List.getElem_cons_zero]; all_goals go_simp; all_goals (try with_reducible rfl))); (try simp only [Act.put, List.getElem_toArray, List.getElem_cons_succ, List.getElem_cons_zero, List.setIfInBounds_toArray, List.set_cons_zero, List.set_cons_succ]); refine wpAnyH_done (by kernel_rfl) ?_ _; refine NoPanic.normal ?_; go_wp2_with fail; go_meet; exact ⟨J, rfl, HF9.out.1, HF9.out.2.1, (HB2.out.2.2).1, HF9.out.2.2⟩
  case rest =>
    obtain ⟨J, rfl, hb, hr, hj0, hj1⟩ := hcut; have HX : Hid (Below wA.heap.size wA wc ∧ wc.rangeAt C 0 cs ∧ wc.rangeAt J 0 (rowL F) ∧ World.there wc R 0 19 ∧ R < wc.heap.size) := (Lib.hid ⟨hb, range_below HA.out.2.1 hb (Nat.lt_trans HA.out.2.2.2.1 HA.out.2.2.2.2), hr, nthere_below HA.out.2.2.1 hb HA.out.2.2.2.2, Nat.lt_of_lt_of_le HA.out.2.2.2.2 hb.size⟩); clear hb hr hj0 hj1; have q6 := CallC.cell HX.out.2.1 6 _ hc.out.c6; go_wp2_with (first | (refine wpList_load_mid (by rfl) _ _ (by rfl) C 0 (by rfl) cs _ HX.out.2.1 Tryz.underlying84 rfl (by rw [hc.out.len]; exact infoCall) ?_) | (refine wpList_load_mid (by rfl) _ _ (by rfl) J 0 (by rfl) (rowL F) _ HX.out.2.2.1 Tryz.underlying128 rfl (by rw [rowL_len]; exact infoDomS) ?_) | (go_at_call 87; (refine (HFn.out _ (HA.out.1.trans (HX.out.1.mono HA.out.1.size))).mono ?_); rintro e w5 ⟨rfl, hq, hu⟩; have H5 : Hid (Q wc.heap.size w5.heap.size w5 ∧ UpT N w w5) := Lib.hid ⟨hq, (UpT.below (HA.out.1.trans (HX.out.1.mono HA.out.1.size))).trans hu⟩; have HT5 : Hid (World.there w5 R 0 19) := Lib.hid (nthere_same HX.out.2.2.2.1 (hu.2 R (by have h1 := HA.out.2.2.2.1; have h2 := HCl.out; omega) HX.out.2.2.2.2)); clear hq hu) | (refine wpList_store_mid (by rfl) _ _ _ (by rfl) R 0 nt.toArray (by rfl) (by rfl) (by rw [hsz]; exact HT5.out) (by rw [hsz]; exact infoNote) (all_one hn1) ?_)); have hRn : w.heap.size ≤ R := (by have := HA.out.2.2.2.1; have := HCl.out; omega); generalize hS : World.setCells w5 _ _ _ = wS; have HS : Hid (Below w.heap.size w5 wS ∧ wS.rangeAt R 0 nt) := Lib.hid (by rw [← hS]; exact ⟨nbelow_cells (Below.refl _ _) hRn _ _, World.rangeAt_setCells_same w5 R 0 nt (by rw [hnl]; exact HT5.out)⟩); have HQS : Hid (Q w.heap.size wS.heap.size wS) := Lib.hid (by rw [← hS]; exact HQ.out.store H5.out.1 _ (Nat.le_trans hN hRn) HX.out.2.2.2.2 (Nat.le_trans HA.out.1.size HX.out.1.size) (nbelow_cells (Below.refl 0 _) (Nat.zero_le _) _ _).size); clear hS; have hld := nload hnl HS.out.2; refine bodyPost_ret (v := (.agg nt.toArray)) (by simp [results, Tryz.results55, Act.put, asAddr, hld]) rfl ⟨rfl, HQS.out, H5.out.2.low HS.out.1 (Nat.le_refl _)⟩
set_option maxRecDepth 100000 in
set_option maxHeartbeats 2000000 in
theorem cdom_9q (hc : Hid (CallC cs s k0 k1 k2 k3 k4 9 x)) (F : Nat → Value) (hF : Hid (∀ j, j < 107 → (F j).oneCell' = true)) (g : Bool) (w : World) (hs : w.cell? ⟨s, 1, none⟩ = some (.pointer (some ⟨d, 0, none⟩))) (hG : ∀ W, Below w.heap.size w W → Calls Tryz.prog 72 #[.pointer (some ⟨d, 0, none⟩), .int .i64 k1] W fun e w' => e = .returned (.tuple #[.agg (rowL F).toArray, .bool g]) ∧ Below W.heap.size W w') (hnl : nt.length = 19) (hn1 : ∀ v, v ∈ nt → v.oneCell' = true) (hN : N ≤ w.heap.size) (hQ : QF N Q) (hFn : ∀ W, Below w.heap.size w W → Calls Tryz.prog 88 #[(.agg cs.toArray), .agg (rowL F).toArray] W fun e w' => e = .returned (.agg nt.toArray) ∧ Q W.heap.size w'.heap.size w' ∧ UpT N W w') : Calls Tryz.prog 55 #[(.agg cs.toArray)] w fun e w' => e = .returned (.agg nt.toArray) ∧ Q w.heap.size w'.heap.size w' ∧ UpT N w w' := by
  have HQ := Lib.hid hQ
  have HFn := Lib.hid hFn
  have hsz : nt.toArray.size = 19 := by simp [hnl]
  clear hQ hFn
  have HG := Lib.hid hG; have HSl : Hid (s < w.heap.size ∧ w.cell? ⟨s, 1, none⟩ = some (.pointer (some ⟨d, 0, none⟩))) := Lib.hid ⟨cell_lt hs, hs⟩; clear hG hs; go_enter Tryz.func55, Tryz.ntmps55; go_upto_region 1 with fail; generalize hA : World.alloc w _ = wK; obtain ⟨C, hC⟩ : ∃ C, C = w.heap.size := ⟨_, rfl⟩; have HK : Hid (Below w.heap.size w wK ∧ wK.rangeAt C 0 cs ∧ wK.heap.size = C + 1) := Lib.hid (by rw [← hA, hC]; exact ⟨(Below.refl _ _).alloc (Nat.le_refl _) _, cbox _ _ _, by simp⟩); have HCl : Hid (w.heap.size ≤ C) := Lib.hid (by rw [hC]; exact Nat.le_refl _); rw [← hC]; clear hA hC; generalize hA : World.alloc wK _ = wA; obtain ⟨R, hR⟩ : ∃ R, R = C + 1 := ⟨_, rfl⟩; have HA : Hid (Below w.heap.size w wA ∧ wA.rangeAt C 0 cs ∧ World.there wA R 0 19 ∧ C < R ∧ R < wA.heap.size) := Lib.hid (by rw [← hA, hR, ← HK.out.2.2]; exact ⟨HK.out.1.alloc HK.out.1.size _, range_below HK.out.2.1 ((Below.refl _ _).alloc (Nat.le_refl _) _) (by have := HK.out.2.2; omega), nthere_new _ _ 19 (by rfl) _, by have := HK.out.2.2; omega, by simp⟩); rw [← hR]; clear hA hR; have HS1 : Hid (∀ W, Below wA.heap.size wA W → (World.cell? W ⟨C, 0, none⟩ = some (.pointer (some ⟨s, 0, none⟩)) ∧ World.cell? W ⟨C, 2, none⟩ = some (.int .i64 k1) ∧ World.cell? W ⟨s, 1, none⟩ = some (.pointer (some ⟨d, 0, none⟩)))) := (Lib.hid (fun W hW => by have hr := range_below HA.out.2.1 hW (Nat.lt_trans HA.out.2.2.2.1 HA.out.2.2.2.2); exact ⟨CallC.cell hr 0 _ hc.out.c0, CallC.cell hr 2 _ hc.out.c2, ((HA.out.1.trans (hW.mono HA.out.1.size)).cell (p := ⟨s, 1, none⟩) HSl.out.1).trans HSl.out.2⟩))
  go_cut [3] (fun v wx => ∃ J : Nat, v = .pointer (some ⟨J, 0, none⟩) ∧ Below wA.heap.size wA wx ∧ wx.rangeAt J 0 (rowL F) ∧ wA.heap.size ≤ J ∧ J < wx.heap.size)
  case first =>
    obtain ⟨wD, hwD⟩ : ∃ wD, wD = wA.drew := ⟨_, rfl⟩; have HBd : Hid (Below wA.heap.size wA wD) := Lib.hid (by rw [hwD]; exact (Below.refl _ _).drew); refine wp_region_noPanic ?_; refine wp_region_held_drew (S := fun W => (World.cell? W ⟨C, 0, none⟩ = some (.pointer (some ⟨s, 0, none⟩)) ∧ World.cell? W ⟨C, 2, none⟩ = some (.int .i64 k1) ∧ World.cell? W ⟨s, 1, none⟩ = some (.pointer (some ⟨d, 0, none⟩)))) (by kernel_rfl) (by rw [← hwD]; exact HS1.out _ HBd.out) (fun hHeld => ?_); rw [← hwD] at hHeld ⊢; clear hwD; refine wpAnyH_take (i := 0) (v := ?_) (by rfl) (by kernel_rfl) (by kernel_rfl) (by kernel_rfl) (fun _ _ _ h => h) (Or.inl ⟨by kernel_rfl, ?_⟩) (by assumption) ?_; rotate_left 1; (focus (intro w hSw; (try dsimp only at hSw); simp only [List.getElem_toArray, List.getElem_cons_succ, List.getElem_cons_zero]; all_goals go_simp; all_goals (try with_reducible rfl))); (try simp only [Act.put, List.getElem_toArray, List.getElem_cons_succ, List.getElem_cons_zero, List.setIfInBounds_toArray, List.set_cons_zero, List.set_cons_succ]); refine wpAnyH_take (i := 1) (v := ?_) (by rfl) (by kernel_rfl) (by kernel_rfl) (by kernel_rfl) (fun _ _ _ h => h) (Or.inl ⟨by kernel_rfl, ?_⟩) (by assumption) ?_; rotate_left 1; (focus (intro w hSw; (try dsimp only at hSw); simp only [List.getElem_toArray, List.getElem_cons_succ, List.getElem_cons_zero]; all_goals go_simp; all_goals (try with_reducible rfl))); (try simp only [Act.put, List.getElem_toArray, List.getElem_cons_succ, List.getElem_cons_zero, List.setIfInBounds_toArray, List.set_cons_zero, List.set_cons_succ]); refine wpAnyH_take (i := 2) (v := ?_) (by rfl) (by kernel_rfl) (by kernel_rfl) (by kernel_rfl) (fun _ _ _ h => h) (Or.inl ⟨by kernel_rfl, ?_⟩) (by assumption) ?_; rotate_left 1; (focus (intro w hSw; (try dsimp only at hSw); simp only [List.getElem_toArray, List.getElem_cons_succ, List.getElem_cons_zero]; all_goals go_simp; all_goals (try with_reducible rfl))); (try simp only [Act.put, List.getElem_toArray, List.getElem_cons_succ, List.getElem_cons_zero, List.setIfInBounds_toArray, List.set_cons_zero, List.set_cons_succ]); refine wpAnyH_take (i := 3) (v := ?_) (by rfl) (by kernel_rfl) (by kernel_rfl) (by kernel_rfl) (fun _ _ _ h => h) (Or.inl ⟨by kernel_rfl, ?_⟩) (by assumption) ?_; rotate_left 1; (focus (intro w hSw; (try dsimp only at hSw); simp only [List.getElem_toArray, List.getElem_cons_succ, List.getElem_cons_zero]; all_goals go_simp; all_goals (try with_reducible rfl))); (try simp only [Act.put, List.getElem_toArray, List.getElem_cons_succ, List.getElem_cons_zero, List.setIfInBounds_toArray, List.set_cons_zero, List.set_cons_succ]); refine wpAnyH_take (i := 4) (v := ?_) (by rfl) (by kernel_rfl) (by kernel_rfl) (by kernel_rfl) (fun _ _ _ h => h) (Or.inl ⟨by kernel_rfl, ?_⟩) (by assumption) ?_; rotate_left 1; (focus (intro w hSw; (try dsimp only at hSw); simp only [List.getElem_toArray, List.getElem_cons_succ, List.getElem_cons_zero]; all_goals go_simp; all_goals (try with_reducible rfl))); (try simp only [Act.put, List.getElem_toArray, List.getElem_cons_succ, List.getElem_cons_zero, List.setIfInBounds_toArray, List.set_cons_zero, List.set_cons_succ]); refine wpAnyH_take (i := 5) (v := ?_) (by rfl) (by kernel_rfl) (by kernel_rfl) (by kernel_rfl) (fun _ _ _ h => h) (Or.inl ⟨by kernel_rfl, ?_⟩) (by assumption) ?_; rotate_left 1; (focus (intro w hSw; (try dsimp only at hSw); simp only [List.getElem_toArray, List.getElem_cons_succ, List.getElem_cons_zero]; all_goals go_simp; all_goals (try with_reducible rfl))); (try simp only [Act.put, List.getElem_toArray, List.getElem_cons_succ, List.getElem_cons_zero, List.setIfInBounds_toArray, List.set_cons_zero, List.set_cons_succ]); refine wpAnyH_take (i := 6) (v := ?_) (by rfl) (by kernel_rfl) (by kernel_rfl) (by kernel_rfl) (fun _ _ _ h => h) (Or.inl ⟨by kernel_rfl, ?_⟩) (by assumption) ?_; rotate_left 1; (focus (intro w hSw; (try dsimp only at hSw); simp only [List.getElem_toArray, List.getElem_cons_succ, List.getElem_cons_zero]; all_goals go_simp; all_goals (try with_reducible rfl))); (try simp only [Act.put, List.getElem_toArray, List.getElem_cons_succ, List.getElem_cons_zero, List.setIfInBounds_toArray, List.set_cons_zero, List.set_cons_succ]); refine wpAnyH_take (i := 7) (v := ?_) (by rfl) (by kernel_rfl) (by kernel_rfl) (by kernel_rfl) (fun _ _ _ h => h) (Or.inl ⟨by kernel_rfl, ?_⟩) (by assumption) ?_; rotate_left 1; (focus (intro w hSw; (try dsimp only at hSw); simp only [List.getElem_toArray, List.getElem_cons_succ, List.getElem_cons_zero]; all_goals go_simp; all_goals (try with_reducible rfl))); (try simp only [Act.put, List.getElem_toArray, List.getElem_cons_succ, List.getElem_cons_zero, List.setIfInBounds_toArray, List.set_cons_zero, List.set_cons_succ]); refine wpAnyH_ready (rs := [8, 12]) (by kernel_rfl) (by simp) ?_; refine AllReadyH.cons (by rfl) (fun K hK => ?_) (AllReadyH.cons (by rfl) (fun K hK => ?_) AllReadyH.nil)
    · rw [if_pos (by kernel_rfl)]; simp only [List.getElem_toArray, List.getElem_cons_succ, List.getElem_cons_zero]; go_wp2_with (first | (go_at_call 72; (with_reducible refine (HG.out _ (HA.out.1.trans (HBd.out.mono HA.out.1.size))).mono ?_); rintro e w2 ⟨rfl, hb⟩; have HB2 := Lib.hid (HBd.out.trans (hb.mono HBd.out.size)); clear hb)); refine hK.out _ _ (HS1.out _ HB2.out) (fun hHeld => ?_); clear hK K; (try simp only [Act.put, List.getElem_toArray, List.getElem_cons_succ, List.getElem_cons_zero, List.setIfInBounds_toArray, List.set_cons_zero, List.set_cons_succ]); refine wpAnyH_take (i := 9) (v := ?_) (by rfl) (by kernel_rfl) (by kernel_rfl) (by kernel_rfl) (fun _ _ _ h => h) (Or.inl ⟨by kernel_rfl, ?_⟩) (by assumption) ?_; rotate_left 1; (focus (intro w hSw; (try dsimp only at hSw); simp only [List.getElem_toArray, List.getElem_cons_succ, List.getElem_cons_zero]; all_goals go_simp; all_goals (try with_reducible rfl))); (try simp only [Act.put, List.getElem_toArray, List.getElem_cons_succ, List.getElem_cons_zero, List.setIfInBounds_toArray, List.set_cons_zero, List.set_cons_succ]); refine wpAnyH_take (i := 10) (v := ?_) (by rfl) (by kernel_rfl) (by kernel_rfl) (by kernel_rfl) (fun _ _ _ h => h) (Or.inl ⟨by kernel_rfl, ?_⟩) (by assumption) ?_; rotate_left 1; (focus (intro w hSw; (try dsimp only at hSw); simp only [List.getElem_toArray, List.getElem_cons_succ, List.getElem_cons_zero]; all_goals go_simp; all_goals (try with_reducible rfl))); (try simp only [Act.put, List.getElem_toArray, List.getElem_cons_succ, List.getElem_cons_zero, List.setIfInBounds_toArray, List.set_cons_zero, List.set_cons_succ]); refine wpAnyH_take (i := 11) (v := ?_) (by rfl) (by kernel_rfl) (by kernel_rfl) (by kernel_rfl) (fun _ _ _ h => h) (Or.inl ⟨by kernel_rfl, ?_⟩) (by assumption) ?_; rotate_left 1; (focus (intro w hSw; (try dsimp only at hSw); simp only [List.getElem_toArray, List.getElem_cons_succ, List.getElem_cons_zero]; all_goals go_simp; all_goals (try with_reducible rfl))); (try simp only [Act.put, List.getElem_toArray, List.getElem_cons_succ, List.getElem_cons_zero, List.setIfInBounds_toArray, List.set_cons_zero, List.set_cons_succ]); refine wpAnyH_ready (rs := [12]) (by kernel_rfl) (by simp) ?_; refine AllReadyH.cons (by rfl) (fun K hK => ?_) AllReadyH.nil; rw [if_pos (by kernel_rfl)]; simp only [List.getElem_toArray, List.getElem_cons_succ, List.getElem_cons_zero]; go_wp2_with fail; generalize hE : World.alloc w2 _ = wE; obtain ⟨J, hJ⟩ : ∃ J, J = w2.heap.size := ⟨_, rfl⟩; have HE : Hid (Below wA.heap.size wA wE ∧ World.there wE J 0 107 ∧ wA.heap.size ≤ J ∧ J < wE.heap.size) := Lib.hid (by rw [← hE, hJ]; exact ⟨(HB2.out).alloc (HB2.out).size _, nthere_new _ _ 107 zsize _, (HB2.out).size, by simp⟩); rw [← hJ]; clear hE hJ; refine hK.out _ _ (HS1.out _ HE.out.1) (fun hHeld => ?_); clear hK K; (try simp only [Act.put, List.getElem_toArray, List.getElem_cons_succ, List.getElem_cons_zero, List.setIfInBounds_toArray, List.set_cons_zero, List.set_cons_succ]); refine wpAnyH_ready (rs := [13]) (by kernel_rfl) (by simp) ?_; refine AllReadyH.cons (by rfl) (fun K hK => ?_) AllReadyH.nil; rw [if_pos (by kernel_rfl)]; simp only [List.getElem_toArray, List.getElem_cons_succ, List.getElem_cons_zero]; refine wp_store_mid 128 (Operand.tmp 3) (Operand.tmp 15) (by rfl) J 0 (rowL F).toArray (by rfl) (by rfl) (by rw [rowL_size]; exact HE.out.2.1) (by rw [rowL_size]; exact infoDomS) (rowL_one F hF.out) ?_; generalize hW : World.setCells wE _ _ _ = wF; have HF9 : Hid (Below wA.heap.size wA wF ∧ wF.rangeAt J 0 (rowL F) ∧ J < wF.heap.size) := Lib.hid (by rw [← hW]; refine ⟨nbelow_cells HE.out.1 (HE.out.2.2).1 _ _, World.rangeAt_setCells_same wE J 0 (rowL F) (by rw [rowL_len]; exact HE.out.2.1), ?_⟩; exact Nat.lt_of_lt_of_le (HE.out.2.2).2 (nbelow_cells (Below.refl J wE) (Nat.le_refl J) _ _).size); clear hW; refine hK.out _ _ (HS1.out _ HF9.out.1) (fun hHeld => ?_); clear hK K; (try simp only [Act.put, List.getElem_toArray, List.getElem_cons_succ, List.getElem_cons_zero, List.setIfInBounds_toArray, List.set_cons_zero, List.set_cons_succ]); refine wpAnyH_take (i := 14) (v := ?_) (by rfl) (by kernel_rfl) (by kernel_rfl) (by kernel_rfl) (fun _ _ _ h => h) (Or.inl ⟨by kernel_rfl, ?_⟩) (by assumption) ?_; rotate_left 1; (focus (intro w hSw; (try dsimp only at hSw); simp only [List.getElem_toArray, List.getElem_cons_succ, List.getElem_cons_zero]; all_goals go_simp; all_goals (try with_reducible rfl))); (try simp only [Act.put, List.getElem_toArray, List.getElem_cons_succ, List.getElem_cons_zero, List.setIfInBounds_toArray, List.set_cons_zero, List.set_cons_succ]); refine wpAnyH_done (by kernel_rfl) ?_ _; refine NoPanic.normal ?_; go_wp2_with fail; go_meet; exact ⟨J, rfl, HF9.out.1, HF9.out.2.1, (HE.out.2.2).1, HF9.out.2.2⟩
    · rw [if_pos (by kernel_rfl)]; simp only [List.getElem_toArray, List.getElem_cons_succ, List.getElem_cons_zero]; go_wp2_with fail; generalize hE : World.alloc wD _ = wE; obtain ⟨J, hJ⟩ : ∃ J, J = wD.heap.size := ⟨_, rfl⟩; have HE : Hid (Below wA.heap.size wA wE ∧ World.there wE J 0 107 ∧ wA.heap.size ≤ J ∧ J < wE.heap.size) := Lib.hid (by rw [← hE, hJ]; exact ⟨(HBd.out).alloc (HBd.out).size _, nthere_new _ _ 107 zsize _, (HBd.out).size, by simp⟩); rw [← hJ]; clear hE hJ; refine hK.out _ _ (HS1.out _ HE.out.1) (fun hHeld => ?_); clear hK K; (try simp only [Act.put, List.getElem_toArray, List.getElem_cons_succ, List.getElem_cons_zero, List.setIfInBounds_toArray, List.set_cons_zero, List.set_cons_succ]); refine wpAnyH_ready (rs := [8]) (by kernel_rfl) (by simp) ?_; refine AllReadyH.cons (by rfl) (fun K hK => ?_) AllReadyH.nil; rw [if_pos (by kernel_rfl)]; simp only [List.getElem_toArray, List.getElem_cons_succ, List.getElem_cons_zero]; go_wp2_with (first | (go_at_call 72; (with_reducible refine (HG.out _ (HA.out.1.trans (HE.out.1.mono HA.out.1.size))).mono ?_); rintro e w2 ⟨rfl, hb⟩; have HB2 : Hid (Below wA.heap.size wA w2 ∧ World.there w2 J 0 107 ∧ wA.heap.size ≤ J ∧ J < w2.heap.size) := Lib.hid ⟨HE.out.1.trans (hb.mono HE.out.1.size), nthere_below HE.out.2.1 hb HE.out.2.2.2, HE.out.2.2.1, Nat.lt_of_lt_of_le HE.out.2.2.2 hb.size⟩; clear hb)); refine hK.out _ _ (HS1.out _ HB2.out.1) (fun hHeld => ?_); clear hK K; (try simp only [Act.put, List.getElem_toArray, List.getElem_cons_succ, List.getElem_cons_zero, List.setIfInBounds_toArray, List.set_cons_zero, List.set_cons_succ]); refine wpAnyH_take (i := 9) (v := ?_) (by rfl) (by kernel_rfl) (by kernel_rfl) (by kernel_rfl) (fun _ _ _ h => h) (Or.inl ⟨by kernel_rfl, ?_⟩) (by assumption) ?_; rotate_left 1; (focus (intro w hSw; (try dsimp only at hSw); simp only [List.getElem_toArray, List.getElem_cons_succ, List.getElem_cons_zero]; all_goals go_simp; all_goals (try with_reducible rfl))); (try simp only [Act.put, List.getElem_toArray, List.getElem_cons_succ, List.getElem_cons_zero, List.setIfInBounds_toArray, List.set_cons_zero, List.set_cons_succ]); refine wpAnyH_take (i := 10) (v := ?_) (by rfl) (by kernel_rfl) (by kernel_rfl) (by kernel_rfl) (fun _ _ _ h => h) (Or.inl ⟨by kernel_rfl, ?_⟩) (by assumption) ?_; rotate_left 1; (focus (intro w hSw; (try dsimp only at hSw); simp only [List.getElem_toArray, List.getElem_cons_succ, List.getElem_cons_zero]; all_goals go_simp; all_goals (try with_reducible rfl))); (try simp only [Act.put, List.getElem_toArray, List.getElem_cons_succ, List.getElem_cons_zero, List.setIfInBounds_toArray, List.set_cons_zero, List.set_cons_succ]); refine wpAnyH_take (i := 11) (v := ?_) (by rfl) (by kernel_rfl) (by kernel_rfl) (by kernel_rfl) (fun _ _ _ h => h) (Or.inl ⟨by kernel_rfl, ?_⟩) (by assumption) ?_; rotate_left 1; (focus (intro w hSw; (try dsimp only at hSw); simp only [List.getElem_toArray, List.getElem_cons_succ, List.getElem_cons_zero]; all_goals go_simp; all_goals (try with_reducible rfl))); (try simp only [Act.put, List.getElem_toArray, List.getElem_cons_succ, List.getElem_cons_zero, List.setIfInBounds_toArray, List.set_cons_zero, List.set_cons_succ]); refine wpAnyH_ready (rs := [13]) (by kernel_rfl) (by simp) ?_; refine AllReadyH.cons (by rfl) (fun K hK => ?_) AllReadyH.nil; rw [if_pos (by kernel_rfl)]; simp only [List.getElem_toArray, List.getElem_cons_succ, List.getElem_cons_zero]; refine wp_store_mid 128 (Operand.tmp 3) (Operand.tmp 15) (by rfl) J 0 (rowL F).toArray (by rfl) (by rfl) (by rw [rowL_size]; exact HB2.out.2.1) (by rw [rowL_size]; exact infoDomS) (rowL_one F hF.out) ?_; generalize hW : World.setCells w2 _ _ _ = wF; have HF9 : Hid (Below wA.heap.size wA wF ∧ wF.rangeAt J 0 (rowL F) ∧ J < wF.heap.size) := Lib.hid (by rw [← hW]; refine ⟨nbelow_cells HB2.out.1 (HB2.out.2.2).1 _ _, World.rangeAt_setCells_same w2 J 0 (rowL F) (by rw [rowL_len]; exact HB2.out.2.1), ?_⟩; exact Nat.lt_of_lt_of_le (HB2.out.2.2).2 (nbelow_cells (Below.refl J w2) (Nat.le_refl J) _ _).size); clear hW; refine hK.out _ _ (HS1.out _ HF9.out.1) (fun hHeld => ?_); clear hK K; (try simp only [Act.put, List.getElem_toArray, List.getElem_cons_succ, List.getElem_cons_zero, List.setIfInBounds_toArray, List.set_cons_zero, List.set_cons_succ]); refine wpAnyH_take (i := 14) (v := ?_) (by rfl) (by kernel_rfl) (by kernel_rfl) (by kernel_rfl) (fun _ _ _ h => h) (Or.inl ⟨by kernel_rfl, ?_⟩) (by assumption) ?_; rotate_left 1; (focus (intro w hSw; (try dsimp only at hSw); simp only [List.getElem_toArray, List.getElem_cons_succ, List.getElem_cons_zero]; all_goals go_simp; all_goals (try with_reducible rfl))); (try simp only [Act.put, List.getElem_toArray, List.getElem_cons_succ, List.getElem_cons_zero, List.setIfInBounds_toArray, List.set_cons_zero, List.set_cons_succ]); refine wpAnyH_done (by kernel_rfl) ?_ _; refine NoPanic.normal ?_; go_wp2_with fail; go_meet; exact ⟨J, rfl, HF9.out.1, HF9.out.2.1, (HB2.out.2.2).1, HF9.out.2.2⟩
  case rest =>
    obtain ⟨J, rfl, hb, hr, hj0, hj1⟩ := hcut; have HX : Hid (Below wA.heap.size wA wc ∧ wc.rangeAt C 0 cs ∧ wc.rangeAt J 0 (rowL F) ∧ World.there wc R 0 19 ∧ R < wc.heap.size) := (Lib.hid ⟨hb, range_below HA.out.2.1 hb (Nat.lt_trans HA.out.2.2.2.1 HA.out.2.2.2.2), hr, nthere_below HA.out.2.2.1 hb HA.out.2.2.2.2, Nat.lt_of_lt_of_le HA.out.2.2.2.2 hb.size⟩); clear hb hr hj0 hj1; have q6 := CallC.cell HX.out.2.1 6 _ hc.out.c6; go_wp2_with (first | (refine wpList_load_mid (by rfl) _ _ (by rfl) C 0 (by rfl) cs _ HX.out.2.1 Tryz.underlying84 rfl (by rw [hc.out.len]; exact infoCall) ?_) | (refine wpList_load_mid (by rfl) _ _ (by rfl) J 0 (by rfl) (rowL F) _ HX.out.2.2.1 Tryz.underlying128 rfl (by rw [rowL_len]; exact infoDomS) ?_) | (go_at_call 88; (refine (HFn.out _ (HA.out.1.trans (HX.out.1.mono HA.out.1.size))).mono ?_); rintro e w5 ⟨rfl, hq, hu⟩; have H5 : Hid (Q wc.heap.size w5.heap.size w5 ∧ UpT N w w5) := Lib.hid ⟨hq, (UpT.below (HA.out.1.trans (HX.out.1.mono HA.out.1.size))).trans hu⟩; have HT5 : Hid (World.there w5 R 0 19) := Lib.hid (nthere_same HX.out.2.2.2.1 (hu.2 R (by have h1 := HA.out.2.2.2.1; have h2 := HCl.out; omega) HX.out.2.2.2.2)); clear hq hu) | (refine wpList_store_mid (by rfl) _ _ _ (by rfl) R 0 nt.toArray (by rfl) (by rfl) (by rw [hsz]; exact HT5.out) (by rw [hsz]; exact infoNote) (all_one hn1) ?_)); have hRn : w.heap.size ≤ R := (by have := HA.out.2.2.2.1; have := HCl.out; omega); generalize hS : World.setCells w5 _ _ _ = wS; have HS : Hid (Below w.heap.size w5 wS ∧ wS.rangeAt R 0 nt) := Lib.hid (by rw [← hS]; exact ⟨nbelow_cells (Below.refl _ _) hRn _ _, World.rangeAt_setCells_same w5 R 0 nt (by rw [hnl]; exact HT5.out)⟩); have HQS : Hid (Q w.heap.size wS.heap.size wS) := Lib.hid (by rw [← hS]; exact HQ.out.store H5.out.1 _ (Nat.le_trans hN hRn) HX.out.2.2.2.2 (Nat.le_trans HA.out.1.size HX.out.1.size) (nbelow_cells (Below.refl 0 _) (Nat.zero_le _) _ _).size); clear hS; have hld := nload hnl HS.out.2; refine bodyPost_ret (v := (.agg nt.toArray)) (by simp [results, Tryz.results55, Act.put, asAddr, hld]) rfl ⟨rfl, HQS.out, H5.out.2.low HS.out.1 (Nat.le_refl _)⟩
set_option maxRecDepth 100000 in
set_option maxHeartbeats 2000000 in
theorem oanswer_domainq (hnl : nt.length = 19) (hn1 : ∀ v, v ∈ nt → v.oneCell' = true) (hc : Hid (CallC cs s 4 k1 k2 k3 k4 o x)) (w : World) (hN : N ≤ w.heap.size) (hQ : QF N Q)
    (hm : ∀ W, Below w.heap.size w W → Calls Tryz.prog 55 #[(.agg cs.toArray)] W fun e w' => e = .returned (.agg nt.toArray) ∧ Q W.heap.size w'.heap.size w' ∧ UpT N W w') :
    Calls Tryz.prog 29 #[(.agg cs.toArray)] w fun e w' => e = .returned (.agg nt.toArray) ∧ Q w.heap.size w'.heap.size w' ∧ UpT N w w' := by
  have HQ := Lib.hid hQ
  have HM := Lib.hid hm
  have hsz : nt.toArray.size = 19 := by simp [hnl]
  clear hQ hm
  go_enter Tryz.func29, Tryz.ntmps29; go_upto_region 1 with fail; generalize hA : World.alloc w _ = wK; obtain ⟨C, hC⟩ : ∃ C, C = w.heap.size := ⟨_, rfl⟩; have HK : Hid (Below w.heap.size w wK ∧ wK.rangeAt C 0 cs ∧ wK.heap.size = C + 1) := Lib.hid (by rw [← hA, hC]; exact ⟨(Below.refl _ _).alloc (Nat.le_refl _) _, cbox _ _ _, by simp⟩); have HCl : Hid (w.heap.size ≤ C) := Lib.hid (by rw [hC]; exact Nat.le_refl _); rw [← hC]; clear hA hC; generalize hA : World.alloc wK _ = wA; obtain ⟨R, hR⟩ : ∃ R, R = C + 1 := ⟨_, rfl⟩; have HA : Hid (Below w.heap.size w wA ∧ wA.rangeAt C 0 cs ∧ World.there wA R 0 19 ∧ C < R ∧ R < wA.heap.size) := Lib.hid (by rw [← hA, hR, ← HK.out.2.2]; exact ⟨HK.out.1.alloc HK.out.1.size _, range_below HK.out.2.1 ((Below.refl _ _).alloc (Nat.le_refl _) _) (by have := HK.out.2.2; omega), nthere_new _ _ 19 (by rfl) _, by have := HK.out.2.2; omega, by simp⟩); rw [← hR]; clear hA hR
  have q1 := CallC.cell HA.out.2.1 1 _ hc.out.c1
  go_upto_region 9 with fail
  go_wp2_with (first
    | (refine wpList_load_mid (by rfl) _ _ (by rfl) C 0 (by rfl) cs _ HA.out.2.1 Tryz.underlying84 rfl (by rw [hc.out.len]; exact infoCall) ?_)
    | (go_at_call 55; (with_reducible refine (HM.out _ HA.out.1).mono ?_); rintro e w1 ⟨rfl, hq, hu⟩; have H1 := Lib.hid hq; have HU1 := Lib.hid hu; have HT1 : Hid (World.there w1 R 0 19) := Lib.hid (nthere_same HA.out.2.2.1 (hu.2 R (by have := HA.out.2.2.2.1; have := HCl.out; omega) HA.out.2.2.2.2)); clear hq hu)
    | (refine wpList_store_mid (by rfl) _ _ _ (by rfl) R 0 nt.toArray (by rfl) (by rfl) (by rw [hsz]; exact HT1.out) (by rw [hsz]; exact infoNote) (all_one hn1) ?_))
  have hRn : w.heap.size ≤ R := by have := HA.out.2.2.2.1; have := HCl.out; omega
  have HS : Hid (Below w.heap.size w1 (w1.setCells R 0 nt.toArray.toList) ∧ (w1.setCells R 0 nt.toArray.toList).rangeAt R 0 nt) := Lib.hid ⟨nbelow_cells (Below.refl _ _) hRn _ _, World.rangeAt_setCells_same w1 R 0 nt (by rw [hnl]; exact HT1.out)⟩
  have hld := nload hnl HS.out.2
  refine bodyPost_ret (v := (.agg nt.toArray)) (by simp [results, Tryz.results29, Act.put, asAddr, hld]) rfl ⟨rfl, HQ.out.store H1.out _ (Nat.le_trans hN hRn) HA.out.2.2.2.2 HA.out.1.size (nbelow_cells (Below.refl 0 _) (Nat.zero_le _) _ _).size, ((UpT.below HA.out.1).trans HU1.out).low HS.out.1 (Nat.le_refl _)⟩
end
set_option maxRecDepth 100000 in
set_option maxHeartbeats 4000000 in
theorem oanswerq {Q : Nat → Nat → World → Prop} {nt : List Value} (hnl : nt.length = 19) (hn1 : ∀ v, v ∈ nt → v.oneCell' = true) (s : Nat) (k0 k1 k2 k3 k4 : Int) (r0 r1 r2 r3 r4 : Int) (o a b c : Int) (m0 m1 m2 m3 m4 : Int) (n0 n1 n2 n3 n4 : Int) (p0 p1 p2 p3 p4 : Int) (x0 x1 x2 x3 x4 : Int) (y0 y1 y2 y3 y4 : Int) (z0 z1 z2 z3 z4 : Int) (h5 : (r0 == 5) = false) (h6 : (r0 == 6) = false) {N : Nat} (w : World) (hN : N ≤ w.heap.size)
    (hQ : QF N Q) (hk : (∀ W, Below w.heap.size w W → Calls Tryz.prog 10 #[.pointer (some ⟨s, 0, none⟩), (Value.agg #[.int .i64 k0, .int .i64 k1, .int .i64 k2, .int .i64 k3, .int .u32 k4])] W fun e w' => e = .returned (Value.agg #[.int .i64 r0, .int .i64 r1, .int .i64 r2, .int .i64 r3, .int .u32 r4]) ∧ Below W.heap.size W w')) (hm : (∀ W, Below w.heap.size w W → Calls Tryz.prog 10 #[.pointer (some ⟨s, 0, none⟩), (Value.agg #[.int .i64 m0, .int .i64 m1, .int .i64 m2, .int .i64 m3, .int .u32 m4])] W fun e w' => e = .returned (Value.agg #[.int .i64 x0, .int .i64 x1, .int .i64 x2, .int .i64 x3, .int .u32 x4]) ∧ Below W.heap.size W w')) (hn : (∀ W, Below w.heap.size w W → Calls Tryz.prog 10 #[.pointer (some ⟨s, 0, none⟩), (Value.agg #[.int .i64 n0, .int .i64 n1, .int .i64 n2, .int .i64 n3, .int .u32 n4])] W fun e w' => e = .returned (Value.agg #[.int .i64 y0, .int .i64 y1, .int .i64 y2, .int .i64 y3, .int .u32 y4]) ∧ Below W.heap.size W w')) (hp : (∀ W, Below w.heap.size w W → Calls Tryz.prog 10 #[.pointer (some ⟨s, 0, none⟩), (Value.agg #[.int .i64 p0, .int .i64 p1, .int .i64 p2, .int .i64 p3, .int .u32 p4])] W fun e w' => e = .returned (Value.agg #[.int .i64 z0, .int .i64 z1, .int .i64 z2, .int .i64 z3, .int .u32 z4]) ∧ Below W.heap.size W w'))
    (ha : ∀ W, Below w.heap.size w W → Calls Tryz.prog 29 #[.agg ([.pointer (some ⟨s, 0, none⟩), .int .i64 r0, .int .i64 r1, .int .i64 r2, .int .i64 r3, .int .u32 r4, .int .u32 o, .int .u32 a, .int .u32 b, .int .u32 c, .int .i64 x0, .int .i64 x1, .int .i64 x2, .int .i64 x3, .int .u32 x4, .int .i64 y0, .int .i64 y1, .int .i64 y2, .int .i64 y3, .int .u32 y4, .int .i64 z0, .int .i64 z1, .int .i64 z2, .int .i64 z3, .int .u32 z4] : List Value).toArray] W fun e w' => e = .returned (.agg nt.toArray) ∧ Q W.heap.size w'.heap.size w' ∧ UpT N W w') :
    Calls Tryz.prog 12 #[.pointer (some ⟨s, 0, none⟩), (Value.agg #[.int .i64 k0, .int .i64 k1, .int .i64 k2, .int .i64 k3, .int .u32 k4]), (Value.agg #[.int .u32 o, .int .u32 a, .int .u32 b, .int .u32 c, .int .i64 m0, .int .i64 m1, .int .i64 m2, .int .i64 m3, .int .u32 m4, .int .i64 n0, .int .i64 n1, .int .i64 n2, .int .i64 n3, .int .u32 n4, .int .i64 p0, .int .i64 p1, .int .i64 p2, .int .i64 p3, .int .u32 p4])] w fun e w' => e = .returned (.tuple #[.agg nt.toArray, .bool true]) ∧ Q w.heap.size w'.heap.size w' ∧ UpT N w w' := by
  have HQ := Lib.hid hQ
  have HSk := Lib.hid hk
  have HSm := Lib.hid hm
  have HSn := Lib.hid hn
  have HSp := Lib.hid hp
  have HAn := Lib.hid ha
  clear hQ hk hm hn hp ha
  go_enter Tryz.func12, Tryz.ntmps12
  go_upto_region 1 with fail
  generalize hA : World.alloc w _ = wa
  obtain ⟨KB, hKB⟩ : ∃ KB, KB = w.heap.size := ⟨_, rfl⟩
  have HK : Hid (Below w.heap.size w wa ∧ KeyC wa KB k0 k1 k2 k3 k4 ∧ wa.heap.size = KB + 1 ∧ w.heap.size ≤ KB) := Lib.hid (by rw [← hA, hKB]; exact ⟨(Below.refl _ _).alloc (Nat.le_refl _) _, KeyC.new w k0 k1 k2 k3 k4 _, by simp, Nat.le_refl _⟩)
  rw [← hKB]
  clear hA hKB
  generalize hA : World.alloc wa _ = wb
  obtain ⟨J, hJ⟩ : ∃ J, J = KB + 1 := ⟨_, rfl⟩
  have HJ : Hid (Below w.heap.size w wb ∧ KeyC wb KB k0 k1 k2 k3 k4 ∧ wb.rangeAt J 0 ([.int .u32 o, .int .u32 a, .int .u32 b, .int .u32 c, .int .i64 m0, .int .i64 m1, .int .i64 m2, .int .i64 m3, .int .u32 m4, .int .i64 n0, .int .i64 n1, .int .i64 n2, .int .i64 n3, .int .u32 n4, .int .i64 p0, .int .i64 p1, .int .i64 p2, .int .i64 p3, .int .u32 p4] : List Value) ∧ wb.heap.size = J + 1 ∧ w.heap.size ≤ J) := Lib.hid (by rw [← hA, hJ, ← HK.out.2.2.1]; exact ⟨HK.out.1.alloc HK.out.1.size _, HK.out.2.1.below ((Below.refl _ _).alloc (Nat.le_refl _) _), cbox _ _ _, by simp, HK.out.1.size⟩)
  rw [← hJ]
  clear hA hJ
  generalize hA : World.alloc wb _ = wd
  obtain ⟨R, hR⟩ : ∃ R, R = J + 1 := ⟨_, rfl⟩
  have HR : Hid (Below w.heap.size w wd ∧ KeyC wd KB k0 k1 k2 k3 k4 ∧ wd.rangeAt J 0 ([.int .u32 o, .int .u32 a, .int .u32 b, .int .u32 c, .int .i64 m0, .int .i64 m1, .int .i64 m2, .int .i64 m3, .int .u32 m4, .int .i64 n0, .int .i64 n1, .int .i64 n2, .int .i64 n3, .int .u32 n4, .int .i64 p0, .int .i64 p1, .int .i64 p2, .int .i64 p3, .int .u32 p4] : List Value) ∧ World.there wd R 0 19 ∧ J < R ∧ R < wd.heap.size ∧ w.heap.size ≤ R) := Lib.hid (by rw [← hA, hR, ← HJ.out.2.2.2.1]; exact ⟨HJ.out.1.alloc HJ.out.1.size _, HJ.out.2.1.below ((Below.refl _ _).alloc (Nat.le_refl _) _), range_below HJ.out.2.2.1 ((Below.refl _ _).alloc (Nat.le_refl _) _) (by have := HJ.out.2.2.2.1; omega), nthere_new _ _ 19 (by rfl) _, by have := HJ.out.2.2.2.1; omega, by simp, HJ.out.1.size⟩)
  rw [← hR]
  clear hA hR
  go_cut [8] (fun u wx => ∃ C, u = .pointer (some ⟨C, 0, none⟩) ∧ Below wd.heap.size wd wx ∧ wx.rangeAt C 0 ([.pointer (some ⟨s, 0, none⟩), .int .i64 r0, .int .i64 r1, .int .i64 r2, .int .i64 r3, .int .u32 r4, .int .u32 o, .int .u32 a, .int .u32 b, .int .u32 c, .int .i64 m0, .int .i64 m1, .int .i64 m2, .int .i64 m3, .int .u32 m4, .int .i64 n0, .int .i64 n1, .int .i64 n2, .int .i64 n3, .int .u32 n4, .int .i64 p0, .int .i64 p1, .int .i64 p2, .int .i64 p3, .int .u32 p4] : List Value) ∧ World.there wx C 0 25 ∧ wd.heap.size ≤ C ∧ C < wx.heap.size)
  case first =>
    obtain ⟨wD, hwD⟩ : ∃ wD, wD = wd.drew := ⟨_, rfl⟩
    have HBd : Hid (Below wd.heap.size wd wD) := Lib.hid (by rw [hwD]; exact (Below.refl _ _).drew)
    have HS1 : Hid (∀ W, Below wd.heap.size wd W → ((World.cell? W ⟨KB, 0, none⟩ = some (.int .i64 k0) ∧ World.cell? W ⟨KB, 1, none⟩ = some (.int .i64 k1) ∧ World.cell? W ⟨KB, 2, none⟩ = some (.int .i64 k2) ∧ World.cell? W ⟨KB, 3, none⟩ = some (.int .i64 k3) ∧ World.cell? W ⟨KB, 4, none⟩ = some (.int .u32 k4)) ∧ World.rangeAt W J 0 ([.int .u32 o, .int .u32 a, .int .u32 b, .int .u32 c, .int .i64 m0, .int .i64 m1, .int .i64 m2, .int .i64 m3, .int .u32 m4, .int .i64 n0, .int .i64 n1, .int .i64 n2, .int .i64 n3, .int .u32 n4, .int .i64 p0, .int .i64 p1, .int .i64 p2, .int .i64 p3, .int .u32 p4] : List Value))) := Lib.hid (fun W hW => ⟨ofive (HR.out.2.1.below hW), range_below HR.out.2.2.1 hW (Nat.lt_trans HR.out.2.2.2.2.1 HR.out.2.2.2.2.2.1)⟩)
    refine wp_region_noPanic ?_
    refine wp_region_held_drew (S := fun w' => ((World.cell? w' ⟨KB, 0, none⟩ = some (.int .i64 k0) ∧ World.cell? w' ⟨KB, 1, none⟩ = some (.int .i64 k1) ∧ World.cell? w' ⟨KB, 2, none⟩ = some (.int .i64 k2) ∧ World.cell? w' ⟨KB, 3, none⟩ = some (.int .i64 k3) ∧ World.cell? w' ⟨KB, 4, none⟩ = some (.int .u32 k4)) ∧ World.rangeAt w' J 0 ([.int .u32 o, .int .u32 a, .int .u32 b, .int .u32 c, .int .i64 m0, .int .i64 m1, .int .i64 m2, .int .i64 m3, .int .u32 m4, .int .i64 n0, .int .i64 n1, .int .i64 n2, .int .i64 n3, .int .u32 n4, .int .i64 p0, .int .i64 p1, .int .i64 p2, .int .i64 p3, .int .u32 p4] : List Value))) (by kernel_rfl) (by rw [← hwD]; exact HS1.out _ HBd.out) (fun hHeld => ?_)
    rw [← hwD] at hHeld ⊢
    clear hwD
    refine wpAnyH_take (i := 0) (v := ?_) (by rfl) (by kernel_rfl) (by kernel_rfl) (by kernel_rfl) (fun _ _ _ h => h) (Or.inl ⟨by kernel_rfl, ?_⟩) (by assumption) ?_; rotate_left 1; (focus (intro w hSw; (try dsimp only at hSw); simp only [List.getElem_toArray, List.getElem_cons_succ, List.getElem_cons_zero]; all_goals go_simp; all_goals (try with_reducible rfl))); (try simp only [Act.put, List.getElem_toArray, List.getElem_cons_succ, List.getElem_cons_zero, List.setIfInBounds_toArray, List.set_cons_zero, List.set_cons_succ])
    refine wpAnyH_take (i := 1) (v := ?_) (by rfl) (by kernel_rfl) (by kernel_rfl) (by kernel_rfl) (fun _ _ _ h => h) (Or.inl ⟨by kernel_rfl, ?_⟩) (by assumption) ?_; rotate_left 1; (focus (intro w hSw; (try dsimp only at hSw); simp only [List.getElem_toArray, List.getElem_cons_succ, List.getElem_cons_zero]; all_goals go_simp; all_goals (try with_reducible rfl))); (try simp only [Act.put, List.getElem_toArray, List.getElem_cons_succ, List.getElem_cons_zero, List.setIfInBounds_toArray, List.set_cons_zero, List.set_cons_succ])
    refine wpAnyH_take (i := 2) (v := ?_) (by rfl) (by kernel_rfl) (by kernel_rfl) (by kernel_rfl) (fun _ _ _ h => h) (Or.inl ⟨by kernel_rfl, ?_⟩) (by assumption) ?_; rotate_left 1; (focus (intro w hSw; (try dsimp only at hSw); simp only [List.getElem_toArray, List.getElem_cons_succ, List.getElem_cons_zero]; all_goals go_simp; all_goals (try with_reducible rfl))); (try simp only [Act.put, List.getElem_toArray, List.getElem_cons_succ, List.getElem_cons_zero, List.setIfInBounds_toArray, List.set_cons_zero, List.set_cons_succ])
    refine wpAnyH_take (i := 4) (v := (Value.agg #[.int .u32 o, .int .u32 a, .int .u32 b, .int .u32 c, .int .i64 m0, .int .i64 m1, .int .i64 m2, .int .i64 m3, .int .u32 m4, .int .i64 n0, .int .i64 n1, .int .i64 n2, .int .i64 n3, .int .u32 n4, .int .i64 p0, .int .i64 p1, .int .i64 p2, .int .i64 p3, .int .u32 p4])) (by rfl) (by kernel_rfl) (by kernel_rfl) (by kernel_rfl) (fun _ _ _ h => h) (Or.inl ⟨by kernel_rfl, ?_⟩) (by assumption) ?_
    focus
      intro w hSw
      exact nload_exec (Operand.tmp 5) (by rfl) (by rfl) (by rfl) hSw.2
    (try simp only [Act.put, List.getElem_toArray, List.getElem_cons_succ, List.getElem_cons_zero, List.setIfInBounds_toArray, List.set_cons_zero, List.set_cons_succ])
    refine wpAnyH_ready (rs := [3, 6]) (by kernel_rfl) (by simp) ?_
    refine AllReadyH.cons (by rfl) (fun K1 hK => ?_) (AllReadyH.cons (by rfl) (fun K1 hK => ?_) AllReadyH.nil)
    · rw [if_pos (by kernel_rfl)]; simp only [List.getElem_toArray, List.getElem_cons_succ, List.getElem_cons_zero]
      go_wp2_with (first | (go_at_call 10; (with_reducible refine (HSk.out _ (HR.out.1.trans (HBd.out.mono HR.out.1.size))).mono ?_); rintro e w2 ⟨rfl, hb⟩; have HB2 := Lib.hid (HBd.out.trans (hb.mono HBd.out.size)); clear hb))
      refine hK.out _ _ (HS1.out _ HB2.out) (fun hHeld => ?_)
      clear hK K1
      (try simp only [Act.put, List.getElem_toArray, List.getElem_cons_succ, List.getElem_cons_zero, List.setIfInBounds_toArray, List.set_cons_zero, List.set_cons_succ])
      refine wpAnyH_take (i := 5) (v := ?_) (by rfl) (by kernel_rfl) (by kernel_rfl) (by kernel_rfl) (fun _ _ _ h => h) (Or.inl ⟨by kernel_rfl, ?_⟩) (by assumption) ?_; rotate_left 1; (focus (intro w hSw; (try dsimp only at hSw); simp only [List.getElem_toArray, List.getElem_cons_succ, List.getElem_cons_zero]; all_goals go_simp; all_goals (try with_reducible rfl))); (try simp only [Act.put, List.getElem_toArray, List.getElem_cons_succ, List.getElem_cons_zero, List.setIfInBounds_toArray, List.set_cons_zero, List.set_cons_succ])
      refine wpAnyH_ready (rs := [6]) (by kernel_rfl) (by simp) ?_; refine AllReadyH.cons (by rfl) (fun K hK => ?_) AllReadyH.nil; rw [if_pos (by kernel_rfl)]; simp only [List.getElem_toArray, List.getElem_cons_succ, List.getElem_cons_zero]
      go_wp2_with fail
      generalize hE : World.alloc w2 _ = wE
      obtain ⟨C, hC⟩ : ∃ C, C = w2.heap.size := ⟨_, rfl⟩
      have HE : Hid (Below wd.heap.size wd wE ∧ World.there wE C 0 25 ∧ wd.heap.size ≤ C ∧ C < wE.heap.size) := Lib.hid (by rw [← hE, hC]; exact ⟨HB2.out.alloc HB2.out.size _, nthere_new _ _ 25 (by rfl) _, HB2.out.size, by simp⟩)
      rw [← hC]
      clear hE hC
      refine hK.out _ _ (HS1.out _ HE.out.1) (fun hHeld => ?_)
      clear hK K
      (try simp only [Act.put, List.getElem_toArray, List.getElem_cons_succ, List.getElem_cons_zero, List.setIfInBounds_toArray, List.set_cons_zero, List.set_cons_succ])
      refine wpAnyH_ready (rs := [7]) (by kernel_rfl) (by simp) ?_; refine AllReadyH.cons (by rfl) (fun K hK => ?_) AllReadyH.nil; rw [if_pos (by kernel_rfl)]; simp only [List.getElem_toArray, List.getElem_cons_succ, List.getElem_cons_zero]
      refine wp_store_mid 84 (Operand.tmp 8) (Operand.tmp 16) (by rfl) C 0 ([.pointer (some ⟨s, 0, none⟩), .int .i64 r0, .int .i64 r1, .int .i64 r2, .int .i64 r3, .int .u32 r4, .int .u32 o, .int .u32 a, .int .u32 b, .int .u32 c, .int .i64 m0, .int .i64 m1, .int .i64 m2, .int .i64 m3, .int .u32 m4, .int .i64 n0, .int .i64 n1, .int .i64 n2, .int .i64 n3, .int .u32 n4, .int .i64 p0, .int .i64 p1, .int .i64 p2, .int .i64 p3, .int .u32 p4] : List Value).toArray (by rfl) (by rfl) HE.out.2.1 infoCall (c25_one _ _ _ _ _ _ _ _ _ _ _ _ _ _ _ _ _ _ _ _ _ _ _ _ _) ?_
      generalize hF : World.setCells wE _ _ _ = wF
      have HF : Hid (Below wd.heap.size wd wF ∧ wF.rangeAt C 0 ([.pointer (some ⟨s, 0, none⟩), .int .i64 r0, .int .i64 r1, .int .i64 r2, .int .i64 r3, .int .u32 r4, .int .u32 o, .int .u32 a, .int .u32 b, .int .u32 c, .int .i64 m0, .int .i64 m1, .int .i64 m2, .int .i64 m3, .int .u32 m4, .int .i64 n0, .int .i64 n1, .int .i64 n2, .int .i64 n3, .int .u32 n4, .int .i64 p0, .int .i64 p1, .int .i64 p2, .int .i64 p3, .int .u32 p4] : List Value) ∧ World.there wF C 0 25) := Lib.hid (by rw [← hF]; exact ⟨nbelow_cells HE.out.1 HE.out.2.2.1 _ _, World.rangeAt_setCells_same wE C 0 ([.pointer (some ⟨s, 0, none⟩), .int .i64 r0, .int .i64 r1, .int .i64 r2, .int .i64 r3, .int .u32 r4, .int .u32 o, .int .u32 a, .int .u32 b, .int .u32 c, .int .i64 m0, .int .i64 m1, .int .i64 m2, .int .i64 m3, .int .u32 m4, .int .i64 n0, .int .i64 n1, .int .i64 n2, .int .i64 n3, .int .u32 n4, .int .i64 p0, .int .i64 p1, .int .i64 p2, .int .i64 p3, .int .u32 p4] : List Value) HE.out.2.1, World.there_setCells HE.out.2.1 _ _ _⟩)
      clear hF
      refine hK.out _ _ (HS1.out _ HF.out.1) (fun hHeld => ?_)
      clear hK K
      (try simp only [Act.put, List.getElem_toArray, List.getElem_cons_succ, List.getElem_cons_zero, List.setIfInBounds_toArray, List.set_cons_zero, List.set_cons_succ])
      refine wpAnyH_done (by kernel_rfl) ?_ _
      refine NoPanic.normal ?_
      go_wp2_with fail
      go_meet
      exact ⟨C, rfl, HF.out.1, HF.out.2.1, HF.out.2.2, HE.out.2.2.1, cell_lt (CallC.cell HF.out.2.1 0 _ rfl)⟩
    · rw [if_pos (by kernel_rfl)]; simp only [List.getElem_toArray, List.getElem_cons_succ, List.getElem_cons_zero]
      go_wp2_with fail
      generalize hE : World.alloc wD _ = wE
      obtain ⟨C, hC⟩ : ∃ C, C = wD.heap.size := ⟨_, rfl⟩
      have HE : Hid (Below wd.heap.size wd wE ∧ World.there wE C 0 25 ∧ wd.heap.size ≤ C ∧ C < wE.heap.size) := Lib.hid (by rw [← hE, hC]; exact ⟨HBd.out.alloc HBd.out.size _, nthere_new _ _ 25 (by rfl) _, HBd.out.size, by simp⟩)
      rw [← hC]
      clear hE hC
      refine hK.out _ _ (HS1.out _ HE.out.1) (fun hHeld => ?_)
      clear hK K1
      (try simp only [Act.put, List.getElem_toArray, List.getElem_cons_succ, List.getElem_cons_zero, List.setIfInBounds_toArray, List.set_cons_zero, List.set_cons_succ])
      refine wpAnyH_ready (rs := [3]) (by kernel_rfl) (by simp) ?_; refine AllReadyH.cons (by rfl) (fun K hK => ?_) AllReadyH.nil; rw [if_pos (by kernel_rfl)]; simp only [List.getElem_toArray, List.getElem_cons_succ, List.getElem_cons_zero]
      go_wp2_with (first | (go_at_call 10; (with_reducible refine (HSk.out _ (HR.out.1.trans (HE.out.1.mono HR.out.1.size))).mono ?_); rintro e w2 ⟨rfl, hb⟩; have HB2 : Hid (Below wd.heap.size wd w2 ∧ World.there w2 C 0 25) := Lib.hid ⟨HE.out.1.trans (hb.mono HE.out.1.size), nthere_below HE.out.2.1 hb HE.out.2.2.2⟩; clear hb))
      refine hK.out _ _ (HS1.out _ HB2.out.1) (fun hHeld => ?_)
      clear hK K
      (try simp only [Act.put, List.getElem_toArray, List.getElem_cons_succ, List.getElem_cons_zero, List.setIfInBounds_toArray, List.set_cons_zero, List.set_cons_succ])
      refine wpAnyH_take (i := 5) (v := ?_) (by rfl) (by kernel_rfl) (by kernel_rfl) (by kernel_rfl) (fun _ _ _ h => h) (Or.inl ⟨by kernel_rfl, ?_⟩) (by assumption) ?_; rotate_left 1; (focus (intro w hSw; (try dsimp only at hSw); simp only [List.getElem_toArray, List.getElem_cons_succ, List.getElem_cons_zero]; all_goals go_simp; all_goals (try with_reducible rfl))); (try simp only [Act.put, List.getElem_toArray, List.getElem_cons_succ, List.getElem_cons_zero, List.setIfInBounds_toArray, List.set_cons_zero, List.set_cons_succ])
      refine wpAnyH_ready (rs := [7]) (by kernel_rfl) (by simp) ?_; refine AllReadyH.cons (by rfl) (fun K hK => ?_) AllReadyH.nil; rw [if_pos (by kernel_rfl)]; simp only [List.getElem_toArray, List.getElem_cons_succ, List.getElem_cons_zero]
      refine wp_store_mid 84 (Operand.tmp 8) (Operand.tmp 16) (by rfl) C 0 ([.pointer (some ⟨s, 0, none⟩), .int .i64 r0, .int .i64 r1, .int .i64 r2, .int .i64 r3, .int .u32 r4, .int .u32 o, .int .u32 a, .int .u32 b, .int .u32 c, .int .i64 m0, .int .i64 m1, .int .i64 m2, .int .i64 m3, .int .u32 m4, .int .i64 n0, .int .i64 n1, .int .i64 n2, .int .i64 n3, .int .u32 n4, .int .i64 p0, .int .i64 p1, .int .i64 p2, .int .i64 p3, .int .u32 p4] : List Value).toArray (by rfl) (by rfl) HB2.out.2 infoCall (c25_one _ _ _ _ _ _ _ _ _ _ _ _ _ _ _ _ _ _ _ _ _ _ _ _ _) ?_
      generalize hF : World.setCells w2 _ _ _ = wF
      have HF : Hid (Below wd.heap.size wd wF ∧ wF.rangeAt C 0 ([.pointer (some ⟨s, 0, none⟩), .int .i64 r0, .int .i64 r1, .int .i64 r2, .int .i64 r3, .int .u32 r4, .int .u32 o, .int .u32 a, .int .u32 b, .int .u32 c, .int .i64 m0, .int .i64 m1, .int .i64 m2, .int .i64 m3, .int .u32 m4, .int .i64 n0, .int .i64 n1, .int .i64 n2, .int .i64 n3, .int .u32 n4, .int .i64 p0, .int .i64 p1, .int .i64 p2, .int .i64 p3, .int .u32 p4] : List Value) ∧ World.there wF C 0 25) := Lib.hid (by rw [← hF]; exact ⟨nbelow_cells HB2.out.1 HE.out.2.2.1 _ _, World.rangeAt_setCells_same w2 C 0 ([.pointer (some ⟨s, 0, none⟩), .int .i64 r0, .int .i64 r1, .int .i64 r2, .int .i64 r3, .int .u32 r4, .int .u32 o, .int .u32 a, .int .u32 b, .int .u32 c, .int .i64 m0, .int .i64 m1, .int .i64 m2, .int .i64 m3, .int .u32 m4, .int .i64 n0, .int .i64 n1, .int .i64 n2, .int .i64 n3, .int .u32 n4, .int .i64 p0, .int .i64 p1, .int .i64 p2, .int .i64 p3, .int .u32 p4] : List Value) HB2.out.2, World.there_setCells HB2.out.2 _ _ _⟩)
      clear hF
      refine hK.out _ _ (HS1.out _ HF.out.1) (fun hHeld => ?_)
      clear hK K
      (try simp only [Act.put, List.getElem_toArray, List.getElem_cons_succ, List.getElem_cons_zero, List.setIfInBounds_toArray, List.set_cons_zero, List.set_cons_succ])
      refine wpAnyH_done (by kernel_rfl) ?_ _
      refine NoPanic.normal ?_
      go_wp2_with fail
      go_meet
      exact ⟨C, rfl, HF.out.1, HF.out.2.1, HF.out.2.2, HE.out.2.2.1, cell_lt (CallC.cell HF.out.2.1 0 _ rfl)⟩
  case rest =>
    obtain ⟨C, rfl, hb, hr, ht, hC1, hC2⟩ := hcut
    have HC := Lib.hid (⟨HR.out.1.trans (hb.mono HR.out.1.size), hr, ht, Nat.le_trans HR.out.1.size hC1, nthere_below HR.out.2.2.2.1 hb HR.out.2.2.2.2.2.1, Nat.lt_of_lt_of_le HR.out.2.2.2.2.2.1 hC1, hC2⟩ : Below w.heap.size w wc ∧ wc.rangeAt C 0 ([.pointer (some ⟨s, 0, none⟩), .int .i64 r0, .int .i64 r1, .int .i64 r2, .int .i64 r3, .int .u32 r4, .int .u32 o, .int .u32 a, .int .u32 b, .int .u32 c, .int .i64 m0, .int .i64 m1, .int .i64 m2, .int .i64 m3, .int .u32 m4, .int .i64 n0, .int .i64 n1, .int .i64 n2, .int .i64 n3, .int .u32 n4, .int .i64 p0, .int .i64 p1, .int .i64 p2, .int .i64 p3, .int .u32 p4] : List Value) ∧ World.there wc C 0 25 ∧ w.heap.size ≤ C ∧ World.there wc R 0 19 ∧ R < C ∧ C < wc.heap.size)
    have HJ4 : Hid (wc.rangeAt J 4 ([.int .i64 m0, .int .i64 m1, .int .i64 m2, .int .i64 m3, .int .u32 m4, .int .i64 n0, .int .i64 n1, .int .i64 n2, .int .i64 n3, .int .u32 n4, .int .i64 p0, .int .i64 p1, .int .i64 p2, .int .i64 p3, .int .u32 p4] : List Value)) := Lib.hid (range_drop (k := 4) (range_below HR.out.2.2.1 hb (Nat.lt_trans HR.out.2.2.2.2.1 HR.out.2.2.2.2.2.1)))
    clear hb hr ht hC1 hC2
    have hi0 : ∀ W, (Instr.index 47 (.agg ([.int .i64 m0, .int .i64 m1, .int .i64 m2, .int .i64 m3, .int .u32 m4, .int .i64 n0, .int .i64 n1, .int .i64 n2, .int .i64 n3, .int .u32 n4, .int .i64 p0, .int .i64 p1, .int .i64 p2, .int .i64 p3, .int .u32 p4] : List Value).toArray) (.int .i64 0)).run Tryz.prog W = .ok (Value.agg #[.int .i64 m0, .int .i64 m1, .int .i64 m2, .int .i64 m3, .int .u32 m4]) W := by intro W; kernel_rfl
    have hi1 : ∀ W, (Instr.index 47 (.agg ([.int .i64 m0, .int .i64 m1, .int .i64 m2, .int .i64 m3, .int .u32 m4, .int .i64 n0, .int .i64 n1, .int .i64 n2, .int .i64 n3, .int .u32 n4, .int .i64 p0, .int .i64 p1, .int .i64 p2, .int .i64 p3, .int .u32 p4] : List Value).toArray) (.int .i64 1)).run Tryz.prog W = .ok (Value.agg #[.int .i64 n0, .int .i64 n1, .int .i64 n2, .int .i64 n3, .int .u32 n4]) W := by intro W; kernel_rfl
    have hi2 : ∀ W, (Instr.index 47 (.agg ([.int .i64 m0, .int .i64 m1, .int .i64 m2, .int .i64 m3, .int .u32 m4, .int .i64 n0, .int .i64 n1, .int .i64 n2, .int .i64 n3, .int .u32 n4, .int .i64 p0, .int .i64 p1, .int .i64 p2, .int .i64 p3, .int .u32 p4] : List Value).toArray) (.int .i64 2)).run Tryz.prog W = .ok (Value.agg #[.int .i64 p0, .int .i64 p1, .int .i64 p2, .int .i64 p3, .int .u32 p4]) W := by intro W; kernel_rfl
    go_wp2_with (first
      | (refine wpList_load_mid (by rfl) _ _ (by rfl) J 4 (by rfl) ([.int .i64 m0, .int .i64 m1, .int .i64 m2, .int .i64 m3, .int .u32 m4, .int .i64 n0, .int .i64 n1, .int .i64 n2, .int .i64 n3, .int .u32 n4, .int .i64 p0, .int .i64 p1, .int .i64 p2, .int .i64 p3, .int .u32 p4] : List Value) _ HJ4.out Tryz.underlying47 rfl (by kernel_rfl) ?_))
    refine wp_loop_rounds 4 ?_
    rw [rounds_succ]
    go_upto_region 5 with fail; generalize hA : World.alloc wc _ = wg; obtain ⟨XB, hXB⟩ : ∃ XB, XB = wc.heap.size := ⟨_, rfl⟩; have HG : Hid (Below wc.heap.size wc wg ∧ KeyC wg XB m0 m1 m2 m3 m4 ∧ World.rangeAt wg C 0 ([.pointer (some ⟨s, 0, none⟩), .int .i64 r0, .int .i64 r1, .int .i64 r2, .int .i64 r3, .int .u32 r4, .int .u32 o, .int .u32 a, .int .u32 b, .int .u32 c, .int .i64 m0, .int .i64 m1, .int .i64 m2, .int .i64 m3, .int .u32 m4, .int .i64 n0, .int .i64 n1, .int .i64 n2, .int .i64 n3, .int .u32 n4, .int .i64 p0, .int .i64 p1, .int .i64 p2, .int .i64 p3, .int .u32 p4] : List Value) ∧ World.there wg C 0 25 ∧ Below w.heap.size w wg ∧ C < wg.heap.size) := Lib.hid (by rw [← hA, hXB]; exact ⟨(Below.refl _ _).alloc (Nat.le_refl _) _, KeyC.new _ _ _ _ _ _ _, range_below (HC).out.2.1 ((Below.refl _ _).alloc (Nat.le_refl _) _) (HC).out.2.2.2.2.2.2, nthere_below (HC).out.2.2.1 ((Below.refl _ _).alloc (Nat.le_refl _) _) (HC).out.2.2.2.2.2.2, (HC).out.1.trans (Below.mono ((Below.refl _ _).alloc (Nat.le_refl _) _) (HC).out.1.size), Nat.lt_of_lt_of_le (HC).out.2.2.2.2.2.2 (by simp)⟩); rw [← hXB]; clear hA hXB; obtain ⟨q0, q1, q2, q3, q4⟩ := ofive (HG).out.2.1; go_upto_region 6 with (first | (go_at_call 10; (with_reducible refine ((HSm).out _ (HG).out.2.2.2.2.1).mono ?_); rintro e wg2 ⟨rfl, hb⟩; have HGx : Hid (Below w.heap.size w wg2 ∧ World.rangeAt wg2 C 0 ([.pointer (some ⟨s, 0, none⟩), .int .i64 r0, .int .i64 r1, .int .i64 r2, .int .i64 r3, .int .u32 r4, .int .u32 o, .int .u32 a, .int .u32 b, .int .u32 c, .int .i64 m0, .int .i64 m1, .int .i64 m2, .int .i64 m3, .int .u32 m4, .int .i64 n0, .int .i64 n1, .int .i64 n2, .int .i64 n3, .int .u32 n4, .int .i64 p0, .int .i64 p1, .int .i64 p2, .int .i64 p3, .int .u32 p4] : List Value) ∧ World.there wg2 C 0 25 ∧ World.there wg2 R 0 19) := (Lib.hid ⟨(HG).out.2.2.2.2.1.trans (hb.mono (HG).out.2.2.2.2.1.size), range_below (HG).out.2.2.1 hb (HG).out.2.2.2.2.2, nthere_below (HG).out.2.2.2.1 hb (HG).out.2.2.2.2.2, nthere_below (HC).out.2.2.2.2.1 ((HG).out.1.trans (hb.mono (HG).out.1.size)) (Nat.lt_trans (HC).out.2.2.2.2.2.1 (HC).out.2.2.2.2.2.2)⟩); clear hb q0 q1 q2 q3 q4) | (refine wpList_store_mid (by rfl) _ _ _ (by rfl) C 10 ([.int .i64 x0, .int .i64 x1, .int .i64 x2, .int .i64 x3, .int .u32 x4] : List Value).toArray (by rfl) (by rfl) (there_part (HGx).out.2.2.1 10 (by decide)) infoK5 (akey_one _ _ _ _ _) ?_)); generalize hA : World.setCells wg2 _ _ _ = wh; have HH : Hid (Below w.heap.size w wh ∧ World.rangeAt wh C 0 ([.pointer (some ⟨s, 0, none⟩), .int .i64 r0, .int .i64 r1, .int .i64 r2, .int .i64 r3, .int .u32 r4, .int .u32 o, .int .u32 a, .int .u32 b, .int .u32 c, .int .i64 x0, .int .i64 x1, .int .i64 x2, .int .i64 x3, .int .u32 x4, .int .i64 n0, .int .i64 n1, .int .i64 n2, .int .i64 n3, .int .u32 n4, .int .i64 p0, .int .i64 p1, .int .i64 p2, .int .i64 p3, .int .u32 p4] : List Value) ∧ World.there wh C 0 25 ∧ w.heap.size ≤ C ∧ World.there wh R 0 19 ∧ R < C ∧ C < wh.heap.size) := (Lib.hid (by rw [← hA]; exact ⟨nbelow_cells (HGx).out.1 (HC).out.2.2.2.1 _ _, range_set5 (HGx).out.2.1 10 _ _ _ _ _, World.there_setCells (HGx).out.2.2.1 _ _ _, (HC).out.2.2.2.1, World.there_setCells (HGx).out.2.2.2 _ _ _, (HC).out.2.2.2.2.2.1, cell_lt (CallC.cell (range_set5 (HGx).out.2.1 10 _ _ _ _ _) 0 _ rfl)⟩)); clear hA; go_wp2_with fail
    rw [rounds_succ]
    go_upto_region 5 with fail; generalize hA : World.alloc wh _ = wi; obtain ⟨XB, hXB⟩ : ∃ XB, XB = wh.heap.size := ⟨_, rfl⟩; have HI : Hid (Below wh.heap.size wh wi ∧ KeyC wi XB n0 n1 n2 n3 n4 ∧ World.rangeAt wi C 0 ([.pointer (some ⟨s, 0, none⟩), .int .i64 r0, .int .i64 r1, .int .i64 r2, .int .i64 r3, .int .u32 r4, .int .u32 o, .int .u32 a, .int .u32 b, .int .u32 c, .int .i64 x0, .int .i64 x1, .int .i64 x2, .int .i64 x3, .int .u32 x4, .int .i64 n0, .int .i64 n1, .int .i64 n2, .int .i64 n3, .int .u32 n4, .int .i64 p0, .int .i64 p1, .int .i64 p2, .int .i64 p3, .int .u32 p4] : List Value) ∧ World.there wi C 0 25 ∧ Below w.heap.size w wi ∧ C < wi.heap.size) := Lib.hid (by rw [← hA, hXB]; exact ⟨(Below.refl _ _).alloc (Nat.le_refl _) _, KeyC.new _ _ _ _ _ _ _, range_below (HH).out.2.1 ((Below.refl _ _).alloc (Nat.le_refl _) _) (HH).out.2.2.2.2.2.2, nthere_below (HH).out.2.2.1 ((Below.refl _ _).alloc (Nat.le_refl _) _) (HH).out.2.2.2.2.2.2, (HH).out.1.trans (Below.mono ((Below.refl _ _).alloc (Nat.le_refl _) _) (HH).out.1.size), Nat.lt_of_lt_of_le (HH).out.2.2.2.2.2.2 (by simp)⟩); rw [← hXB]; clear hA hXB; obtain ⟨q0, q1, q2, q3, q4⟩ := ofive (HI).out.2.1; go_upto_region 6 with (first | (go_at_call 10; (with_reducible refine ((HSn).out _ (HI).out.2.2.2.2.1).mono ?_); rintro e wi2 ⟨rfl, hb⟩; have HIx : Hid (Below w.heap.size w wi2 ∧ World.rangeAt wi2 C 0 ([.pointer (some ⟨s, 0, none⟩), .int .i64 r0, .int .i64 r1, .int .i64 r2, .int .i64 r3, .int .u32 r4, .int .u32 o, .int .u32 a, .int .u32 b, .int .u32 c, .int .i64 x0, .int .i64 x1, .int .i64 x2, .int .i64 x3, .int .u32 x4, .int .i64 n0, .int .i64 n1, .int .i64 n2, .int .i64 n3, .int .u32 n4, .int .i64 p0, .int .i64 p1, .int .i64 p2, .int .i64 p3, .int .u32 p4] : List Value) ∧ World.there wi2 C 0 25 ∧ World.there wi2 R 0 19) := (Lib.hid ⟨(HI).out.2.2.2.2.1.trans (hb.mono (HI).out.2.2.2.2.1.size), range_below (HI).out.2.2.1 hb (HI).out.2.2.2.2.2, nthere_below (HI).out.2.2.2.1 hb (HI).out.2.2.2.2.2, nthere_below (HH).out.2.2.2.2.1 ((HI).out.1.trans (hb.mono (HI).out.1.size)) (Nat.lt_trans (HH).out.2.2.2.2.2.1 (HH).out.2.2.2.2.2.2)⟩); clear hb q0 q1 q2 q3 q4) | (refine wpList_store_mid (by rfl) _ _ _ (by rfl) C 15 ([.int .i64 y0, .int .i64 y1, .int .i64 y2, .int .i64 y3, .int .u32 y4] : List Value).toArray (by rfl) (by rfl) (there_part (HIx).out.2.2.1 15 (by decide)) infoK5 (akey_one _ _ _ _ _) ?_)); generalize hA : World.setCells wi2 _ _ _ = wj; have HJ2 : Hid (Below w.heap.size w wj ∧ World.rangeAt wj C 0 ([.pointer (some ⟨s, 0, none⟩), .int .i64 r0, .int .i64 r1, .int .i64 r2, .int .i64 r3, .int .u32 r4, .int .u32 o, .int .u32 a, .int .u32 b, .int .u32 c, .int .i64 x0, .int .i64 x1, .int .i64 x2, .int .i64 x3, .int .u32 x4, .int .i64 y0, .int .i64 y1, .int .i64 y2, .int .i64 y3, .int .u32 y4, .int .i64 p0, .int .i64 p1, .int .i64 p2, .int .i64 p3, .int .u32 p4] : List Value) ∧ World.there wj C 0 25 ∧ w.heap.size ≤ C ∧ World.there wj R 0 19 ∧ R < C ∧ C < wj.heap.size) := (Lib.hid (by rw [← hA]; exact ⟨nbelow_cells (HIx).out.1 (HH).out.2.2.2.1 _ _, range_set5 (HIx).out.2.1 15 _ _ _ _ _, World.there_setCells (HIx).out.2.2.1 _ _ _, (HH).out.2.2.2.1, World.there_setCells (HIx).out.2.2.2 _ _ _, (HH).out.2.2.2.2.2.1, cell_lt (CallC.cell (range_set5 (HIx).out.2.1 15 _ _ _ _ _) 0 _ rfl)⟩)); clear hA; go_wp2_with fail
    rw [rounds_succ]
    go_upto_region 5 with fail; generalize hA : World.alloc wj _ = wk; obtain ⟨XB, hXB⟩ : ∃ XB, XB = wj.heap.size := ⟨_, rfl⟩; have HL : Hid (Below wj.heap.size wj wk ∧ KeyC wk XB p0 p1 p2 p3 p4 ∧ World.rangeAt wk C 0 ([.pointer (some ⟨s, 0, none⟩), .int .i64 r0, .int .i64 r1, .int .i64 r2, .int .i64 r3, .int .u32 r4, .int .u32 o, .int .u32 a, .int .u32 b, .int .u32 c, .int .i64 x0, .int .i64 x1, .int .i64 x2, .int .i64 x3, .int .u32 x4, .int .i64 y0, .int .i64 y1, .int .i64 y2, .int .i64 y3, .int .u32 y4, .int .i64 p0, .int .i64 p1, .int .i64 p2, .int .i64 p3, .int .u32 p4] : List Value) ∧ World.there wk C 0 25 ∧ Below w.heap.size w wk ∧ C < wk.heap.size) := Lib.hid (by rw [← hA, hXB]; exact ⟨(Below.refl _ _).alloc (Nat.le_refl _) _, KeyC.new _ _ _ _ _ _ _, range_below (HJ2).out.2.1 ((Below.refl _ _).alloc (Nat.le_refl _) _) (HJ2).out.2.2.2.2.2.2, nthere_below (HJ2).out.2.2.1 ((Below.refl _ _).alloc (Nat.le_refl _) _) (HJ2).out.2.2.2.2.2.2, (HJ2).out.1.trans (Below.mono ((Below.refl _ _).alloc (Nat.le_refl _) _) (HJ2).out.1.size), Nat.lt_of_lt_of_le (HJ2).out.2.2.2.2.2.2 (by simp)⟩); rw [← hXB]; clear hA hXB; obtain ⟨q0, q1, q2, q3, q4⟩ := ofive (HL).out.2.1; go_upto_region 6 with (first | (go_at_call 10; (with_reducible refine ((HSp).out _ (HL).out.2.2.2.2.1).mono ?_); rintro e wk2 ⟨rfl, hb⟩; have HLx : Hid (Below w.heap.size w wk2 ∧ World.rangeAt wk2 C 0 ([.pointer (some ⟨s, 0, none⟩), .int .i64 r0, .int .i64 r1, .int .i64 r2, .int .i64 r3, .int .u32 r4, .int .u32 o, .int .u32 a, .int .u32 b, .int .u32 c, .int .i64 x0, .int .i64 x1, .int .i64 x2, .int .i64 x3, .int .u32 x4, .int .i64 y0, .int .i64 y1, .int .i64 y2, .int .i64 y3, .int .u32 y4, .int .i64 p0, .int .i64 p1, .int .i64 p2, .int .i64 p3, .int .u32 p4] : List Value) ∧ World.there wk2 C 0 25 ∧ World.there wk2 R 0 19) := (Lib.hid ⟨(HL).out.2.2.2.2.1.trans (hb.mono (HL).out.2.2.2.2.1.size), range_below (HL).out.2.2.1 hb (HL).out.2.2.2.2.2, nthere_below (HL).out.2.2.2.1 hb (HL).out.2.2.2.2.2, nthere_below (HJ2).out.2.2.2.2.1 ((HL).out.1.trans (hb.mono (HL).out.1.size)) (Nat.lt_trans (HJ2).out.2.2.2.2.2.1 (HJ2).out.2.2.2.2.2.2)⟩); clear hb q0 q1 q2 q3 q4) | (refine wpList_store_mid (by rfl) _ _ _ (by rfl) C 20 ([.int .i64 z0, .int .i64 z1, .int .i64 z2, .int .i64 z3, .int .u32 z4] : List Value).toArray (by rfl) (by rfl) (there_part (HLx).out.2.2.1 20 (by decide)) infoK5 (akey_one _ _ _ _ _) ?_)); generalize hA : World.setCells wk2 _ _ _ = wl; have HM : Hid (Below w.heap.size w wl ∧ World.rangeAt wl C 0 ([.pointer (some ⟨s, 0, none⟩), .int .i64 r0, .int .i64 r1, .int .i64 r2, .int .i64 r3, .int .u32 r4, .int .u32 o, .int .u32 a, .int .u32 b, .int .u32 c, .int .i64 x0, .int .i64 x1, .int .i64 x2, .int .i64 x3, .int .u32 x4, .int .i64 y0, .int .i64 y1, .int .i64 y2, .int .i64 y3, .int .u32 y4, .int .i64 z0, .int .i64 z1, .int .i64 z2, .int .i64 z3, .int .u32 z4] : List Value) ∧ World.there wl C 0 25 ∧ w.heap.size ≤ C ∧ World.there wl R 0 19 ∧ R < C ∧ C < wl.heap.size) := (Lib.hid (by rw [← hA]; exact ⟨nbelow_cells (HLx).out.1 (HJ2).out.2.2.2.1 _ _, range_set5 (HLx).out.2.1 20 _ _ _ _ _, World.there_setCells (HLx).out.2.2.1 _ _ _, (HJ2).out.2.2.2.1, World.there_setCells (HLx).out.2.2.2 _ _ _, (HJ2).out.2.2.2.2.2.1, cell_lt (CallC.cell (range_set5 (HLx).out.2.1 20 _ _ _ _ _) 0 _ rfl)⟩)); clear hA; go_wp2_with fail
    rw [rounds_succ]
    have q1 := CallC.cell HM.out.2.1 1 _ rfl
    have hRn : w.heap.size ≤ R := HR.out.2.2.2.2.2.2
    have hsz : nt.toArray.size = 19 := by simp [hnl]
    go_upto_region 9 with fail
    go_wp2_with (first
      | (refine wpList_load_mid (by rfl) _ _ (by rfl) C 0 (by rfl) ([.pointer (some ⟨s, 0, none⟩), .int .i64 r0, .int .i64 r1, .int .i64 r2, .int .i64 r3, .int .u32 r4, .int .u32 o, .int .u32 a, .int .u32 b, .int .u32 c, .int .i64 x0, .int .i64 x1, .int .i64 x2, .int .i64 x3, .int .u32 x4, .int .i64 y0, .int .i64 y1, .int .i64 y2, .int .i64 y3, .int .u32 y4, .int .i64 z0, .int .i64 z1, .int .i64 z2, .int .i64 z3, .int .u32 z4] : List Value) _ HM.out.2.1 Tryz.underlying84 rfl infoCall ?_)
      | (go_at_call 29; (with_reducible refine (HAn.out _ HM.out.1).mono ?_); rintro e w9 ⟨rfl, hq, hu⟩; have H9 := Lib.hid hq; have HU9 := Lib.hid hu; have HT9 : Hid (World.there w9 R 0 19) := (Lib.hid (nthere_same HM.out.2.2.2.2.1 (hu.2 R (Nat.le_trans hN hRn) (Nat.lt_trans HM.out.2.2.2.2.2.1 HM.out.2.2.2.2.2.2)))); clear hq hu)
      | (refine wpList_store_mid (by rfl) _ _ _ (by rfl) R 0 nt.toArray (by rfl) (by rfl) (by rw [hsz]; exact HT9.out) (by rw [hsz]; exact infoNote) (all_one hn1) ?_))
    have HS : Hid (Below w.heap.size w9 (w9.setCells R 0 nt.toArray.toList) ∧ (w9.setCells R 0 nt.toArray.toList).rangeAt R 0 nt) := Lib.hid ⟨nbelow_cells (Below.refl _ _) hRn _ _, World.rangeAt_setCells_same w9 R 0 nt (by rw [hnl]; exact HT9.out)⟩
    have hld := nload hnl HS.out.2
    refine bodyPost_ret (v := (.tuple #[.agg nt.toArray, .bool true])) (by simp [results, Tryz.results12, Act.put, asAddr, hld]) rfl ⟨rfl, HQ.out.store H9.out _ (Nat.le_trans hN hRn) (Nat.lt_trans HM.out.2.2.2.2.2.1 HM.out.2.2.2.2.2.2) HM.out.1.size (nbelow_cells (Below.refl 0 _) (Nat.zero_le _) _ _).size, ((UpT.below HM.out.1).trans HU9.out).low HS.out.1 (Nat.le_refl _)⟩
set_option maxRecDepth 100000 in
set_option maxHeartbeats 2000000 in
theorem oaskDq {Q : Nat → Nat → World → Prop} {nt : List Value} (hnl : nt.length = 19) (hn1 : ∀ v, v ∈ nt → v.oneCell' = true) (k0 k1 k2 k3 k4 : Int) (m0 m1 m2 m3 m4 : Int) (o x : Int) (s sb db N : Nat) (w : World) (hN : N ≤ w.heap.size) (hs : w.cell? ⟨sb, 0, none⟩ = some (.pointer (some ⟨s, 0, none⟩))) (hd : KeyC w db k0 k1 k2 k3 k4)
    (hQ : QF N Q)
    (hA : ∀ W, Below w.heap.size w W → Calls Tryz.prog 12 #[.pointer (some ⟨s, 0, none⟩), (Value.agg #[.int .i64 k0, .int .i64 k1, .int .i64 k2, .int .i64 k3, .int .u32 k4]), .agg #[.int .u32 o, .int .u32 x, .int .u32 0, .int .u32 0, .int .i64 m0, .int .i64 m1, .int .i64 m2, .int .i64 m3, .int .u32 m4, .int .i64 0, .int .i64 0, .int .i64 0, .int .i64 0, .int .u32 0, .int .i64 0, .int .i64 0, .int .i64 0, .int .i64 0, .int .u32 0]] W fun e w' => e = .returned (.tuple #[.agg nt.toArray, .bool true]) ∧ Q W.heap.size w'.heap.size w' ∧ UpT N W w') :
    Calls Tryz.prog 11 #[.int .u32 o, .int .u32 x, (Value.agg #[.int .i64 m0, .int .i64 m1, .int .i64 m2, .int .i64 m3, .int .u32 m4]), .pointer (some ⟨sb, 0, none⟩), .pointer (some ⟨db, 0, none⟩)] w fun e w' => e = .returned (.agg nt.toArray) ∧ Q w.heap.size w'.heap.size w' ∧ UpT N w w' := by
  have HQ := Lib.hid hQ
  have HAn := Lib.hid hA
  have hsl : sb < w.heap.size := cell_lt hs
  have hsz : nt.toArray.size = 19 := by simp [hnl]
  clear hQ hA
  go_enter Tryz.func11, Tryz.ntmps11
  go_upto_region 1 with fail
  generalize hA : World.alloc w _ = wa
  obtain ⟨KB, hKB⟩ : ∃ KB, KB = w.heap.size := ⟨_, rfl⟩
  have HK : Hid (Below w.heap.size w wa ∧ KeyC wa KB m0 m1 m2 m3 m4 ∧ wa.heap.size = KB + 1 ∧ w.heap.size ≤ KB) := Lib.hid (by rw [← hA, hKB]; exact ⟨(Below.refl _ _).alloc (Nat.le_refl _) _, KeyC.new w m0 m1 m2 m3 m4 _, by simp, Nat.le_refl _⟩)
  rw [← hKB]
  clear hA hKB
  generalize hA : World.alloc wa _ = wd
  obtain ⟨R, hR⟩ : ∃ R, R = KB + 1 := ⟨_, rfl⟩
  have HR : Hid (Below w.heap.size w wd ∧ KeyC wd KB m0 m1 m2 m3 m4 ∧ World.there wd R 0 19 ∧ R < wd.heap.size ∧ w.heap.size ≤ R) := Lib.hid (by rw [← hA, hR, ← HK.out.2.2.1]; exact ⟨HK.out.1.alloc HK.out.1.size _, HK.out.2.1.below ((Below.refl _ _).alloc (Nat.le_refl _) _), nthere_new _ _ 19 (by rfl) _, by simp, HK.out.1.size⟩)
  rw [← hR]
  clear hA hR
  have sc := (HR.out.1.cell (p := ⟨sb, 0, none⟩) hsl).trans hs
  obtain ⟨q0, q1, q2, q3, q4⟩ := ofive HR.out.2.1
  obtain ⟨p0, p1, p2, p3, p4⟩ := ofive (hd.below HR.out.1)
  go_upto_region 2 with (first
    | (go_at_call 12; (with_reducible refine (HAn.out _ HR.out.1).mono ?_); rintro e w1 ⟨rfl, hq, hu⟩; have H1 := Lib.hid hq; have HU1 := Lib.hid hu; have HT1 : Hid (World.there w1 R 0 19 ∧ R < w1.heap.size) := (Lib.hid ⟨nthere_same HR.out.2.2.1 (hu.2 R (Nat.le_trans hN HR.out.2.2.2.2) HR.out.2.2.2.1), Nat.lt_of_lt_of_le HR.out.2.2.2.1 hu.1⟩); clear hq hu)
    | (refine wpList_store_mid (by rfl) _ _ _ (by rfl) w1.heap.size 0 nt.toArray (by rfl) (by rfl) (by rw [hsz]; exact nthere_new _ _ 19 (by rfl) _) (by rw [hsz]; exact infoNote) (all_one hn1) ?_))
  generalize hA : World.setCells _ w1.heap.size 0 _ = w2
  obtain ⟨Y, hY⟩ : ∃ Y, Y = w1.heap.size := ⟨_, rfl⟩
  have hwz : w.heap.size ≤ w1.heap.size := Nat.le_trans HR.out.1.size HU1.out.1
  have H2 : Hid (Below w1.heap.size w1 w2 ∧ w2.rangeAt Y 0 nt ∧ World.there w2 R 0 19) := Lib.hid (by
    have hb : Below w1.heap.size w1 w2 := by rw [← hA]; exact nbelow_cells ((Below.refl w1.heap.size w1).alloc (Nat.le_refl _) _) (Nat.le_refl _) _ _
    refine ⟨hb, ?_, nthere_below HT1.out.1 hb HT1.out.2⟩
    rw [← hA, hY]
    exact World.rangeAt_setCells_same _ w1.heap.size 0 nt (by rw [hnl]; exact nthere_new _ _ 19 (by rfl) _))
  rw [← hY]
  clear hA hY
  go_wp2_with (first
    | (refine wpList_load_mid (by rfl) _ _ (by rfl) Y 0 (by rfl) nt _ H2.out.2.1 Tryz.underlying49 rfl (by rw [hnl]; exact infoNote) ?_)
    | (refine wpList_store_mid (by rfl) _ _ _ (by rfl) R 0 nt.toArray (by rfl) (by rfl) (by rw [hsz]; exact H2.out.2.2) (by rw [hsz]; exact infoNote) (all_one hn1) ?_))
  have HS : Hid (Below w.heap.size w1 (w2.setCells R 0 nt.toArray.toList) ∧ (w2.setCells R 0 nt.toArray.toList).rangeAt R 0 nt) := Lib.hid ⟨nbelow_cells (H2.out.1.mono hwz) HR.out.2.2.2.2 _ _, World.rangeAt_setCells_same w2 R 0 nt (by rw [hnl]; exact H2.out.2.2)⟩
  have hld := nload hnl HS.out.2
  refine bodyPost_ret (v := (.agg nt.toArray)) (by simp [results, Tryz.results11, Act.put, asAddr, hld]) rfl ⟨rfl, HQ.out.store (HQ.out.keep H1.out H2.out.1 (Nat.le_trans hN hwz) (Nat.le_refl _)) _ (Nat.le_trans hN HR.out.2.2.2.2) HR.out.2.2.2.1 HR.out.1.size (Nat.le_trans H2.out.1.size (nbelow_cells (Below.refl 0 _) (Nat.zero_le _) _ _).size), ((UpT.below HR.out.1).trans HU1.out).low HS.out.1 (Nat.le_refl _)⟩
end Go.Proofs.YthgjejclhdolmaaGreatDoor
namespace Go.Proofs.YthgjejclhdolmaaGreatDoor
open Go.ChangeShapes Go.WideShapes Go.ChangeAt Go.RowKit Go.Maps
set_option linter.unusedVariables false
/-- Numbers are read there. -/
def RI (w : World) (a : Option Addr) (xs : List Int) : Prop := ∀ i, i < xs.length → ∃ ad, a = some ad ∧ ad.block < w.heap.size ∧ w.cell? (ad.add i) = some (.int .i64 (xs.getD i 0))
theorem RI.below {w w' : World} {a : Option Addr} {xs : List Int} (h : RI w a xs) (hb : Below w.heap.size w w') : RI w' a xs := by
  intro i hi
  obtain ⟨ad, h1, h2, h3⟩ := h i hi
  exact ⟨ad, h1, Nat.lt_of_lt_of_le h2 hb.size, (hb.cell (p := ad.add i) (by rw [add_block']; exact h2)).trans h3⟩
end Go.Proofs.YthgjejclhdolmaaGreatDoor
namespace Go.Proofs.YthgjejclhdolmaaGreatDoor
open Go.ChangeShapes Go.WideShapes Go.ChangeAt Go.RowKit
set_option linter.unusedVariables false
set_option linter.unusedSimpArgs false
section
variable {s m d t b f q : Nat} {st : Int}
end
theorem take_succ' (xs : List Int) (k : Nat) (h : k < xs.length) : xs.take (k + 1) = xs.take k ++ [xs.getD k 0] := by
  rw [List.take_succ_eq_append_getElem h]
  simp [List.getD, h]
def kinds12 : List Int := [1, 2, 3, 4, 7, 8, 9, 10, 11, 12, 13, 14]
end Go.Proofs.YthgjejclhdolmaaGreatDoor
namespace Go.Proofs.YthgjejclhdolmaaGreatDoor
open Go.ChangeShapes Go.WideShapes Go.ChangeAt Go.RowKit
set_option linter.unusedVariables false
set_option linter.unusedSimpArgs false
section
variable {cs nt : List Value} {s N : Nat} {k1 k2 k3 k4 o x : Int} {Q : World → Prop}
end
section
variable {w0 w : World} {L : BLoc} {X : SLoc} {D : BSt}
end
end Go.Proofs.YthgjejclhdolmaaGreatDoor
namespace Go.Proofs.YthgjejclhdolmaaGreatDoor
open Go.ChangeShapes Go.WideShapes Go.ChangeAt Go.RowKit
set_option linter.unusedVariables false
set_option linter.unusedSimpArgs false
def jD1 : BSt := openedB st0 (-1) 10
def jD2 : BSt := boughtN jD1 0 0 0 (freshV jD1.nW 0 (kcs (fun _ _ => 0) 0))
def jD3 : BSt := boughtP jD2 0 0 0 (fresh jD2.pW 0 [])
section
variable {w0 w : World} {L : BLoc} {X : SLoc} {D : BSt}
theorem chain0 (h : SJ w0 w L X D) (hn : D.nb = 1) (hp : D.pr 0 = -1) : chL D.pr ((0 : Nat) : Int) = [((0 : Nat) : Int)] := chL_root h.k.pk (by rw [hn]; decide) 0 (by rw [hn]; decide) hp
end
def nA (a b c : Int) : List Value := [.int .u32 0, .int .u32 a, .int .u32 b, .int .u32 c, .int .i64 0, .int .i64 0, .int .i64 0, .int .i64 0, .int .u32 0, .int .i64 0, .int .i64 0, .int .i64 0, .int .i64 0, .int .u32 0, .int .i64 0, .int .i64 0, .int .i64 0, .int .i64 0, .int .u32 0]
def nR (r0 r1 r2 r3 r4 : Int) : List Value := [.int .u32 0, .int .u32 0, .int .u32 0, .int .u32 0, .int .i64 r0, .int .i64 r1, .int .i64 r2, .int .i64 r3, .int .u32 r4, .int .i64 0, .int .i64 0, .int .i64 0, .int .i64 0, .int .u32 0, .int .i64 0, .int .i64 0, .int .i64 0, .int .i64 0, .int .u32 0]
theorem nA_len (a b c : Int) : (nA a b c).length = 19 := rfl
theorem nA_one (a b c : Int) : ∀ v, v ∈ nA a b c → v.oneCell' = true := by simp [nA, Value.oneCell']
theorem nR_len (r0 r1 r2 r3 r4 : Int) : (nR r0 r1 r2 r3 r4).length = 19 := rfl
theorem nR_one (r0 r1 r2 r3 r4 : Int) : ∀ v, v ∈ nR r0 r1 r2 r3 r4 → v.oneCell' = true := by simp [nR, Value.oneCell']
end Go.Proofs.YthgjejclhdolmaaGreatDoor
namespace Go.Proofs.YthgjejclhdolmaaGreatDoor
open Go.ChangeShapes Go.WideShapes Go.ChangeAt Go.RowKit
set_option linter.unusedVariables false
set_option linter.unusedSimpArgs false
def jD4 : BSt := boughtD jD3 0 0 0
def kK : Nat → Int := upd (fun _ => 0) 0 4
def kT : Nat → Bool := upd (fun _ => false) 0 true
def kP : Nat → Int := upd (fun _ => 0) 0 (-1)
def kF : Nat → Bool := upd (fun _ => false) 0 true
def kS0 : Nat → Bool := upd (fun _ => false) 0 false
def kS1 : Nat → Bool := upd kS0 0 true
def kY : Nat → Nat → Nat → Int := upd (fun _ _ _ => 0) 0 (fun _ _ => 0)
section
variable {w0 w w' : World} {L : BLoc} {X : SLoc}
/-- The law's system: one of each. -/
structure SF (w0 w : World) (L : BLoc) (X : SLoc) (sl : Nat → Bool) : Prop where
  sk : SK w0 w L X jD4 kT kP kK kF sl kY
  an : 0 < L.a.n
  pn : 0 < L.b.n
  nn : 0 < L.n
theorem SF.below {sl : Nat → Bool} (h : SF w0 w L X sl) (hb : Below w.heap.size w w') : SF w0 w' L X sl := ⟨h.sk.below hb, h.an, h.pn, h.nn⟩
def nB (r : Int) : List Value := [.int .u32 r, .int .u32 0, .int .u32 0, .int .u32 0, .int .i64 0, .int .i64 0, .int .i64 0, .int .i64 0, .int .u32 0, .int .i64 0, .int .i64 0, .int .i64 0, .int .i64 0, .int .u32 0, .int .i64 0, .int .i64 0, .int .i64 0, .int .i64 0, .int .u32 0]
/-- What a key of a kind is, and what it answers. -/
structure KH (w : World) (s : Nat) (k k0 k1 k2 k3 k4 o x r : Int) : Prop where
  key : ∀ W, Below w.heap.size w W → Calls Tryz.prog 9 #[.pointer (some ⟨s, 0, none⟩), .int .i64 k, .int .i64 0] W fun e w' => e = .returned (Value.agg #[.int .i64 k0, .int .i64 k1, .int .i64 k2, .int .i64 k3, .int .u32 k4]) ∧ Below W.heap.size W w'
  ans : ∀ W, Below w.heap.size w W → Calls Tryz.prog 12 #[.pointer (some ⟨s, 0, none⟩), (Value.agg #[.int .i64 k0, .int .i64 k1, .int .i64 k2, .int .i64 k3, .int .u32 k4]), .agg #[.int .u32 o, .int .u32 x, .int .u32 x, .int .u32 x, .int .i64 0, .int .i64 0, .int .i64 0, .int .i64 0, .int .u32 0, .int .i64 0, .int .i64 0, .int .i64 0, .int .i64 0, .int .u32 0, .int .i64 0, .int .i64 0, .int .i64 0, .int .i64 0, .int .u32 0]] W fun e w' => e = .returned (.tuple #[.agg (nB r).toArray, .bool true]) ∧ Below W.heap.size W w'
variable {sl : Nat → Bool}
end
end Go.Proofs.YthgjejclhdolmaaGreatDoor
namespace Go.Proofs.YthgjejclhdolmaaGreatDoor
open Go.ChangeShapes Go.WideShapes Go.ChangeAt Go.RowKit
set_option linter.unusedVariables false
set_option linter.unusedSimpArgs false
section
variable {s m d t b f q : Nat} {st : Int}
set_option maxRecDepth 100000 in
set_option maxHeartbeats 4000000 in
theorem swaits_ver (k1 k2 k3 k4 : Int) (dp : Nat) (F : Nat → Value) (hF : Hid (∀ j, j < 107 → (F j).oneCell' = true)) (sv v : Int) (hs9 : Hid (F 9 = .int .i64 sv)) (hne : (v == k2) = false) (h40 : 0 ≤ k4) (h41 : k4 ≤ 536870911) (w : World) (hB : SyB w s m d t b f q st) (hP : w.cell? ⟨d, 0, none⟩ = some (.pointer (some ⟨dp, 0, none⟩)))
    (hG : ∀ W, Below w.heap.size w W → Calls Tryz.prog 72 #[.pointer (some ⟨d, 0, none⟩), .int .i64 k1] W fun e w' => e = .returned (.tuple #[.agg (rowL F).toArray, .bool true]) ∧ Below W.heap.size W w')
    (hV : ∀ W, Below w.heap.size w W → Calls Tryz.prog 26 #[.pointer (some ⟨dp, 0, none⟩), .int .i64 k1] W fun e w' => e = .returned (.int .i64 v) ∧ W = w') :
    Calls Tryz.prog 50 #[.pointer (some ⟨s, 0, none⟩), .agg #[.int .i64 6, .int .i64 k1, .int .i64 k2, .int .i64 k3, .int .u32 k4]] w fun e w' => e = .returned (.bool false) ∧ Below w.heap.size w w' := by
  have HG := Lib.hid hG
  have HV := Lib.hid hV
  have HB := Lib.hid hB
  have HP := Lib.hid hP
  have HdL : Hid (d < w.heap.size) := Lib.hid (cell_lt hP)
  clear hG hB hP
  go_enter Tryz.func50, Tryz.ntmps50
  go_upto_region 1 with fail
  generalize hA : World.alloc w _ = wA
  obtain ⟨K, hK⟩ : ∃ K, K = w.heap.size := ⟨_, rfl⟩
  have HBa : Hid (Below w.heap.size w wA) := Lib.hid (by rw [← hA]; exact (Below.refl _ _).alloc (Nat.le_refl _) _)
  have HK0 : Hid (KeyC wA K 6 k1 k2 k3 k4) := Lib.hid (by rw [← hA, hK]; exact KeyC.new w 6 k1 k2 k3 k4 _)
  rw [← hK]
  clear hA hK
  go_cut [5, 6] (fun u o wx => ∃ bx : Nat, u = .pointer (some ⟨bx, 0, none⟩) ∧ o = .bool true ∧ Below w.heap.size w wx ∧ KeyC wx K 6 k1 k2 k3 k4 ∧ wx.rangeAt bx 0 (rowL F))
  case first =>
    have sc := ((HB.out.below HBa.out).c1)
    have kc1 := HK0.out.c1
    have HBd : Hid (Below wA.heap.size wA wA.drew) := Lib.hid (Below.refl _ _).drew
    have HBo : Hid (∀ o, Below wA.heap.size wA (wA.alloc o).drew) := Lib.hid (fun o => ((Below.refl _ _).alloc (Nat.le_refl _) o).drew)
    have scA : ∀ o, (wA.alloc o).cell? ⟨s, 1, none⟩ = some (.pointer (some ⟨d, 0, none⟩)) := fun o => ((HB.out.below HBa.out).below ((Below.refl wA.heap.size wA).alloc (Nat.le_refl _) o)).c1
    have kcA : ∀ o, (wA.alloc o).cell? ⟨K, 1, none⟩ = some (.int .i64 k1) := fun o => (HK0.out.below ((Below.refl wA.heap.size wA).alloc (Nat.le_refl _) o)).c1
    go_region_with (first | (go_at_call 72; (with_reducible refine (HG.out _ (HBa.out.trans (HBd.out.mono HBa.out.size))).mono ?_); rintro e w2 ⟨rfl, hb⟩; have HBB := Lib.hid hb; have hsN := row_new w2 F hF.out; clear hb) | (go_at_call 72; (with_reducible refine (HG.out _ (HBa.out.trans ((HBo.out _).mono HBa.out.size))).mono ?_); rintro e w2 ⟨rfl, hb⟩; have HBA := Lib.hid hb; have HTh := Lib.hid (there_below (there_drew (dthere_new wA Tryz.zeroCells128 107 zsize 128)) hb (by simp)); have hsN := row_put w2 wA.heap.size F HTh.out hF.out; clear hb))
    all_goals (go_wp2_with fail; go_meet; clear sc kc1 scA kcA)
    all_goals (first
      | (have hz : wA.heap.size ≤ w2.heap.size := HBB.out.size; have hb := dbelow_cells ((HBd.out.trans (HBB.out.mono (by simp))).alloc hz (.cells Tryz.zeroCells128 128 (0, 0))) hz (rowL F) 0; exact ⟨_, rfl, rfl, HBa.out.trans (hb.mono HBa.out.size), HK0.out.below hb, World.rangeAt_setCells_same _ _ 0 (rowL F) (by rw [rowL_len]; exact dthere_new _ _ 107 zsize _)⟩)
      | (have hb := dbelow_cells ((HBo.out _).trans (HBA.out.mono (by simp))) (Nat.le_refl _) (rowL F) 0; exact ⟨_, rfl, rfl, HBa.out.trans (hb.mono HBa.out.size), HK0.out.below hb, World.rangeAt_setCells_same _ _ 0 (rowL F) (by rw [rowL_len]; exact HTh.out)⟩))
  case rest =>
    obtain ⟨bx, rfl, rfl, hb, ky, hr⟩ := hcut
    have HC := Lib.hid hb
    have c9 := (range_at hr 9 (by decide)).trans (congrArg some hs9.out)
    have q1 := ky.c1
    have q2 := ky.c2
    have q4 := ky.c4
    have sc := (HB.out.below hb).c1
    have pc := (hb.cell (p := ⟨d, 0, none⟩) HdL.out).trans HP.out
    have HV9 := Lib.hid (fun n => HV.out _ (below_drewN hb n))
    have hk4 : IntKind.i64.wrap k4 = k4 := by rw [IntKind.wrap_i64]; omega
    clear hb ky hr
    go_wp2_with fail
    go_quiet ((go_at_call 26; exact kquiet_left (HV9.out _)))
    go_wp2_with fail
    go_ret
    exact ⟨rfl, below_drewN HC.out _⟩
end
/-- A domain's row, of any state but waiting. -/
structure RF (f : Nat → Value) (st : Int) : Prop where
  one : ∀ j, j < 107 → (f j).oneCell' = true
  s9 : f 9 = .int .i64 st
  n2 : (st == 2) = false
theorem rf_R (r : Nat) (m0 m1 m2 m3 m4 : Int) (pc st ft : Int) (h : (st == 2) = false) : RF (fR r m0 m1 m2 m3 m4 pc st ft) st := ⟨fun j _ => fR_one r m0 m1 m2 m3 m4 pc st ft j, rfl, h⟩
theorem rf_z : RF zd1 1 := ⟨fun j _ => zd1_one j, rfl, rfl⟩
section
variable {w0 w W : World} {L : BLoc} {X : SLoc} {f : Nat → Value}
/-- Of any right key it is told whether it is live, the same whatever the domain's row is. -/
theorem live_dom (hn : 0 < L.dn) (k0 k1 k2 k3 k4 : Int) (hk : codeOf k0 k1 k2 k3 k4 = 0) (g4 : 0 ≤ k4) : ∃ r : Bool, (r = true → k0 ≠ 6) ∧ ∀ (W0 W : World) (f : Nat → Value) (st : Int), RF f st → DS W0 W L X f → Calls Tryz.prog 28 #[.pointer (some ⟨X.s, 0, none⟩), (Value.agg #[.int .i64 k0, .int .i64 k1, .int .i64 k2, .int .i64 k3, .int .u32 k4])] W fun e w' => e = .returned (.bool r) ∧ Below W.heap.size W w' := by
  have h14 : ¬ (k0 < 0 ∨ 14 < k0) := fun hn => by
    rw [codeOf_102 _ _ _ _ _ hn] at hk
    exact absurd hk (by decide)
  have hin : InB k0 k1 k2 k3 k4 := by
    by_cases hi : InB k0 k1 k2 k3 k4
    · exact hi
    · rw [codeOf_103 _ _ _ _ _ h14 hi] at hk
      exact absurd hk (by decide)
  by_cases hp : k0 = 0 ∨ k0 = 1 ∨ k0 = 11 ∨ k0 = 12 ∨ k0 = 13 ∨ k0 = 14
  · exact ⟨true, fun _ => by omega, fun W0 W f st hr hd => slive_plain X.s k0 k1 k2 k3 k4 hp W⟩
  by_cases hm : k0 = 2 ∨ k0 = 3
  · refine ⟨false, fun h => by simp at h, fun W0 W f st hr ⟨D, h, hd⟩ => slive_mem X.s L.mb k0 k1 k2 k3 k4 hm false (Lib.hid ?_) W h.b.c0 h.k.mm.m0 h.k.mm.sv.st⟩
    rw [hd.nt, hd.pt]
    rcases hm with rfl | rfl <;> simp [liveB, thereB]
  obtain rfl | rfl | rfl | rfl | rfl | rfl | rfl : k0 = 4 ∨ k0 = 5 ∨ k0 = 6 ∨ k0 = 7 ∨ k0 = 8 ∨ k0 = 9 ∨ k0 = 10 := by omega
  · exact ⟨(thereB L.dn (upd (fun _ => false) 0 true) k1 && ((0 : Int) == k2)), fun _ => by decide, fun W0 W f st hr ⟨D, h, hd⟩ => slive_dom k1 k2 k3 k4 L.dp L.dR L.dn L.dc L.dB D.dt D.dv _ (Lib.hid (by rw [hd.dt, hd.dv])) W h.b h.k.d.pl.f0 h.k.d.pl.ar⟩
  · exact ⟨(thereB L.dn (upd (fun _ => false) 0 true) k1 && ((0 : Int) == k2)), fun _ => by decide, fun W0 W f st hr ⟨D, h, hd⟩ => slive_start k1 k2 k3 k4 L.dp L.dR L.dn L.dc L.dB D.dt D.dv _ (Lib.hid (by rw [hd.dt, hd.dv])) W h.b h.k.d.pl.f0 h.k.d.pl.ar⟩
  · have hb := hin
    unfold InB at hb
    have h41 : k4 ≤ 536870911 := hb.2.2.2.2.2.2
    refine ⟨false, fun h => by simp at h, fun W0 W f st hr ⟨D, h, hd⟩ => slive_resume k1 k2 k3 k4 false W (fun V hV => ?_)⟩
    have hs := h.below hV
    by_cases h0 : k1 = 0
    · subst h0
      have hG : ∀ U, Below V.heap.size V U → Calls Tryz.prog 72 #[.pointer (some ⟨L.dP, 0, none⟩), .int .i64 0] U fun e w' => e = .returned (.tuple #[.agg (rowL f).toArray, .bool true]) ∧ Below U.heap.size U w' := fun U hU => DS.get ⟨D, hs.below hU, hd⟩ hn (Lib.hid hr.one)
      by_cases h2 : k2 = 0
      · subst h2
        exact swaits_state 0 0 k3 k4 L.dp f (Lib.hid hr.one) st (Lib.hid hr.s9) hr.n2 g4 h41 V hs.b hs.k.d.pl.f0 hG (fun U hU => aver_in 0 hn 0 (Lib.hid (by rw [hd.dv])) U (hs.below hU).k.d.pl.ar)
      · exact swaits_ver 0 k2 k3 k4 L.dp f (Lib.hid hr.one) st 0 (Lib.hid hr.s9) (by simp; omega) g4 h41 V hs.b hs.k.d.pl.f0 hG (fun U hU => aver_in 0 hn 0 (Lib.hid (by rw [hd.dv])) U (hs.below hU).k.d.pl.ar)
    · exact swaits_dead k1 k2 k3 k4 L.dp zd (Lib.hid (fun j _ => zd_one j)) g4 h41 V hs.b hs.k.d.pl.f0 (fun U hU => dget_dead k1 k1.toNat (Lib.hid (by omega)) (Lib.hid (by rw [hd.dt]; simp [upd]; omega)) U (hs.below hU).k.d)
  · exact ⟨false, fun h => by simp at h, fun W0 W f st hr ⟨D, h, hd⟩ => slive_meter k1 k2 k3 k4 X.tp X.tR X.tn X.tn X.tB (fun _ => false) (fun _ => 0) false (Lib.hid (by simp [thereB])) W h.b h.t.f0 h.t.ar⟩
  · exact ⟨(thereB L.n (thN 1) k1 && ((0 : Int) == k2)), fun _ => by decide, fun W0 W f st hr ⟨D, h, hd⟩ => slive_bank k1 k2 k3 k4 L.p L.B L.n L.c L.bB (thN D.nb) (fun _ => 0) _ (Lib.hid (by rw [hd.nb])) W h.b h.k.kk.f0 h.k.kk.ar⟩
  · exact ⟨false, fun h => by simp at h, fun W0 W f st hr ⟨D, h, hd⟩ => slive_maker_no k1 k2 k3 k4 X.fp X.fR X.fn X.fn X.fB (fun _ => false) (fun _ => 0) (Lib.hid (by simp [thereB])) W h.b h.f.f0 h.f.ar⟩
  · exact ⟨false, fun h => by simp at h, fun W0 W f st hr ⟨D, h, hd⟩ => slive_builder_no k1 k2 k3 k4 X.fp X.fR X.fn X.fn X.fB (fun _ => false) (fun _ => 0) (Lib.hid (by simp [thereB])) W h.b h.f.f0 h.f.ar⟩
/-- What a right key is seen as, the same whatever the domain's row is. -/
theorem seen_dom (hn : 0 < L.dn) (vs vr : Value) (k0 k1 k2 k3 k4 : Int) (hk : codeOf k0 k1 k2 k3 k4 = 0) (g4 : 0 ≤ k4) : ∃ x0 x1 x2 x3 x4 : Int, codeOf x0 x1 x2 x3 x4 = 0 ∧ (x0 == 6) = false ∧
    (∀ (W0 W : World) (f : Nat → Value) (st : Int), RF f st → DS W0 W L X f → ErrsAt vs vr W → Calls Tryz.prog 10 #[.pointer (some ⟨X.s, 0, none⟩), (Value.agg #[.int .i64 k0, .int .i64 k1, .int .i64 k2, .int .i64 k3, .int .u32 k4])] W fun e w' => e = .returned (Value.agg #[.int .i64 x0, .int .i64 x1, .int .i64 x2, .int .i64 x3, .int .u32 x4]) ∧ Below W.heap.size W w') ∧
    (∀ (W0 W : World) (f : Nat → Value) (st : Int), RF f st → DS W0 W L X f → ErrsAt vs vr W → Calls Tryz.prog 10 #[.pointer (some ⟨X.s, 0, none⟩), (Value.agg #[.int .i64 x0, .int .i64 x1, .int .i64 x2, .int .i64 x3, .int .u32 x4])] W fun e w' => e = .returned (Value.agg #[.int .i64 x0, .int .i64 x1, .int .i64 x2, .int .i64 x3, .int .u32 x4]) ∧ Below W.heap.size W w') := by
  obtain ⟨r, h6, hr⟩ := live_dom (X := X) hn k0 k1 k2 k3 k4 hk g4
  have hR := Lib.hid (right_of_code hk)
  cases r
  · exact ⟨0, 0, 0, 0, 0, by decide, by decide, fun W0 W f st hf hd hE => oseen_dead k0 k1 k2 k3 k4 W (fun V hV => nvalid_ok k0 k1 k2 k3 k4 hR vs vr V (hE.below hV)) (fun V hV => hr W0 V f st hf (hd.below hV)), fun W0 W f st hf hd hE => oseen_void X.s vs vr W hE⟩
  · have hs : ∀ (W0 W : World) (f : Nat → Value) (st : Int), RF f st → DS W0 W L X f → ErrsAt vs vr W → Calls Tryz.prog 10 #[.pointer (some ⟨X.s, 0, none⟩), (Value.agg #[.int .i64 k0, .int .i64 k1, .int .i64 k2, .int .i64 k3, .int .u32 k4])] W fun e w' => e = .returned (Value.agg #[.int .i64 k0, .int .i64 k1, .int .i64 k2, .int .i64 k3, .int .u32 k4]) ∧ Below W.heap.size W w' := fun W0 W f st hf hd hE => oseen_live k0 k1 k2 k3 k4 W (fun V hV => nvalid_ok k0 k1 k2 k3 k4 hR vs vr V (hE.below hV)) (fun V hV => hr W0 V f st hf (hd.below hV))
    exact ⟨k0, k1, k2, k3, k4, hk, by simpa using h6 rfl, hs, hs⟩
/-- The domain's key is seen. -/
theorem seen_d (hn : 0 < L.dn) (vs vr : Value) (W : World) (h : DS w0 W L X f) (hE : ErrsAt vs vr W) : Calls Tryz.prog 10 #[.pointer (some ⟨X.s, 0, none⟩), (Value.agg #[.int .i64 4, .int .i64 0, .int .i64 0, .int .i64 0, .int .u32 0])] W fun e w' => e = .returned (Value.agg #[.int .i64 4, .int .i64 0, .int .i64 0, .int .i64 0, .int .u32 0]) ∧ Below W.heap.size W w' := by
  refine oseen_live 4 0 0 0 0 W (fun V hV => nvalid_ok 4 0 0 0 0 (Lib.hid (by decide)) vs vr V (hE.below hV)) (fun V hV => ?_)
  obtain ⟨D, h1, hd⟩ := h.below hV
  exact slive_dom 0 0 0 0 L.dp L.dR L.dn L.dc L.dB D.dt D.dv true (Lib.hid (by rw [hd.dt, hd.dv]; simp [thereB, upd, hn])) V h1.b h1.k.d.pl.f0 h1.k.d.pl.ar
end
section
variable {w0 w : World} {L : BLoc} {X : SLoc} {f f' : Nat → Value} {l l' : List Int} {B B' : Nat} {A : List Nat} {nt : List Value}
/-- An ask, from what the domain answers. -/
theorem askQ (hX : FL X) (hn : 0 < L.dn) (vs vr : Value) (o a : Int) (hnl : nt.length = 19) (hn1 : ∀ v, v ∈ nt → v.oneCell' = true) (m0 m1 m2 m3 m4 : Int) (x0 x1 x2 x3 x4 : Int) (sb db : Nat) (w : World) (hs : w.cell? ⟨sb, 0, none⟩ = some (.pointer (some ⟨X.s, 0, none⟩))) (hd : KeyC w db 4 0 0 0 0) (hA : ∀ k ∈ A, k < w.heap.size) (h : DA w0 w L X B A f l) (hE : ErrsAt vs vr w)
    (hm : ∀ W, DS w0 W L X f → ErrsAt vs vr W → Calls Tryz.prog 10 #[.pointer (some ⟨X.s, 0, none⟩), (Value.agg #[.int .i64 m0, .int .i64 m1, .int .i64 m2, .int .i64 m3, .int .u32 m4])] W fun e w' => e = .returned (Value.agg #[.int .i64 x0, .int .i64 x1, .int .i64 x2, .int .i64 x3, .int .u32 x4]) ∧ Below W.heap.size W w')
    (hdom : ∀ cs, Hid (CallC cs X.s 4 0 0 0 0 o a) → Hid (CallJ cs X.s o x0 x1 x2 x3 x4 0 0 0 0 0) → ∀ V, Below w.heap.size w V → Calls Tryz.prog 55 #[(.agg cs.toArray)] V fun e w' => e = .returned (.agg nt.toArray) ∧ (DQ w.heap.size V.heap.size w'.heap.size w0 w' L X B' A f' l' ∧ KA A w w') ∧ UpT w.heap.size V w') :
    Calls Tryz.prog 11 #[.int .u32 o, .int .u32 a, (Value.agg #[.int .i64 m0, .int .i64 m1, .int .i64 m2, .int .i64 m3, .int .u32 m4]), .pointer (some ⟨sb, 0, none⟩), .pointer (some ⟨db, 0, none⟩)] w fun e w' => e = .returned (.agg nt.toArray) ∧ DA w0 w' L X B' A f' l' ∧ KA A w w' ∧ w.heap.size ≤ w'.heap.size := by
  have hqf := qfD (w0 := w0) (L := L) (B := B') (A := A) (f := f') (l := l') (w := w) (N := w.heap.size) hX hA
  have hDS : ∀ V, Below w.heap.size w V → DS w0 V L X f := fun V hV => h.1.below hV
  refine (oaskDq (Q := fun M T W => DQ w.heap.size M T w0 W L X B' A f' l' ∧ KA A w W) (N := w.heap.size) hnl hn1 4 0 0 0 0 m0 m1 m2 m3 m4 o a X.s sb db w (Nat.le_refl _) hs hd hqf (fun W hW => ?_)).mono (fun e w' h9 => ⟨h9.1, h9.2.1.1.done, h9.2.1.2, h9.2.2.1⟩)
  refine oanswerq (Q := fun M T W => DQ w.heap.size M T w0 W L X B' A f' l' ∧ KA A w W) (N := w.heap.size) hnl hn1 X.s 4 0 0 0 0 4 0 0 0 0 o a 0 0 m0 m1 m2 m3 m4 0 0 0 0 0 0 0 0 0 0 x0 x1 x2 x3 x4 0 0 0 0 0 0 0 0 0 0 (by decide) (by decide) W hW.size hqf (fun V hV => ?_) (fun V hV => ?_) (fun V hV => ?_) (fun V hV => ?_) (fun V hV => ?_)
  · exact seen_d hn vs vr V (hDS V (hW.trans (hV.mono hW.size))) (hE.below (hW.trans (hV.mono hW.size)))
  · exact hm V (hDS V (hW.trans (hV.mono hW.size))) (hE.below (hW.trans (hV.mono hW.size)))
  · exact oseen_void X.s vs vr V (hE.below (hW.trans (hV.mono hW.size)))
  · exact oseen_void X.s vs vr V (hE.below (hW.trans (hV.mono hW.size)))
  · have hV2 := hW.trans (hV.mono hW.size)
    exact oanswer_domainq (Q := fun M T W => DQ w.heap.size M T w0 W L X B' A f' l' ∧ KA A w W) (N := w.heap.size) hnl hn1 (Lib.hid (c25_call X.s 4 0 0 0 0 o a 0 0 x0 x1 x2 x3 x4 0 0 0 0 0 0 0 0 0 0)) V hV2.size hqf (fun U hU => hdom _ (Lib.hid (c25_call X.s 4 0 0 0 0 o a 0 0 x0 x1 x2 x3 x4 0 0 0 0 0 0 0 0 0 0)) (Lib.hid (c25_j X.s 4 0 0 0 0 o a 0 0 x0 x1 x2 x3 x4 0 0 0 0 0 0 0 0 0 0)) U (hV2.trans (hU.mono hV2.size)))
theorem DQ.errs {N M T : Nat} {W : World} (h : DQ N M T w0 W L X B A f l) (vs vr : Value) (hE : ErrsAt vs vr w0) : ErrsAt vs vr W := by
  obtain ⟨⟨D, h1, _⟩, _⟩ := h
  exact hE.below h1.k.bel
theorem DQ.c1 {N M T : Nat} {W : World} (h : DQ N M T w0 W L X B A f l) : W.cell? ⟨X.s, 1, none⟩ = some (.pointer (some ⟨L.dP, 0, none⟩)) := by
  obtain ⟨⟨D, h1, _⟩, _⟩ := h
  exact h1.b.c1
theorem DQ.c5 {N M T : Nat} {W : World} (h : DQ N M T w0 W L X B A f l) : W.cell? ⟨X.s, 5, none⟩ = some (.pointer (some ⟨X.q, 0, none⟩)) := by
  obtain ⟨⟨D, h1, _⟩, _⟩ := h
  exact h1.b.c5
theorem DA.at (h : DA w0 w L X B A f l) (hX : FL X) (hA : ∀ k ∈ A, k < w.heap.size) {V : World} (hV : Below w.heap.size w V) : DQ w.heap.size w.heap.size w.heap.size w0 V L X B A f l ∧ KA A w V := ⟨h.start hX hV, fun k hk => hV.block k (hA k hk)⟩
theorem qn_fr (hX : FL X) (hA : ∀ k ∈ A, k < w.heap.size) (w1 w2 : World) (h : (fun W => DQ w.heap.size w.heap.size w.heap.size w0 W L X B A f l ∧ KA A w W) w1) (hb : Below w.heap.size w1 w2) : (fun W => DQ w.heap.size w.heap.size w.heap.size w0 W L X B A f l ∧ KA A w W) w2 := (qfD (w := w) (N := w.heap.size) hX hA).fr _ _ _ _ h ⟨hb, fun k h1 h2 => by omega⟩
/-- As a post of the kind that askQ asks for. -/
theorem qn_post {V w' : World} (h : (fun W => DQ w.heap.size w.heap.size w.heap.size w0 W L X B A f l ∧ KA A w W) w') (hV : w.heap.size ≤ V.heap.size) (hu : UpT w.heap.size V w') : (DQ w.heap.size V.heap.size w'.heap.size w0 w' L X B A f l ∧ KA A w w') ∧ UpT w.heap.size V w' := ⟨⟨h.1.any _ (Nat.le_trans hV hu.1), h.2⟩, hu⟩
def nX3 : List Value := [.int .u32 3, .int .u32 0, .int .u32 0, .int .u32 0, .int .i64 0, .int .i64 0, .int .i64 0, .int .i64 0, .int .u32 0, .int .i64 0, .int .i64 0, .int .i64 0, .int .i64 0, .int .u32 0, .int .i64 0, .int .i64 0, .int .i64 0, .int .i64 0, .int .u32 0]
theorem nX3_len : nX3.length = 19 := rfl
theorem nX3_one : ∀ v, v ∈ nX3 → v.oneCell' = true := by simp [nX3, Value.oneCell']
/-- A register for keys is set. -/
theorem dom_set (hX : FL X) (hn : 0 < L.dn) (vs vr : Value) (hE : ErrsAt vs vr w0) (hA0 : ∀ k ∈ A, k < w.heap.size ∧ ((k < L.dR ∧ k < L.dG) ∨ X.s < k)) (h : DA w0 w L X B A zd1 l) (r : Nat) (hr : r < 16) (x0 x1 x2 x3 x4 : Int) (hx : rightB x0 x1 x2 x3 x4 = true) {cs : List Value} (hc : Hid (CallC cs X.s 4 0 0 0 0 1 r)) (hj : Hid (CallJ cs X.s 1 x0 x1 x2 x3 x4 0 0 0 0 0)) (V : World) (hV : Below w.heap.size w V) : Calls Tryz.prog 55 #[(.agg cs.toArray)] V fun e w' => e = .returned (.agg (nA 0 0 0).toArray) ∧ (DQ w.heap.size V.heap.size w'.heap.size w0 w' L X B A (fR r x0 x1 x2 x3 x4 0 1 0) l ∧ KA A w w') ∧ UpT w.heap.size V w' := by
  have hA := fun k hk => (hA0 k hk).1
  have hF : Hid (∀ j, j < 107 → (zd1 j).oneCell' = true) := Lib.hid rf_z.one
  refine (cdom_1 (Q := (fun W => DQ w.heap.size w.heap.size w.heap.size w0 W L X B A (fR r x0 x1 x2 x3 x4 0 1 0) l ∧ KA A w W)) (N := w.heap.size) (d := L.dP) (nt := nA 0 0 0) hc zd1 hF true V (h.at hX hA hV).1.c1 (fun U hU => DS.get (h.at hX hA ((hV).trans (hU.mono (hV).size))).1.1 hn hF) (nA_len _ _ _) (nA_one _ _ _) hV.size (qn_fr hX hA) (fun W hW => ?_)).mono (fun e w' h9 => ⟨h9.1, qn_post h9.2.1 hV.size h9.2.2⟩)
  have hW2 := hV.trans (hW.mono hV.size)
  refine creg_1 (Q := (fun W => DQ w.heap.size w.heap.size w.heap.size w0 W L X B A (fR r x0 x1 x2 x3 x4 0 1 0) l ∧ KA A w W)) (N := w.heap.size) (d := L.dP) (nt := nA 0 0 0) r hr (Lib.hid rfl) hc hj (nA_len _ _ _) (nA_one _ _ _) zd1 hF .nilIface W hW2.size (h.at hX hA hW2).1.c1 (qn_fr hX hA) (fun U hU => hU.1.c1) (fun U hU => ?_) (fun U hU => otold_nil (nA 0 0 0) (nA_len _ _ _) (nA_one _ _ _) U)
  have hU2 := hW2.trans (hU.mono hW2.size)
  rw [fR_reg]
  exact DQ.put hX hA0 (h.at hX hA hU2) hU2.size hn r hr x0 x1 x2 x3 x4 0 1 0 hx (by decide) (by decide) (by decide) (by decide) vs vr ((h.at hX hA hU2).1.errs vs vr hE)
theorem dom_set_bad (hX : FL X) (hn : 0 < L.dn) (vs vr : Value) (hE : ErrsAt vs vr w0) (hA0 : ∀ k ∈ A, k < w.heap.size ∧ ((k < L.dR ∧ k < L.dG) ∨ X.s < k)) (h : DA w0 w L X B A f l) (st : Int) (hf : RF f st) (a : Int) (ha : 16 ≤ a) {cs : List Value} (hc : Hid (CallC cs X.s 4 0 0 0 0 1 a)) (V : World) (hV : Below w.heap.size w V) : Calls Tryz.prog 55 #[(.agg cs.toArray)] V fun e w' => e = .returned (.agg (nX3).toArray) ∧ (DQ w.heap.size V.heap.size w'.heap.size w0 w' L X B A f l ∧ KA A w w') ∧ UpT w.heap.size V w' := by
  have hA := fun k hk => (hA0 k hk).1
  have hF := Lib.hid hf.one
  refine (cdom_1 (Q := (fun W => DQ w.heap.size w.heap.size w.heap.size w0 W L X B A f l ∧ KA A w W)) (N := w.heap.size) (d := L.dP) (nt := nX3) hc f hF true V (h.at hX hA hV).1.c1 (fun U hU => DS.get (h.at hX hA ((hV).trans (hU.mono (hV).size))).1.1 hn hF) nX3_len nX3_one hV.size (qn_fr hX hA) (fun W hW => ?_)).mono (fun e w' h9 => ⟨h9.1, qn_post h9.2.1 hV.size h9.2.2⟩)
  have hW2 := hV.trans (hW.mono hV.size)
  exact (creg_bad ha hc f W).mono (fun e w' h9 => ⟨h9.1, h.at hX hA (hW2.trans (h9.2.mono hW2.size)), UpT.below h9.2⟩)
theorem dom_tell_bad (hX : FL X) (hn : 0 < L.dn) (vs vr : Value) (hE : ErrsAt vs vr w0) (hA0 : ∀ k ∈ A, k < w.heap.size ∧ ((k < L.dR ∧ k < L.dG) ∨ X.s < k)) (h : DA w0 w L X B A f l) (st : Int) (hf : RF f st) (a : Int) (ha : 16 ≤ a) {cs : List Value} (hc : Hid (CallC cs X.s 4 0 0 0 0 2 a)) (V : World) (hV : Below w.heap.size w V) : Calls Tryz.prog 55 #[(.agg cs.toArray)] V fun e w' => e = .returned (.agg (nX3).toArray) ∧ (DQ w.heap.size V.heap.size w'.heap.size w0 w' L X B A f l ∧ KA A w w') ∧ UpT w.heap.size V w' := by
  have hA := fun k hk => (hA0 k hk).1
  have hF := Lib.hid hf.one
  refine (cdom_2 (Q := (fun W => DQ w.heap.size w.heap.size w.heap.size w0 W L X B A f l ∧ KA A w W)) (N := w.heap.size) (d := L.dP) (nt := nX3) hc f hF true V (h.at hX hA hV).1.c1 (fun U hU => DS.get (h.at hX hA ((hV).trans (hU.mono (hV).size))).1.1 hn hF) nX3_len nX3_one hV.size (qn_fr hX hA) (fun W hW => ?_)).mono (fun e w' h9 => ⟨h9.1, qn_post h9.2.1 hV.size h9.2.2⟩)
  have hW2 := hV.trans (hW.mono hV.size)
  exact (creg_bad ha hc f W).mono (fun e w' h9 => ⟨h9.1, h.at hX hA (hW2.trans (h9.2.mono hW2.size)), UpT.below h9.2⟩)
/-- A register for keys is told. -/
theorem dom_tell (r : Nat) (hr : r < 16) (x0 x1 x2 x3 x4 : Int) (pc st : Int) (hs2 : (st == 2) = false) (hX : FL X) (hn : 0 < L.dn) (vs vr : Value) (hE : ErrsAt vs vr w0) (hA0 : ∀ k ∈ A, k < w.heap.size ∧ ((k < L.dR ∧ k < L.dG) ∨ X.s < k)) (h : DA w0 w L X B A (fR r x0 x1 x2 x3 x4 pc st 0) l)
    (hm : ∀ (W0 W : World) (f : Nat → Value) (st : Int), RF f st → DS W0 W L X f → ErrsAt vs vr W → Calls Tryz.prog 10 #[.pointer (some ⟨X.s, 0, none⟩), (Value.agg #[.int .i64 x0, .int .i64 x1, .int .i64 x2, .int .i64 x3, .int .u32 x4])] W fun e w' => e = .returned (Value.agg #[.int .i64 x0, .int .i64 x1, .int .i64 x2, .int .i64 x3, .int .u32 x4]) ∧ Below W.heap.size W w') {cs : List Value} (hc : Hid (CallC cs X.s 4 0 0 0 0 2 r)) (V : World) (hV : Below w.heap.size w V) : Calls Tryz.prog 55 #[(.agg cs.toArray)] V fun e w' => e = .returned (.agg ((nR x0 x1 x2 x3 x4)).toArray) ∧ (DQ w.heap.size V.heap.size w'.heap.size w0 w' L X B A (fR r x0 x1 x2 x3 x4 pc st 0) l ∧ KA A w w') ∧ UpT w.heap.size V w' := by
  have hA := fun k hk => (hA0 k hk).1
  have hf : RF (fR r x0 x1 x2 x3 x4 pc st 0) st := rf_R r x0 x1 x2 x3 x4 pc st 0 hs2
  have hF := Lib.hid hf.one
  refine (cdom_2 (Q := (fun W => DQ w.heap.size w.heap.size w.heap.size w0 W L X B A (fR r x0 x1 x2 x3 x4 pc st 0) l ∧ KA A w W)) (N := w.heap.size) (d := L.dP) (nt := nR x0 x1 x2 x3 x4) hc (fR r x0 x1 x2 x3 x4 pc st 0) hF true V (h.at hX hA hV).1.c1 (fun U hU => DS.get (h.at hX hA ((hV).trans (hU.mono (hV).size))).1.1 hn hF) (nR_len _ _ _ _ _) (nR_one _ _ _ _ _) hV.size (qn_fr hX hA) (fun W hW => ?_)).mono (fun e w' h9 => ⟨h9.1, qn_post h9.2.1 hV.size h9.2.2⟩)
  have hW2 := hV.trans (hW.mono hV.size)
  have hk := fun i hi => fR_key r x0 x1 x2 x3 x4 pc st 0 i hi
  refine (creg_2 (nt := nR x0 x1 x2 x3 x4) (m0 := x0) (m1 := x1) (m2 := x2) (m3 := x3) (m4 := x4) (p0 := x0) (p1 := x1) (p2 := x2) (p3 := x3) (p4 := x4) (nR_len _ _ _ _ _) (nR_one _ _ _ _ _) r hr (Lib.hid rfl) hc (fR r x0 x1 x2 x3 x4 pc st 0) (Lib.hid ⟨hk 0 (by decide), hk 1 (by decide), hk 2 (by decide), hk 3 (by decide), hk 4 (by decide)⟩) W (fun U hU => ?_) (fun U hU => okeyed_is x0 x1 x2 x3 x4 U)).mono (fun e w' h9 => ⟨h9.1, h.at hX hA (hW2.trans (h9.2.mono hW2.size)), UpT.below h9.2⟩)
  have hU2 := hW2.trans (hU.mono hW2.size)
  exact hm _ U _ st hf (h.at hX hA hU2).1.1 ((h.at hX hA hU2).1.errs vs vr hE)
/-- Its place is set. -/
theorem dom_place (r : Nat) (hr : r < 16) (x0 x1 x2 x3 x4 : Int) (hx : rightB x0 x1 x2 x3 x4 = true) (pc : Int) (p0 : 0 ≤ pc) (p1 : pc ≤ 4294967295) (hX : FL X) (hn : 0 < L.dn) (vs vr : Value) (hE : ErrsAt vs vr w0) (hA0 : ∀ k ∈ A, k < w.heap.size ∧ ((k < L.dR ∧ k < L.dG) ∨ X.s < k)) (h : DA w0 w L X B A (fR r x0 x1 x2 x3 x4 0 1 0) l) {cs : List Value} (hc : Hid (CallC cs X.s 4 0 0 0 0 6 pc)) (V : World) (hV : Below w.heap.size w V) : Calls Tryz.prog 55 #[(.agg cs.toArray)] V fun e w' => e = .returned (.agg ((nA 0 0 0)).toArray) ∧ (DQ w.heap.size V.heap.size w'.heap.size w0 w' L X B A (fR r x0 x1 x2 x3 x4 pc 1 0) l ∧ KA A w w') ∧ UpT w.heap.size V w' := by
  have hA := fun k hk => (hA0 k hk).1
  have hf : RF (fR r x0 x1 x2 x3 x4 0 1 0) 1 := rf_R r x0 x1 x2 x3 x4 0 1 0 rfl
  have hF := Lib.hid hf.one
  refine (cdom_6 (Q := (fun W => DQ w.heap.size w.heap.size w.heap.size w0 W L X B A (fR r x0 x1 x2 x3 x4 pc 1 0) l ∧ KA A w W)) (N := w.heap.size) (d := L.dP) (nt := nA 0 0 0) hc (fR r x0 x1 x2 x3 x4 0 1 0) hF true V (h.at hX hA hV).1.c1 (fun U hU => DS.get (h.at hX hA ((hV).trans (hU.mono (hV).size))).1.1 hn hF) (nA_len _ _ _) (nA_one _ _ _) hV.size (qn_fr hX hA) (fun W hW => ?_)).mono (fun e w' h9 => ⟨h9.1, qn_post h9.2.1 hV.size h9.2.2⟩)
  have hW2 := hV.trans (hW.mono hV.size)
  refine cpart_6 (Q := (fun W => DQ w.heap.size w.heap.size w.heap.size w0 W L X B A (fR r x0 x1 x2 x3 x4 pc 1 0) l ∧ KA A w W)) (N := w.heap.size) (d := L.dP) (nt := nA 0 0 0) hc p0 p1 (nA_len _ _ _) (nA_one _ _ _) (fR r x0 x1 x2 x3 x4 0 1 0) hF .nilIface W hW2.size (h.at hX hA hW2).1.c1 (qn_fr hX hA) (fun U hU => hU.1.c1) (fun U hU => ?_) (fun U hU => otold_nil (nA 0 0 0) (nA_len _ _ _) (nA_one _ _ _) U)
  have hU2 := hW2.trans (hU.mono hW2.size)
  rw [fR_pc]
  exact DQ.put hX hA0 (h.at hX hA hU2) hU2.size hn r hr x0 x1 x2 x3 x4 pc 1 0 hx (by decide) (by decide) (by decide) (by decide) vs vr ((h.at hX hA hU2).1.errs vs vr hE)
/-- Its state, its place, its fault are told. -/
theorem dom_state (r : Nat) (x0 x1 x2 x3 x4 : Int) (pc st : Int) (hs2 : (st == 2) = false) (s0 : 0 ≤ st ∧ st ≤ 100) (hX : FL X) (hn : 0 < L.dn) (vs vr : Value) (hE : ErrsAt vs vr w0) (hA0 : ∀ k ∈ A, k < w.heap.size ∧ ((k < L.dR ∧ k < L.dG) ∨ X.s < k)) (h : DA w0 w L X B A (fR r x0 x1 x2 x3 x4 pc st 0) l) (a : Int) {cs : List Value} (hc : Hid (CallC cs X.s 4 0 0 0 0 8 a)) (V : World) (hV : Below w.heap.size w V) : Calls Tryz.prog 55 #[(.agg cs.toArray)] V fun e w' => e = .returned (.agg ((nA st pc 0)).toArray) ∧ (DQ w.heap.size V.heap.size w'.heap.size w0 w' L X B A (fR r x0 x1 x2 x3 x4 pc st 0) l ∧ KA A w w') ∧ UpT w.heap.size V w' := by
  have hA := fun k hk => (hA0 k hk).1
  have hf : RF (fR r x0 x1 x2 x3 x4 pc st 0) st := rf_R r x0 x1 x2 x3 x4 pc st 0 hs2
  have hF := Lib.hid hf.one
  exact (cdom_8 (d := L.dP) hc (fR r x0 x1 x2 x3 x4 pc st 0) hF true V (h.at hX hA hV).1.c1 (fun U hU => DS.get (h.at hX hA ((hV).trans (hU.mono (hV).size))).1.1 hn hF) st pc 0 (Lib.hid ⟨rfl, rfl, rfl⟩) s0 (by decide)).mono (fun e w' h9 => ⟨h9.1, qn_post (h.at hX hA (hV.trans (h9.2.mono hV.size))) hV.size (UpT.below h9.2)⟩)
/-- It is started. -/
theorem dom_start (r : Nat) (hr : r < 16) (x0 x1 x2 x3 x4 : Int) (hx : rightB x0 x1 x2 x3 x4 = true) (pc : Int) (hl : l = []) (hB : B ≤ 1000) (hX : FL X) (hn : 0 < L.dn) (vs vr : Value) (hE : ErrsAt vs vr w0) (hA0 : ∀ k ∈ A, k < w.heap.size ∧ ((k < L.dR ∧ k < L.dG) ∨ X.s < k)) (h : DA w0 w L X B A (fR r x0 x1 x2 x3 x4 pc 1 0) l) (a : Int) {cs : List Value} (hc : Hid (CallC cs X.s 4 0 0 0 0 7 a)) (V : World) (hV : Below w.heap.size w V) : Calls Tryz.prog 55 #[(.agg cs.toArray)] V fun e w' => e = .returned (.agg ((nA 0 0 0)).toArray) ∧ (DQ w.heap.size V.heap.size w'.heap.size w0 w' L X (B + 1) A (fR r x0 x1 x2 x3 x4 pc 3 0) [0] ∧ KA A w w') ∧ UpT w.heap.size V w' := by
  have hA := fun k hk => (hA0 k hk).1
  subst hl
  have hf : RF (fR r x0 x1 x2 x3 x4 pc 1 0) 1 := rf_R r x0 x1 x2 x3 x4 pc 1 0 rfl
  have hF := Lib.hid hf.one
  have hq1 := qfD (w0 := w0) (L := L) (B := B + 1) (A := A) (f := (fR r x0 x1 x2 x3 x4 pc 1 0)) (l := [0]) (w := w) (N := w.heap.size) hX hA
  have hq2 := qfD (w0 := w0) (L := L) (B := B + 1) (A := A) (f := (fR r x0 x1 x2 x3 x4 pc 3 0)) (l := [0]) (w := w) (N := w.heap.size) hX hA
  refine (cdom_7q (Q := fun M T W => DQ w.heap.size M T w0 W L X (B + 1) A (fR r x0 x1 x2 x3 x4 pc 3 0) [0] ∧ KA A w W) (N := w.heap.size) (d := L.dP) (nt := nA 0 0 0) hc (fR r x0 x1 x2 x3 x4 pc 1 0) hF true V (h.at hX hA hV).1.c1 (fun U hU => DS.get (h.at hX hA ((hV).trans (hU.mono (hV).size))).1.1 hn hF) (nA_len _ _ _) (nA_one _ _ _) hV.size hq2 (fun W hW => ?_))
  have hW2 := hV.trans (hW.mono hV.size)
  refine cstart_q (Q := fun M T W => DQ w.heap.size M T w0 W L X (B + 1) A (fR r x0 x1 x2 x3 x4 pc 3 0) [0] ∧ KA A w W) (Q1 := fun M T W => DQ w.heap.size M T w0 W L X (B + 1) A (fR r x0 x1 x2 x3 x4 pc 1 0) [0] ∧ KA A w W) (N := w.heap.size) (d := L.dP) (q := X.q) (nt := nA 0 0 0) hc (nA_len _ _ _) (nA_one _ _ _) (fR r x0 x1 x2 x3 x4 pc 1 0) hF .nilIface W hW2.size ⟨(h.at hX hA hW2).1.c1, (h.at hX hA hW2).1.c5⟩ hq2 (fun M T U hU => ⟨hU.1.c1, hU.1.c5⟩) hq1 (fun M T U hU => ⟨hU.1.c1, hU.1.c5⟩) (fun M T U hU h1 h2 => ?_) (fun M T U hU => otold_nil (nA 0 0 0) (nA_len _ _ _) (nA_one _ _ _) U) (Lib.hid rfl) (fun U hU => ?_)
  · rw [fR_st, fR_ft]
    exact DQ.put hX hA0 hU (Nat.le_trans h1 h2) hn r hr x0 x1 x2 x3 x4 pc 3 0 hx (by decide) (by decide) (by decide) (by decide) vs vr (hU.1.errs vs vr hE)
  · have hU2 := hW2.trans (hU.mono hW2.size)
    exact DQ.qput hX hA0 (h.at hX hA hU2).1 (h.at hX hA hU2).2 hU2.size hB
theorem dom_start_bad (r : Nat) (x0 x1 x2 x3 x4 : Int) (pc : Int) (hX : FL X) (hn : 0 < L.dn) (vs vr : Value) (hE : ErrsAt vs vr w0) (hA0 : ∀ k ∈ A, k < w.heap.size ∧ ((k < L.dR ∧ k < L.dG) ∨ X.s < k)) (h : DA w0 w L X B A (fR r x0 x1 x2 x3 x4 pc 3 0) l) (a : Int) {cs : List Value} (hc : Hid (CallC cs X.s 4 0 0 0 0 7 a)) (V : World) (hV : Below w.heap.size w V) : Calls Tryz.prog 55 #[(.agg cs.toArray)] V fun e w' => e = .returned (.agg (nX3).toArray) ∧ (DQ w.heap.size V.heap.size w'.heap.size w0 w' L X B A (fR r x0 x1 x2 x3 x4 pc 3 0) l ∧ KA A w w') ∧ UpT w.heap.size V w' := by
  have hA := fun k hk => (hA0 k hk).1
  have hf : RF (fR r x0 x1 x2 x3 x4 pc 3 0) 3 := rf_R r x0 x1 x2 x3 x4 pc 3 0 rfl
  have hF := Lib.hid hf.one
  refine (cdom_7 (Q := (fun W => DQ w.heap.size w.heap.size w.heap.size w0 W L X B A (fR r x0 x1 x2 x3 x4 pc 3 0) l ∧ KA A w W)) (N := w.heap.size) (d := L.dP) (nt := nX3) hc (fR r x0 x1 x2 x3 x4 pc 3 0) hF true V (h.at hX hA hV).1.c1 (fun U hU => DS.get (h.at hX hA ((hV).trans (hU.mono (hV).size))).1.1 hn hF) nX3_len nX3_one hV.size (qn_fr hX hA) (fun W hW => ?_)).mono (fun e w' h9 => ⟨h9.1, qn_post h9.2.1 hV.size h9.2.2⟩)
  have hW2 := hV.trans (hW.mono hV.size)
  exact (cstart_bad hc (fR r x0 x1 x2 x3 x4 pc 3 0) (Lib.hid rfl) W).mono (fun e w' h9 => ⟨h9.1, h.at hX hA (hW2.trans (h9.2.mono hW2.size)), UpT.below h9.2⟩)
/-- It is halted. -/
theorem dom_halt (r : Nat) (hr : r < 16) (x0 x1 x2 x3 x4 : Int) (hx : rightB x0 x1 x2 x3 x4 = true) (pc : Int) (hl : l.length ≤ 1000) (hX : FL X) (hn : 0 < L.dn) (vs vr : Value) (hE : ErrsAt vs vr w0) (hA0 : ∀ k ∈ A, k < w.heap.size ∧ ((k < L.dR ∧ k < L.dG) ∨ X.s < k)) (h : DA w0 w L X B A (fR r x0 x1 x2 x3 x4 pc 3 0) l) (a : Int) {cs : List Value} (hc : Hid (CallC cs X.s 4 0 0 0 0 9 a)) (V : World) (hV : Below w.heap.size w V) : Calls Tryz.prog 55 #[(.agg cs.toArray)] V fun e w' => e = .returned (.agg ((nA 0 0 0)).toArray) ∧ (DQ w.heap.size V.heap.size w'.heap.size w0 w' L X B A (fR r x0 x1 x2 x3 x4 pc 4 0) (Go.Proofs.YthgjejclhdolmaaGreatDoor.V.offI l 0) ∧ KA A w w') ∧ UpT w.heap.size V w' := by
  have hA := fun k hk => (hA0 k hk).1
  have hf : RF (fR r x0 x1 x2 x3 x4 pc 3 0) 3 := rf_R r x0 x1 x2 x3 x4 pc 3 0 rfl
  have hF := Lib.hid hf.one
  have hq1 := qfD (w0 := w0) (L := L) (B := B) (A := A) (f := (fR r x0 x1 x2 x3 x4 pc 3 0)) (l := Go.Proofs.YthgjejclhdolmaaGreatDoor.V.offI l 0) (w := w) (N := w.heap.size) hX hA
  have hq2 := qfD (w0 := w0) (L := L) (B := B) (A := A) (f := (fR r x0 x1 x2 x3 x4 pc 4 0)) (l := Go.Proofs.YthgjejclhdolmaaGreatDoor.V.offI l 0) (w := w) (N := w.heap.size) hX hA
  refine (cdom_9q (Q := fun M T W => DQ w.heap.size M T w0 W L X B A (fR r x0 x1 x2 x3 x4 pc 4 0) (Go.Proofs.YthgjejclhdolmaaGreatDoor.V.offI l 0) ∧ KA A w W) (N := w.heap.size) (d := L.dP) (nt := nA 0 0 0) hc (fR r x0 x1 x2 x3 x4 pc 3 0) hF true V (h.at hX hA hV).1.c1 (fun U hU => DS.get (h.at hX hA ((hV).trans (hU.mono (hV).size))).1.1 hn hF) (nA_len _ _ _) (nA_one _ _ _) hV.size hq2 (fun W hW => ?_))
  have hW2 := hV.trans (hW.mono hV.size)
  refine chalt_q (Q := fun M T W => DQ w.heap.size M T w0 W L X B A (fR r x0 x1 x2 x3 x4 pc 4 0) (Go.Proofs.YthgjejclhdolmaaGreatDoor.V.offI l 0) ∧ KA A w W) (Q1 := fun M T W => DQ w.heap.size M T w0 W L X B A (fR r x0 x1 x2 x3 x4 pc 3 0) (Go.Proofs.YthgjejclhdolmaaGreatDoor.V.offI l 0) ∧ KA A w W) (N := w.heap.size) (d := L.dP) (q := X.q) (nt := nA 0 0 0) hc (nA_len _ _ _) (nA_one _ _ _) (fR r x0 x1 x2 x3 x4 pc 3 0) hF .nilIface W hW2.size ⟨(h.at hX hA hW2).1.c1, (h.at hX hA hW2).1.c5⟩ hq2 (fun M T U hU => ⟨hU.1.c1, hU.1.c5⟩) hq1 (fun M T U hU => ⟨hU.1.c1, hU.1.c5⟩) (fun M T U hU h1 h2 => ?_) (fun M T U hU => otold_nil (nA 0 0 0) (nA_len _ _ _) (nA_one _ _ _) U) (Lib.hid rfl) (fun U hU => ?_)
  · rw [fR_st]
    exact DQ.put hX hA0 hU (Nat.le_trans h1 h2) hn r hr x0 x1 x2 x3 x4 pc 4 0 hx (by decide) (by decide) (by decide) (by decide) vs vr (hU.1.errs vs vr hE)
  · have hU2 := hW2.trans (hU.mono hW2.size)
    exact DQ.drop hX hA0 (h.at hX hA hU2).1 (h.at hX hA hU2).2 hU2.size hl
theorem dom_halt_bad (r : Nat) (x0 x1 x2 x3 x4 : Int) (pc : Int) (hX : FL X) (hn : 0 < L.dn) (vs vr : Value) (hE : ErrsAt vs vr w0) (hA0 : ∀ k ∈ A, k < w.heap.size ∧ ((k < L.dR ∧ k < L.dG) ∨ X.s < k)) (h : DA w0 w L X B A (fR r x0 x1 x2 x3 x4 pc 4 0) l) (a : Int) {cs : List Value} (hc : Hid (CallC cs X.s 4 0 0 0 0 9 a)) (V : World) (hV : Below w.heap.size w V) : Calls Tryz.prog 55 #[(.agg cs.toArray)] V fun e w' => e = .returned (.agg (nX3).toArray) ∧ (DQ w.heap.size V.heap.size w'.heap.size w0 w' L X B A (fR r x0 x1 x2 x3 x4 pc 4 0) l ∧ KA A w w') ∧ UpT w.heap.size V w' := by
  have hA := fun k hk => (hA0 k hk).1
  have hf : RF (fR r x0 x1 x2 x3 x4 pc 4 0) 4 := rf_R r x0 x1 x2 x3 x4 pc 4 0 rfl
  have hF := Lib.hid hf.one
  refine (cdom_9 (Q := (fun W => DQ w.heap.size w.heap.size w.heap.size w0 W L X B A (fR r x0 x1 x2 x3 x4 pc 4 0) l ∧ KA A w W)) (N := w.heap.size) (d := L.dP) (nt := nX3) hc (fR r x0 x1 x2 x3 x4 pc 4 0) hF true V (h.at hX hA hV).1.c1 (fun U hU => DS.get (h.at hX hA ((hV).trans (hU.mono (hV).size))).1.1 hn hF) nX3_len nX3_one hV.size (qn_fr hX hA) (fun W hW => ?_)).mono (fun e w' h9 => ⟨h9.1, qn_post h9.2.1 hV.size h9.2.2⟩)
  have hW2 := hV.trans (hW.mono hV.size)
  exact (chalt_bad hc (fR r x0 x1 x2 x3 x4 pc 4 0) (Lib.hid rfl) W).mono (fun e w' h9 => ⟨h9.1, h.at hX hA (hW2.trans (h9.2.mono hW2.size)), UpT.below h9.2⟩)
end
end Go.Proofs.YthgjejclhdolmaaGreatDoor
namespace Go.Proofs.YthgjejclhdolmaaGreatDoor
open Go.ChangeShapes Go.WideShapes Go.ChangeAt Go.RowKit
set_option linter.unusedVariables false
set_option linter.unusedSimpArgs false
section
variable {w0 w w' : World} {L : BLoc} {X : SLoc}
theorem UpT.hi {T N : Nat} (h : UpT T w w') (hN : T ≤ N) : UpT N w w' := ⟨h.1, fun k h1 h2 => h.2 k (Nat.le_trans hN h1) h2⟩
theorem RI.up {N g : Nat} {xs : List Int} (h : RI w (some ⟨g, 0, none⟩) xs) (hu : UpT N w w') (hg : N ≤ g) : RI w' (some ⟨g, 0, none⟩) xs := by
  intro i hi
  obtain ⟨ad, h1, h2, h3⟩ := h i hi
  have e : ad = ⟨g, 0, none⟩ := by simpa using h1.symm
  subst e
  have hb := hu.2 g hg h2
  refine ⟨_, rfl, Nat.lt_of_lt_of_le h2 hu.1, ?_⟩
  by_cases h0 : i = 0
  · subst h0
    have h4 : w.cell? ⟨g, 0, none⟩ = some (.int .i64 (xs.getD 0 0)) := by simpa [Addr.add] using h3
    simpa [Addr.add] using (World.cell?_of_block (a := ⟨g, 0, none⟩) hb).trans h4
  · have h4 : w.cell? ⟨g, i, none⟩ = some (.int .i64 (xs.getD i 0)) := by simpa [Addr.add, h0] using h3
    simpa [Addr.add, h0] using (World.cell?_of_block (a := ⟨g, i, none⟩) hb).trans h4
end
end Go.Proofs.YthgjejclhdolmaaGreatDoor
namespace Go.Proofs.YthgjejclhdolmaaGreatDoor
open Go.ChangeShapes Go.WideShapes Go.ChangeAt Go.RowKit
set_option linter.unusedVariables false
set_option linter.unusedSimpArgs false
def jE2 : BSt := boughtD jD1 0 0 0
section
variable {w0 w w' : World} {L : BLoc} {X : SLoc}
theorem sj_root3 (hn : 0 < L.n) (w : World) (h : SJ w0 w L X st0) : Calls Tryz.prog 7 #[.pointer (some ⟨L.P, 0, none⟩), .int .i64 10] w fun e w' => e = .returned (.tuple #[.int .i64 0, .int .i64 0, .nilIface]) ∧ SJ w0 w' L X jD1 ∧ UpT L.T w w' :=
  (bwroot_w (D := st0) 10 (by decide) (by decide) 0 (Lib.hid rfl) hn w h.k).mono (fun e w' h9 => ⟨h9.1, h.step h9.2.1 h9.2.2, h9.2.2.up⟩)
theorem sj_dom1 (hn : 0 < L.dn) (w : World) (h : SJ w0 w L X jD1) : Calls Tryz.prog 8 #[.pointer (some ⟨L.P, 0, none⟩), .int .i64 0] w fun e w' => e = .returned (.tuple #[.int .i64 0, .int .i64 0, .nilIface]) ∧ SJ w0 w' L X jE2 ∧ UpT L.T w w' :=
  (bdomain_w (D := jD1) 0 (by decide) 0 0 hn (Lib.hid (by rfl)) (Lib.hid (fun i hi => by omega)) (Lib.hid (by rfl)) (Lib.hid (by rw [chain0 h rfl rfl]; rfl)) (Lib.hid (fun i _ => by simp [jD1, openedB, st0, upd])) w h.k).mono (fun e w' h9 => ⟨h9.1, h.step h9.2.1 h9.2.2, h9.2.2.up⟩)
theorem jE2_df : DF jE2 zd1 := ⟨rfl, rfl, rfl, rfl, rfl, fun j hj => updS_row _ 0 j _ hj⟩
/-- The queue of a new system is empty, and so it stays. -/
theorem vn_up (h0 : w.cell? ⟨X.q, 0, none⟩ = some (.slice none 0 0)) (h1 : w.cell? ⟨X.q, 1, none⟩ = some (.map none)) (hz : ∀ j, w.frozen? ⟨X.q, j, none⟩ = false) (hu : UpT L.T w w') (hq : L.T ≤ X.q) : V.VN w' X.q 0 := by
  have hb := hu.2 X.q hq (cell_lt h0)
  exact ⟨(World.cell?_of_block (a := ⟨X.q, 0, none⟩) hb).trans h0, (World.cell?_of_block (a := ⟨X.q, 1, none⟩) hb).trans h1, (World.frozen?_of_block (a := ⟨X.q, 0, none⟩) hb).trans (hz 0), (World.frozen?_of_block (a := ⟨X.q, 1, none⟩) hb).trans (hz 1)⟩
end
section
variable {w0 w w' w1 : World} {L : BLoc} {X : SLoc} {D : BSt} {B : Nat} {A : List Nat} {f : Nat → Value} {l : List Int}
theorem heap5 (w : World) (g k : Nat) (hk : k ≠ g) (z0 z1 z2 z3 z4 : Int) : (((((w.setCell ⟨g, 0, none⟩ (.int .i64 z0)).setCell ⟨g, 1, none⟩ (.int .i64 z1)).setCell ⟨g, 2, none⟩ (.int .i64 z2)).setCell ⟨g, 3, none⟩ (.int .i64 z3)).setCell ⟨g, 4, none⟩ (.int .u32 z4)).heap[k]? = w.heap[k]? := by
  rw [set_heap _ _ _ _ _ hk, set_heap _ _ _ _ _ hk, set_heap _ _ _ _ _ hk, set_heap _ _ _ _ _ hk, set_heap _ _ _ _ _ hk]
theorem size5 (w : World) (g : Nat) (z0 z1 z2 z3 z4 : Int) : (((((w.setCell ⟨g, 0, none⟩ (.int .i64 z0)).setCell ⟨g, 1, none⟩ (.int .i64 z1)).setCell ⟨g, 2, none⟩ (.int .i64 z2)).setCell ⟨g, 3, none⟩ (.int .i64 z3)).setCell ⟨g, 4, none⟩ (.int .u32 z4)).heap.size = w.heap.size := by simp
/-- A key is stored below a system: it is one over an elder start. -/
theorem SJ.low5 (h : SJ w0 w L X D) (h1 : Below w1.heap.size w1 w0) {g : Nat} (hg0 : w1.heap.size ≤ g) (hg : g < w0.heap.size) (z0 z1 z2 z3 z4 : Int) : SJ w1 (((((w.setCell ⟨g, 0, none⟩ (.int .i64 z0)).setCell ⟨g, 1, none⟩ (.int .i64 z1)).setCell ⟨g, 2, none⟩ (.int .i64 z2)).setCell ⟨g, 3, none⟩ (.int .i64 z3)).setCell ⟨g, 4, none⟩ (.int .u32 z4)) L X D := by
  have hk : ∀ k, w0.heap.size ≤ k → (((((w.setCell ⟨g, 0, none⟩ (.int .i64 z0)).setCell ⟨g, 1, none⟩ (.int .i64 z1)).setCell ⟨g, 2, none⟩ (.int .i64 z2)).setCell ⟨g, 3, none⟩ (.int .i64 z3)).setCell ⟨g, 4, none⟩ (.int .u32 z4)).heap[k]? = w.heap[k]? := fun k h2 => heap5 w g k (by omega) z0 z1 z2 z3 z4
  have hz : w.heap.size ≤ (((((w.setCell ⟨g, 0, none⟩ (.int .i64 z0)).setCell ⟨g, 1, none⟩ (.int .i64 z1)).setCell ⟨g, 2, none⟩ (.int .i64 z2)).setCell ⟨g, 3, none⟩ (.int .i64 z3)).setCell ⟨g, 4, none⟩ (.int .u32 z4)).heap.size := by rw [size5]; exact Nat.le_refl _
  have hs1 := h1.size
  have hn := h.k.m.n0
  have hwb := h.k.m.sv.wb
  have hmd := h.k.md
  have ht := h.k.tt
  have hdl := h.k.dl
  have hl := h.lo
  have d1 := h.k.d.pl.pb
  have d2 := h.k.d.pl.ar.pb
  have d3 := h.k.d.pl.ar.lt.1
  have d4 := (h.k.d.pl.row.lt L.dG rfl).1
  have d5 := (h.k.d.qs.lt L.dQ rfl).1
  have b1 := h.k.k.pb
  have b2 := h.k.k.ar.pb
  have b3 := h.k.k.ar.lt.1
  have b4 := h.k.k.ac.lt.1
  have b5 := h.k.k.t1.lt.1
  have b6 := h.k.k.t2.lt.1
  have b7 := h.k.k.t3.lt.1
  have t := h.t.low2
  have f1 := h.f.pb
  have f2 := h.f.ar.pb
  have f3 := h.f.ar.lt
  have f4 := h.f.row.lt X.fG rfl
  refine ⟨⟨h.k.m.low5 h1 hg0 (by omega) (by omega) z0 z1 z2 z3 z4, DMD.keep h.k.d hz (hk _ (by omega)) (hk _ (by omega)) (hk _ (by omega)) (hk _ (by omega)) (hk _ (by omega)), BkAt.keep h.k.k hz (hk _ (by omega)) (h.k.k.ar.same2 hz (hk _ (by omega)) (hk _ (by omega))) (h.k.k.ac.same (hk _ (by omega))) (h.k.k.t1.same (hk _ (by omega))) (h.k.k.t2.same (hk _ (by omega))) (h.k.k.t3.same (hk _ (by omega))), hmd, h.k.db, h.k.dl, h.k.pk, h.k.nn, h.k.tt, Nat.le_trans h.k.tw hz⟩, h.t.same hz (hk _ (by omega)) (hk _ (by omega)) (hk _ (by omega)) (hk _ (by omega)), h.f.same hz (hk _ (by omega)) (hk _ (by omega)) (hk _ (by omega)) (hk _ (by omega)), h.b.same hz (hk _ (by omega)), ?_⟩
  omega
theorem DA.low5 (h : DA w0 w L X B A f l) (h1 : Below w1.heap.size w1 w0) {g : Nat} (hg0 : w1.heap.size ≤ g) (hg : g < w0.heap.size) (z0 z1 z2 z3 z4 : Int) : DA w1 (((((w.setCell ⟨g, 0, none⟩ (.int .i64 z0)).setCell ⟨g, 1, none⟩ (.int .i64 z1)).setCell ⟨g, 2, none⟩ (.int .i64 z2)).setCell ⟨g, 3, none⟩ (.int .i64 z3)).setCell ⟨g, 4, none⟩ (.int .u32 z4)) L X B A f l := by
  obtain ⟨⟨D, hj, hd⟩, hN, b, S, h2, h3, h4⟩ := h
  have hl := hj.lo
  have hq : w0.heap.size ≤ X.q := by
    have := hj.k.tt
    have := hj.t.low2
    omega
  have hs : w0.heap.size ≤ X.s := by
    have := hj.k.tt
    have := hj.t.low2
    omega
  unfold DA
  rw [size5]
  refine ⟨⟨D, hj.low5 h1 hg0 hg z0 z1 z2 z3 z4, hd⟩, hN, b, S, h2, h3.same (fun j _ => V.same_cells (heap5 w g X.q (by omega) z0 z1 z2 z3 z4) j) (fun k hk hne => heap5 w g k ?_ z0 z1 z2 z3 z4), h4⟩
  have := h3.lo k hk
  omega
/-- The system as the law has it, behind its first two calls. -/
theorem da_start (hX : FL X) (hj : SJ w0 w L X jE2) (hv : V.VN w X.q 0) (A : List Nat) (hA : X.q ∉ A) : DA w0 w L X 0 A zd1 [] := by
  refine ⟨⟨jE2, hj, jE2_df⟩, hj.b.lt, 0, V.SN X.q, Nat.le_refl _, .inl ⟨hv, rfl, rfl⟩, fun k hk => ?_⟩
  obtain rfl : k = X.q := hk
  exact ⟨.inl hv.lt, hv.lt, hA⟩
theorem KeyC.there {b : Nat} {k0 k1 k2 k3 k4 : Int} (h : KeyC w b k0 k1 k2 k3 k4) : World.there w b 0 5 := fun j hj => by
  rw [Nat.zero_add]
  refine ⟨?_, h.fr j⟩
  obtain rfl | rfl | rfl | rfl | rfl : j = 0 ∨ j = 1 ∨ j = 2 ∨ j = 3 ∨ j = 4 := by omega
  · rw [h.c0]; rfl
  · rw [h.c1]; rfl
  · rw [h.c2]; rfl
  · rw [h.c3]; rfl
  · rw [h.c4]; rfl
theorem range5 {b : Nat} {k0 k1 k2 k3 k4 : Int} (h : KeyC w b k0 k1 k2 k3 k4) (z0 z1 z2 z3 z4 : Int) : (((((w.setCell ⟨b, 0, none⟩ (.int .i64 z0)).setCell ⟨b, 1, none⟩ (.int .i64 z1)).setCell ⟨b, 2, none⟩ (.int .i64 z2)).setCell ⟨b, 3, none⟩ (.int .i64 z3)).setCell ⟨b, 4, none⟩ (.int .u32 z4)).rangeAt b 0 [.int .i64 z0, .int .i64 z1, .int .i64 z2, .int .i64 z3, .int .u32 z4] := World.rangeAt_setCells_same w b 0 [.int .i64 z0, .int .i64 z1, .int .i64 z2, .int .i64 z3, .int .u32 z4] h.there
theorem DA.ds (h : DA w0 w L X B A f l) : DS w0 w L X f := h.1
/-- The key of the domain. -/
theorem key_d (hn : 0 < L.dn) (h : DS w0 w L X f) : Calls Tryz.prog 9 #[.pointer (some ⟨X.s, 0, none⟩), .int .i64 4, .int .i64 0] w fun e w' => e = .returned (Value.agg #[.int .i64 4, .int .i64 0, .int .i64 0, .int .i64 0, .int .u32 0]) ∧ Below w.heap.size w w' := by
  obtain ⟨D, hj, hd⟩ := h
  exact skey_dom 0 4 0 0 0 0 w hj.b (fun W hW => dkey_of 0 4 0 0 0 0 W (fun V hV => dkeyof_in 4 0 0 0 (Lib.hid rfl) hn (Lib.hid (by rw [hd.dt]; rfl)) (by decide) 0 (Lib.hid (by rw [hd.dv])) V ((hj.below hW).below hV).k.d))
end
/-- What the law's walk keeps: the system, the law's own boxes. -/
structure ZZ (w0 W : World) (L : BLoc) (X : SLoc) (B : Nat) (A : List Nat) (f : Nat → Value) (l : List Int) (KB SB DB : Nat) (kb : List Value) : Prop where
  da : DA w0 W L X B A f l
  k : W.rangeAt KB 0 kb
  s : W.cell? ⟨SB, 0, none⟩ = some (.pointer (some ⟨X.s, 0, none⟩))
  d : KeyC W DB 4 0 0 0 0
  a : ∀ k ∈ A, k < W.heap.size ∧ ((k < L.dR ∧ k < L.dG) ∨ X.s < k)
  mkb : KB ∈ A
  msb : SB ∈ A
  mdb : DB ∈ A
/-- A note in a box of its own. -/
structure NT (W : World) (A : List Nat) (N : Nat) (nt : List Value) : Prop where
  m : N ∈ A
  r : W.rangeAt N 0 nt
section
variable {w0 w w' : World} {L : BLoc} {X : SLoc} {B B' : Nat} {A : List Nat} {f f' : Nat → Value} {l l' : List Int} {KB SB DB N : Nat} {kb nt : List Value}
theorem KeyC.same3 {b : Nat} {k0 k1 k2 k3 k4 : Int} (h : KeyC w b k0 k1 k2 k3 k4) (hb : w'.heap[b]? = w.heap[b]?) (hs : w.heap.size ≤ w'.heap.size) : KeyC w' b k0 k1 k2 k3 k4 :=
  ⟨Nat.lt_of_lt_of_le h.lt hs, (World.cell?_of_block (a := ⟨b, 0, none⟩) hb).trans h.c0, (World.cell?_of_block (a := ⟨b, 1, none⟩) hb).trans h.c1, (World.cell?_of_block (a := ⟨b, 2, none⟩) hb).trans h.c2, (World.cell?_of_block (a := ⟨b, 3, none⟩) hb).trans h.c3, (World.cell?_of_block (a := ⟨b, 4, none⟩) hb).trans h.c4, fun j => (World.frozen?_of_block (a := ⟨b, j, none⟩) hb).trans (h.fr j)⟩
theorem ZZ.step (h : ZZ w0 w L X B A f l KB SB DB kb) (hd : DA w0 w' L X B' A f' l' ∧ KA A w w' ∧ w.heap.size ≤ w'.heap.size) : ZZ w0 w' L X B' A f' l' KB SB DB kb :=
  ⟨hd.1, range_same h.k (hd.2.1 _ h.mkb), (World.cell?_of_block (a := ⟨SB, 0, none⟩) (hd.2.1 _ h.msb)).trans h.s, h.d.same3 (hd.2.1 _ h.mdb) hd.2.2, fun k hk => ⟨Nat.lt_of_lt_of_le (h.a k hk).1 hd.2.2, (h.a k hk).2⟩, h.mkb, h.msb, h.mdb⟩
theorem NT.step (h : NT w A N nt) (hd : DA w0 w' L X B' A f' l' ∧ KA A w w' ∧ w.heap.size ≤ w'.heap.size) : NT w' A N nt := ⟨h.m, range_same h.r (hd.2.1 _ h.m)⟩
theorem NT.below (h : NT w A N nt) (hz : ZZ w0 w L X B A f l KB SB DB kb) (hb : Below w.heap.size w w') : NT w' A N nt := ⟨h.m, range_same h.r (hb.block _ (hz.a _ h.m).1)⟩
theorem NT.cons {k : Nat} (h : NT w A N nt) : NT w (k :: A) N nt := ⟨List.mem_cons_of_mem _ h.m, h.r⟩
theorem ZZ.below (h : ZZ w0 w L X B A f l KB SB DB kb) (hX : FL X) (hb : Below w.heap.size w w') : ZZ w0 w' L X B A f l KB SB DB kb := h.step ⟨h.da.below hX hb, fun k hk => hb.block k (h.a k hk).1, hb.size⟩
/-- A new note's box joins the law's own. -/
theorem ZZ.more (h : ZZ w0 w L X B A f l KB SB DB kb) (hX : FL X) (hb : Below w.heap.size w w') (k : Nat) (hk : w.heap.size ≤ k) (hk2 : k < w'.heap.size) : ZZ w0 w' L X B (k :: A) f l KB SB DB kb := by
  have h1 := h.below hX hb
  have hs : X.s < w.heap.size := by
    obtain ⟨⟨D, hj, _⟩, _⟩ := h.da
    exact hj.b.lt
  refine ⟨h.da.more hX hb k hk, h1.k, h1.s, h1.d, fun j hj => ?_, List.mem_cons_of_mem _ h1.mkb, List.mem_cons_of_mem _ h1.msb, List.mem_cons_of_mem _ h1.mdb⟩
  rcases List.mem_cons.1 hj with rfl | hj
  · exact ⟨hk2, .inr (by omega)⟩
  · exact h1.a j hj
theorem ZZ.bel (h : ZZ w0 w L X B A f l KB SB DB kb) : Below w0.heap.size w0 w := by
  obtain ⟨⟨D, hj, _⟩, _⟩ := h.da
  exact hj.k.bel
theorem ZZ.c5 (h : ZZ w0 w L X B A f l KB SB DB kb) : w.cell? ⟨X.s, 5, none⟩ = some (.pointer (some ⟨X.q, 0, none⟩)) := by
  obtain ⟨⟨D, hj, _⟩, _⟩ := h.da
  exact hj.b.c5
end
set_option maxRecDepth 100000 in
set_option maxHeartbeats 8000000 in
theorem domains_walk (k0 k1 k2 k3 k4 : Int) (a pc : Int) (hk : codeOf k0 k1 k2 k3 k4 = 0) (gk : 0 ≤ k4 ∧ k4 ≤ 4294967295) (ga : 0 ≤ a ∧ a ≤ 4294967295) (gp : 0 ≤ pc ∧ pc ≤ 4294967295) (vs vr : Value) (w : World) (hE : ErrsAt vs vr w) :
    Calls Tryz.prog 3 #[.int .u32 a, .int .u32 pc, (Value.agg #[.int .i64 k0, .int .i64 k1, .int .i64 k2, .int .i64 k3, .int .u32 k4])] w fun e w' => e = .returned (.bool true) ∧ Below w.heap.size w w' := by
  have HE := Lib.hid hE
  have HC := Lib.hid hk
  clear hE hk
  go_enter Tryz.func3, Tryz.ntmps3
  go_upto_region 1 with fail
  generalize hA : World.alloc w _ = wa
  obtain ⟨KB, hKB⟩ : ∃ KB, KB = w.heap.size := ⟨_, rfl⟩
  have HA : Hid (Below w.heap.size w wa ∧ KeyC wa KB k0 k1 k2 k3 k4 ∧ KB < wa.heap.size ∧ w.heap.size ≤ KB) := Lib.hid (by rw [← hA, hKB]; exact ⟨(Below.refl _ _).alloc (Nat.le_refl _) _, KeyC.new w k0 k1 k2 k3 k4 _, by simp, Nat.le_refl _⟩)
  rw [← hKB]
  clear hA hKB
  go_upto_region 4 with (first
    | (go_at_call 4; (with_reducible refine (first22_is vs vr _ (HE.out.below HA.out.1)).mono ?_); rintro e w1 ⟨rfl, hb⟩; have H1 : Hid (Below w.heap.size w w1 ∧ KeyC w1 KB k0 k1 k2 k3 k4 ∧ KB < w1.heap.size) := Lib.hid ⟨HA.out.1.trans (hb.mono HA.out.1.size), HA.out.2.1.below hb, Nat.lt_of_lt_of_le HA.out.2.2.1 hb.size⟩; clear hb))
  obtain ⟨q0, q1, q2, q3, q4⟩ := ofive H1.out.2.1
  go_upto_region 6 with (first
    | (go_at_call 5; (with_reducible refine (valid_is k0 k1 k2 k3 k4 0 HC gk.2 _).mono ?_); rintro e w2 ⟨rfl, hb⟩; have H2 : Hid (Below w.heap.size w w2 ∧ KeyC w2 KB k0 k1 k2 k3 k4 ∧ KB < w2.heap.size) := Lib.hid ⟨H1.out.1.trans (hb.mono H1.out.1.size), H1.out.2.1.below hb, Nat.lt_of_lt_of_le H1.out.2.2 hb.size⟩; clear hb))
  clear q0 q1 q2 q3 q4
  go_upto_region 7 with (first
    | (go_at_call 6; (with_reducible refine (script_ok _).mono ?_); rintro e w3 ⟨L, X, x, rfl, hs, hn, hb⟩; have HS3 := Lib.hid hs; have HN := Lib.hid hn.out; clear hs hn hb))
  generalize hg : World.alloc w3 _ = w4
  obtain ⟨SB, hSB⟩ : ∃ SB, SB = w3.heap.size := ⟨_, rfl⟩
  have H4 : Hid (SysNew w2 w4 L X ∧ w4.cell? ⟨SB, 0, none⟩ = some (.pointer (some ⟨X.s, 0, none⟩)) ∧ SB < w4.heap.size ∧ X.s < SB ∧ L.T ≤ SB) := Lib.hid (by
    have hb : Below w3.heap.size w3 w4 := by rw [← hg]; exact (Below.refl _ _).alloc (Nat.le_refl _) _
    have hs := HS3.out.b.lt
    have hT := HS3.out.k.tw
    exact ⟨HS3.out.below hb, by rw [← hg, hSB]; simp, by rw [← hg, hSB]; simp, by omega, by omega⟩)
  rw [← hSB]
  clear hg hSB HS3
  have sc := H4.out.2.1
  have bc := H4.out.1.b.c3
  have hX : FL X := H4.out.1.fl
  have hnb : 0 < L.n := by have := HN.out.2.2.2.2.1; omega
  have hnd : 0 < L.dn := by have := HN.out.2.2.1; omega
  have HJ4 := Lib.hid H4.out.1.sj
  have HX := Lib.hid hX
  clear hX
  go_upto_region 11 with (first
    | (go_at_call 7; (with_reducible refine (sj_root3 hnb _ HJ4.out).mono ?_); rintro e w5 ⟨rfl, hj, hu⟩; have HJ5 := Lib.hid hj; have HU5 := Lib.hid hu; have sc5 : w5.cell? ⟨SB, 0, none⟩ = some (.pointer (some ⟨X.s, 0, none⟩)) := (World.cell?_of_block (a := ⟨SB, 0, none⟩) (hu.2 SB H4.out.2.2.2.2 H4.out.2.2.1)).trans H4.out.2.1; have bc5 := hj.b.c3; clear hj hu sc bc)
    | (go_at_call 8; (with_reducible refine (sj_dom1 hnd _ HJ5.out).mono ?_); rintro e w6 ⟨rfl, hj, hu⟩; have HJ6 := Lib.hid hj; have HU6 := Lib.hid (HU5.out.trans hu); clear hj hu sc5 bc5))
  have HD6 : Hid (DA w2 w6 L X 0 [] zd1 [] ∧ w6.cell? ⟨SB, 0, none⟩ = some (.pointer (some ⟨X.s, 0, none⟩)) ∧ SB < w6.heap.size ∧ KeyC w6 KB k0 k1 k2 k3 k4) := Lib.hid (by
    have h4 := H4.out
    have hb := HJ6.out.k.bel
    exact ⟨da_start HX.out HJ6.out (vn_up h4.1.q0 h4.1.q1 h4.1.qz HU6.out h4.1.lo.2.1) [] (by simp), (World.cell?_of_block (a := ⟨SB, 0, none⟩) (HU6.out.2 SB h4.2.2.2.2 h4.2.2.1)).trans h4.2.1, Nat.lt_of_lt_of_le h4.2.2.1 HU6.out.1, H2.out.2.1.below hb⟩)
  have HLo : Hid (X.q < SB ∧ KB < X.q ∧ X.s < SB ∧ (KB < L.dR ∧ KB < L.dG) ∧ KB < w2.heap.size ∧ w.heap.size ≤ KB) := Lib.hid (by
    have h1 := H4.out.2.2.2
    have h2 := HX.out
    have h3 := H2.out.2.2
    have h5 := HD6.out.1.low
    have h6 := HA.out.2.2.2
    have hl := HJ6.out.lo
    have ht := HJ6.out.k.tt
    have h7 := HJ6.out.t.low2
    unfold FL at h2
    omega)
  have sc := HD6.out.2.1
  go_upto_region 12 with (first
    | (go_at_call 9; (with_reducible refine (key_d hnd HD6.out.1.ds).mono ?_); rintro e w7 ⟨rfl, hb⟩; have HB7 := Lib.hid hb; clear hb))
  generalize hg : World.alloc w7 _ = w8
  obtain ⟨DB, hDB⟩ : ∃ DB, DB = w7.heap.size := ⟨_, rfl⟩
  have H8 : Hid (DA w2 w8 L X 0 [DB, SB, KB] zd1 [] ∧ w8.cell? ⟨SB, 0, none⟩ = some (.pointer (some ⟨X.s, 0, none⟩)) ∧ SB < DB ∧ DB < w8.heap.size ∧ KeyC w8 KB k0 k1 k2 k3 k4 ∧ KeyC w8 DB 4 0 0 0 0) := Lib.hid (by
    have h7 := HB7.out
    have h6 := HD6.out
    have hb : Below w7.heap.size w7 w8 := by rw [← hg]; exact (Below.refl _ _).alloc (Nat.le_refl _) _
    have hb2 : Below w6.heap.size w6 w8 := h7.trans (hb.mono h7.size)
    have hv := vn_up H4.out.1.q0 H4.out.1.q1 H4.out.1.qz HU6.out H4.out.1.lo.2.1
    have hlo := HLo.out
    have hs7 := h7.size
    refine ⟨da_start HX.out (HJ6.out.below hb2) (hv.same (fun j _ => V.same_cells (hb2.block X.q hv.lt) j)) _ (by simp; omega), (hb2.cell (p := ⟨SB, 0, none⟩) h6.2.2.1).trans h6.2.1, by omega, by rw [← hg, hDB]; simp, h6.2.2.2.below hb2, by rw [← hg, hDB]; exact KeyC.new _ _ _ _ _ _ _⟩)
  rw [← hDB]
  clear hg hDB sc
  obtain ⟨x0, x1, x2, x3, x4, hcx, hx6, hsx, hsx2⟩ := seen_dom (X := X) hnd vs vr k0 k1 k2 k3 k4 HC.out gk.1
  have HSX := Lib.hid hsx
  have HSX2 := Lib.hid hsx2
  have HCX := Lib.hid hcx
  clear hcx hsx hsx2
  have HE8 : Hid (ErrsAt vs vr w8) := Lib.hid (H8.out.1.errs vs vr (HE.out.below H2.out.1))
  have sc := H8.out.2.1
  obtain ⟨q0, q1, q2, q3, q4⟩ := ofive H8.out.2.2.2.2.1
  go_upto_region 13 with (first
    | (go_at_call 10; (with_reducible refine (HSX.out _ _ _ _ rf_z H8.out.1.ds HE8.out).mono ?_); rintro e w9 ⟨rfl, hb⟩; have HB9 := Lib.hid hb; have HK9 := Lib.hid (H8.out.2.2.2.2.1.below hb); clear hb q0 q1 q2 q3 q4; obtain ⟨q0, q1, q2, q3, q4⟩ := ofive HK9.out; have z0 := HK9.out.fr 0; have z1 := HK9.out.fr 1; have z2 := HK9.out.fr 2; have z3 := HK9.out.fr 3; have z4 := HK9.out.fr 4))
  generalize hg : World.setCell (World.setCell (World.setCell (World.setCell (World.setCell w9 _ _) _ _) _ _) _ _) _ _ = w10
  have HZ0 : Hid (ZZ w w10 L X 0 [DB, SB, KB] zd1 [] KB SB DB ([.int .i64 x0, .int .i64 x1, .int .i64 x2, .int .i64 x3, .int .u32 x4] : List Value)) := Lib.hid (by
    have h8 := H8.out
    have hlo := HLo.out
    have h9 := HB9.out.size
    rw [← hg]
    refine ⟨(h8.1.below HX.out HB9.out).low5 H2.out.1 hlo.2.2.2.2.2 hlo.2.2.2.2.1 x0 x1 x2 x3 x4, range5 HK9.out x0 x1 x2 x3 x4, (World.cell?_of_block (a := ⟨SB, 0, none⟩) (heap5 w9 KB SB (by omega) x0 x1 x2 x3 x4)).trans ((HB9.out.cell (p := ⟨SB, 0, none⟩) (Nat.lt_trans h8.2.2.1 h8.2.2.2.1)).trans h8.2.1), (h8.2.2.2.2.2.below HB9.out).same3 (heap5 w9 KB DB (by omega) x0 x1 x2 x3 x4) (by rw [size5]; exact Nat.le_refl _), fun k hk => ?_, by simp, by simp, by simp⟩
    simp only [List.mem_cons, List.not_mem_nil, or_false] at hk
    rw [size5]
    rcases hk with rfl | rfl | rfl
    · exact ⟨by omega, .inr (by omega)⟩
    · exact ⟨by omega, .inr (by omega)⟩
    · exact ⟨by omega, .inl hlo.2.2.2.1⟩)
  clear hg q0 q1 q2 q3 q4 z0 z1 z2 z3 z4 sc
  have q0 := CallC.cell HZ0.out.k 0 _ rfl
  obtain ⟨r, hr⟩ : ∃ r : Nat, (r : Int) = a % 20 := ⟨(a % 20).toNat, by omega⟩
  go_upto_region 17 with fail
  clear q0
  rw [← hr]
  have hr20 : r < 20 := by omega
  clear hr
  have hrx := right_of_code HCX.out
  by_cases h16 : r < 16
  · have hge : decide ((16 : Int) ≤ (r : Int)) = false := decide_eq_false (by omega)
    have q0 := CallC.cell (HZ0).out.k 0 _ rfl; have q1 := CallC.cell (HZ0).out.k 1 _ rfl; have q2 := CallC.cell (HZ0).out.k 2 _ rfl; have q3 := CallC.cell (HZ0).out.k 3 _ rfl; have q4 := CallC.cell (HZ0).out.k 4 _ rfl
    have HC1 := Lib.hid (askQ (nt := (nA 0 0 0)) HX.out hnd vs vr 1 r (nA_len _ _ _) (nA_one _ _ _) x0 x1 x2 x3 x4 x0 x1 x2 x3 x4 SB DB w10 (HZ0).out.s (HZ0).out.d (fun k hk => ((HZ0).out.a k hk).1) (HZ0).out.da ((HZ0).out.da.errs vs vr HE.out) (fun W hW hEW => HSX2.out _ W _ 1 rf_z hW hEW) (fun cs hc hj V hV => (dom_set HX.out hnd vs vr HE.out (HZ0).out.a (HZ0).out.da r h16 x0 x1 x2 x3 x4 hrx hc hj V hV)))
    go_upto_region 18 with (first | (go_at_call 11; (with_reducible refine (HC1.out).mono ?_); rintro e w11 ⟨rfl, hd⟩; have HD1 := Lib.hid hd; clear hd) | (refine wpList_store_mid (by rfl) _ _ _ (by rfl) w11.heap.size 0 ((nA 0 0 0)).toArray (by rfl) (by rfl) (by rw [show ((nA 0 0 0)).toArray.size = 19 from rfl]; exact nthere_new _ _ 19 (by rfl) _) (by rw [show ((nA 0 0 0)).toArray.size = 19 from rfl]; exact infoNote) (all_one (nA_one _ _ _)) ?_)); generalize hg : World.setCells _ w11.heap.size 0 _ = w12; obtain ⟨N1, hN⟩ : ∃ N, N = w11.heap.size := ⟨_, rfl⟩; have HB1 : Hid (Below w11.heap.size w11 w12 ∧ World.rangeAt w12 N1 0 ((nA 0 0 0)) ∧ N1 < w12.heap.size ∧ w11.heap.size ≤ N1) := (Lib.hid (by have hb : Below w11.heap.size w11 w12 := (by rw [← hg]; exact nbelow_cells ((Below.refl w11.heap.size w11).alloc (Nat.le_refl _) _) (Nat.le_refl _) _ _); have hr : World.rangeAt w12 N1 0 ((nA 0 0 0)) := (by rw [← hg, hN]; exact World.rangeAt_setCells_same _ w11.heap.size 0 ((nA 0 0 0)) (nthere_new _ _ 19 (by rfl) _)); exact ⟨hb, hr, cell_lt (CallC.cell hr 0 _ rfl), Nat.le_of_eq hN.symm⟩)); rw [← hN]; clear hg hN
    have HZ1 : Hid (ZZ w w12 L X 0 [N1, DB, SB, KB] (fR r x0 x1 x2 x3 x4 0 1 0) [] KB SB DB ([.int .i64 x0, .int .i64 x1, .int .i64 x2, .int .i64 x3, .int .u32 x4] : List Value)) := Lib.hid ((HZ0.out.step HD1.out).more HX.out HB1.out.1 N1 HB1.out.2.2.2 HB1.out.2.2.1)
    have HT1 : Hid (NT w12 [N1, DB, SB, KB] N1 (nA 0 0 0)) := Lib.hid ⟨by simp, HB1.out.2.1⟩
    clear q0 q1 q2 q3 q4 HC1
    have HC2 := Lib.hid (askQ (nt := (nR x0 x1 x2 x3 x4)) HX.out hnd vs vr 2 r (nR_len _ _ _ _ _) (nR_one _ _ _ _ _) 0 0 0 0 0 0 0 0 0 0 SB DB w12 (HZ1).out.s (HZ1).out.d (fun k hk => ((HZ1).out.a k hk).1) (HZ1).out.da ((HZ1).out.da.errs vs vr HE.out) (fun W _ hEW => oseen_void X.s vs vr W hEW) (fun cs hc hj V hV => (dom_tell r h16 x0 x1 x2 x3 x4 0 1 rfl HX.out hnd vs vr HE.out (HZ1).out.a (HZ1).out.da HSX2.out hc V hV)))
    go_upto_region 19 with (first | (go_at_call 11; (with_reducible refine (HC2.out).mono ?_); rintro e w13 ⟨rfl, hd⟩; have HD2 := Lib.hid hd; clear hd) | (refine wpList_store_mid (by rfl) _ _ _ (by rfl) w13.heap.size 0 ((nR x0 x1 x2 x3 x4)).toArray (by rfl) (by rfl) (by rw [show ((nR x0 x1 x2 x3 x4)).toArray.size = 19 from rfl]; exact nthere_new _ _ 19 (by rfl) _) (by rw [show ((nR x0 x1 x2 x3 x4)).toArray.size = 19 from rfl]; exact infoNote) (all_one (nR_one _ _ _ _ _)) ?_)); generalize hg : World.setCells _ w13.heap.size 0 _ = w14; obtain ⟨N2, hN⟩ : ∃ N, N = w13.heap.size := ⟨_, rfl⟩; have HB2 : Hid (Below w13.heap.size w13 w14 ∧ World.rangeAt w14 N2 0 ((nR x0 x1 x2 x3 x4)) ∧ N2 < w14.heap.size ∧ w13.heap.size ≤ N2) := (Lib.hid (by have hb : Below w13.heap.size w13 w14 := (by rw [← hg]; exact nbelow_cells ((Below.refl w13.heap.size w13).alloc (Nat.le_refl _) _) (Nat.le_refl _) _ _); have hr : World.rangeAt w14 N2 0 ((nR x0 x1 x2 x3 x4)) := (by rw [← hg, hN]; exact World.rangeAt_setCells_same _ w13.heap.size 0 ((nR x0 x1 x2 x3 x4)) (nthere_new _ _ 19 (by rfl) _)); exact ⟨hb, hr, cell_lt (CallC.cell hr 0 _ rfl), Nat.le_of_eq hN.symm⟩)); rw [← hN]; clear hg hN
    have HZ2 : Hid (ZZ w w14 L X 0 [N2, N1, DB, SB, KB] (fR r x0 x1 x2 x3 x4 0 1 0) [] KB SB DB ([.int .i64 x0, .int .i64 x1, .int .i64 x2, .int .i64 x3, .int .u32 x4] : List Value)) := Lib.hid ((HZ1.out.step HD2.out).more HX.out HB2.out.1 N2 HB2.out.2.2.2 HB2.out.2.2.1)
    have HT2 : Hid (NT w14 [N2, N1, DB, SB, KB] N1 (nA 0 0 0)) := Lib.hid ((HT1.out.step HD2.out).below (HZ1.out.step HD2.out) HB2.out.1).cons
    clear HC2
    have q0 := CallC.cell (HZ2).out.k 0 _ rfl; have q1 := CallC.cell (HZ2).out.k 1 _ rfl; have q2 := CallC.cell (HZ2).out.k 2 _ rfl; have q3 := CallC.cell (HZ2).out.k 3 _ rfl; have q4 := CallC.cell (HZ2).out.k 4 _ rfl
    have n0 := CallC.cell HT2.out.r 0 _ rfl
    have p0 := CallC.cell HB2.out.2.1 4 _ rfl
    have p1 := CallC.cell HB2.out.2.1 5 _ rfl
    have p2 := CallC.cell HB2.out.2.1 6 _ rfl
    have p3 := CallC.cell HB2.out.2.1 7 _ rfl
    have p4 := CallC.cell HB2.out.2.1 8 _ rfl
    go_upto_region 23 with (first | (go_at_call 13; (with_reducible refine (same_is x0 x1 x2 x3 x4 x0 x1 x2 x3 x4 true (same_self x0 x1 x2 x3 x4) _).mono ?_); rintro e w15 ⟨rfl, hb⟩; have HB15 := Lib.hid hb; clear hb))
    --GEN
    have HZ3 : Hid (ZZ w w15 L X 0 [N2, N1, DB, SB, KB] (fR r x0 x1 x2 x3 x4 0 1 0) [] KB SB DB ([.int .i64 x0, .int .i64 x1, .int .i64 x2, .int .i64 x3, .int .u32 x4] : List Value)) := Lib.hid (HZ2.out.below HX.out HB15.out)
    clear HB15 n0 p0 p1 p2 p3 p4 q0 q1 q2 q3 q4 HT1 HT2 HD1 HD2 HB1 HB2 HZ0 HZ1 HZ2
    have HC23 := Lib.hid (askQ (nt := (nA 0 0 0)) HX.out hnd vs vr 6 pc (nA_len _ _ _) (nA_one _ _ _) 0 0 0 0 0 0 0 0 0 0 SB DB w15 (HZ3).out.s (HZ3).out.d (fun k hk => ((HZ3).out.a k hk).1) (HZ3).out.da ((HZ3).out.da.errs vs vr HE.out) (fun W _ hEW => oseen_void X.s vs vr W hEW) (fun cs hc hj V hV => (dom_place r h16 x0 x1 x2 x3 x4 hrx pc gp.1 gp.2 HX.out hnd vs vr HE.out (HZ3).out.a (HZ3).out.da hc V hV)))
    go_upto_region 24 with (first | (go_at_call 11; (with_reducible refine (HC23.out).mono ?_); rintro e w16 ⟨rfl, hd⟩; have HD23 := Lib.hid hd; clear hd))
    have HZ23 : Hid (ZZ w w16 L X 0 [N2, N1, DB, SB, KB] (fR r x0 x1 x2 x3 x4 pc 1 0) [] KB SB DB ([.int .i64 x0, .int .i64 x1, .int .i64 x2, .int .i64 x3, .int .u32 x4] : List Value)) := Lib.hid (HZ3.out.step HD23.out)
    clear HC23 HD23 HZ3
    have HC24 := Lib.hid (askQ (nt := (nA 1 pc 0)) HX.out hnd vs vr 8 0 (nA_len _ _ _) (nA_one _ _ _) 0 0 0 0 0 0 0 0 0 0 SB DB w16 (HZ23).out.s (HZ23).out.d (fun k hk => ((HZ23).out.a k hk).1) (HZ23).out.da ((HZ23).out.da.errs vs vr HE.out) (fun W _ hEW => oseen_void X.s vs vr W hEW) (fun cs hc hj V hV => (dom_state r x0 x1 x2 x3 x4 pc 1 rfl (by decide) HX.out hnd vs vr HE.out (HZ23).out.a (HZ23).out.da 0 hc V hV)))
    go_upto_region 25 with (first | (go_at_call 11; (with_reducible refine (HC24.out).mono ?_); rintro e wa24 ⟨rfl, hd⟩; have HD24 := Lib.hid hd; clear hd) | (refine wpList_store_mid (by rfl) _ _ _ (by rfl) wa24.heap.size 0 ((nA 1 pc 0)).toArray (by rfl) (by rfl) (by rw [show ((nA 1 pc 0)).toArray.size = 19 from rfl]; exact nthere_new _ _ 19 (by rfl) _) (by rw [show ((nA 1 pc 0)).toArray.size = 19 from rfl]; exact infoNote) (all_one (nA_one _ _ _)) ?_)); generalize hg : World.setCells _ wa24.heap.size 0 _ = wb24; obtain ⟨N24, hN⟩ : ∃ N, N = wa24.heap.size := ⟨_, rfl⟩; have HB24 : Hid (Below wa24.heap.size wa24 wb24 ∧ World.rangeAt wb24 N24 0 ((nA 1 pc 0)) ∧ N24 < wb24.heap.size ∧ wa24.heap.size ≤ N24) := (Lib.hid (by have hb : Below wa24.heap.size wa24 wb24 := (by rw [← hg]; exact nbelow_cells ((Below.refl wa24.heap.size wa24).alloc (Nat.le_refl _) _) (Nat.le_refl _) _ _); have hr : World.rangeAt wb24 N24 0 ((nA 1 pc 0)) := (by rw [← hg, hN]; exact World.rangeAt_setCells_same _ wa24.heap.size 0 ((nA 1 pc 0)) (nthere_new _ _ 19 (by rfl) _)); exact ⟨hb, hr, cell_lt (CallC.cell hr 0 _ rfl), Nat.le_of_eq hN.symm⟩)); rw [← hN]; clear hg hN
    have HZ24 : Hid (ZZ w wb24 L X 0 [N24, N2, N1, DB, SB, KB] (fR r x0 x1 x2 x3 x4 pc 1 0) [] KB SB DB ([.int .i64 x0, .int .i64 x1, .int .i64 x2, .int .i64 x3, .int .u32 x4] : List Value)) := Lib.hid ((HZ23.out.step HD24.out).more HX.out HB24.out.1 N24 HB24.out.2.2.2 HB24.out.2.2.1)
    have HN24r24 : Hid (NT wb24 [N24, N2, N1, DB, SB, KB] N24 (nA 1 pc 0)) := Lib.hid ⟨by simp, HB24.out.2.1⟩
    clear HC24 HD24 HB24 HZ23 
    have HC25 := Lib.hid (askQ (nt := (nA 0 0 0)) HX.out hnd vs vr 7 0 (nA_len _ _ _) (nA_one _ _ _) 0 0 0 0 0 0 0 0 0 0 SB DB wb24 (HZ24).out.s (HZ24).out.d (fun k hk => ((HZ24).out.a k hk).1) (HZ24).out.da ((HZ24).out.da.errs vs vr HE.out) (fun W _ hEW => oseen_void X.s vs vr W hEW) (fun cs hc hj V hV => (dom_start r h16 x0 x1 x2 x3 x4 hrx pc rfl (by decide) HX.out hnd vs vr HE.out (HZ24).out.a (HZ24).out.da 0 hc V hV)))
    go_upto_region 26 with (first | (go_at_call 11; (with_reducible refine (HC25.out).mono ?_); rintro e wa25 ⟨rfl, hd⟩; have HD25 := Lib.hid hd; clear hd) | (refine wpList_store_mid (by rfl) _ _ _ (by rfl) wa25.heap.size 0 ((nA 0 0 0)).toArray (by rfl) (by rfl) (by rw [show ((nA 0 0 0)).toArray.size = 19 from rfl]; exact nthere_new _ _ 19 (by rfl) _) (by rw [show ((nA 0 0 0)).toArray.size = 19 from rfl]; exact infoNote) (all_one (nA_one _ _ _)) ?_)); generalize hg : World.setCells _ wa25.heap.size 0 _ = wb25; obtain ⟨N25, hN⟩ : ∃ N, N = wa25.heap.size := ⟨_, rfl⟩; have HB25 : Hid (Below wa25.heap.size wa25 wb25 ∧ World.rangeAt wb25 N25 0 ((nA 0 0 0)) ∧ N25 < wb25.heap.size ∧ wa25.heap.size ≤ N25) := (Lib.hid (by have hb : Below wa25.heap.size wa25 wb25 := (by rw [← hg]; exact nbelow_cells ((Below.refl wa25.heap.size wa25).alloc (Nat.le_refl _) _) (Nat.le_refl _) _ _); have hr : World.rangeAt wb25 N25 0 ((nA 0 0 0)) := (by rw [← hg, hN]; exact World.rangeAt_setCells_same _ wa25.heap.size 0 ((nA 0 0 0)) (nthere_new _ _ 19 (by rfl) _)); exact ⟨hb, hr, cell_lt (CallC.cell hr 0 _ rfl), Nat.le_of_eq hN.symm⟩)); rw [← hN]; clear hg hN
    have HZ25 : Hid (ZZ w wb25 L X (0 + 1) [N25, N24, N2, N1, DB, SB, KB] (fR r x0 x1 x2 x3 x4 pc 3 0) [0] KB SB DB ([.int .i64 x0, .int .i64 x1, .int .i64 x2, .int .i64 x3, .int .u32 x4] : List Value)) := Lib.hid ((HZ24.out.step HD25.out).more HX.out HB25.out.1 N25 HB25.out.2.2.2 HB25.out.2.2.1)
    have HN24r25 : Hid (NT wb25 [N25, N24, N2, N1, DB, SB, KB] N24 (nA 1 pc 0)) := Lib.hid ((HN24r24.out.step HD25.out).below (HZ24.out.step HD25.out) HB25.out.1).cons
    have HN25r25 : Hid (NT wb25 [N25, N24, N2, N1, DB, SB, KB] N25 (nA 0 0 0)) := Lib.hid ⟨by simp, HB25.out.2.1⟩
    clear HC25 HD25 HB25 HZ24 HN24r24
    have HC26 := Lib.hid (askQ (nt := nX3) HX.out hnd vs vr 7 0 nX3_len nX3_one 0 0 0 0 0 0 0 0 0 0 SB DB wb25 (HZ25).out.s (HZ25).out.d (fun k hk => ((HZ25).out.a k hk).1) (HZ25).out.da ((HZ25).out.da.errs vs vr HE.out) (fun W _ hEW => oseen_void X.s vs vr W hEW) (fun cs hc hj V hV => (dom_start_bad r x0 x1 x2 x3 x4 pc HX.out hnd vs vr HE.out (HZ25).out.a (HZ25).out.da 0 hc V hV)))
    go_upto_region 27 with (first | (go_at_call 11; (with_reducible refine (HC26.out).mono ?_); rintro e wa26 ⟨rfl, hd⟩; have HD26 := Lib.hid hd; clear hd) | (refine wpList_store_mid (by rfl) _ _ _ (by rfl) wa26.heap.size 0 (nX3).toArray (by rfl) (by rfl) (by rw [show (nX3).toArray.size = 19 from rfl]; exact nthere_new _ _ 19 (by rfl) _) (by rw [show (nX3).toArray.size = 19 from rfl]; exact infoNote) (all_one nX3_one) ?_)); generalize hg : World.setCells _ wa26.heap.size 0 _ = wb26; obtain ⟨N26, hN⟩ : ∃ N, N = wa26.heap.size := ⟨_, rfl⟩; have HB26 : Hid (Below wa26.heap.size wa26 wb26 ∧ World.rangeAt wb26 N26 0 (nX3) ∧ N26 < wb26.heap.size ∧ wa26.heap.size ≤ N26) := (Lib.hid (by have hb : Below wa26.heap.size wa26 wb26 := (by rw [← hg]; exact nbelow_cells ((Below.refl wa26.heap.size wa26).alloc (Nat.le_refl _) _) (Nat.le_refl _) _ _); have hr : World.rangeAt wb26 N26 0 (nX3) := (by rw [← hg, hN]; exact World.rangeAt_setCells_same _ wa26.heap.size 0 (nX3) (nthere_new _ _ 19 (by rfl) _)); exact ⟨hb, hr, cell_lt (CallC.cell hr 0 _ rfl), Nat.le_of_eq hN.symm⟩)); rw [← hN]; clear hg hN
    have HZ26 : Hid (ZZ w wb26 L X (0 + 1) [N26, N25, N24, N2, N1, DB, SB, KB] (fR r x0 x1 x2 x3 x4 pc 3 0) [0] KB SB DB ([.int .i64 x0, .int .i64 x1, .int .i64 x2, .int .i64 x3, .int .u32 x4] : List Value)) := Lib.hid ((HZ25.out.step HD26.out).more HX.out HB26.out.1 N26 HB26.out.2.2.2 HB26.out.2.2.1)
    have HN24r26 : Hid (NT wb26 [N26, N25, N24, N2, N1, DB, SB, KB] N24 (nA 1 pc 0)) := Lib.hid ((HN24r25.out.step HD26.out).below (HZ25.out.step HD26.out) HB26.out.1).cons
    have HN25r26 : Hid (NT wb26 [N26, N25, N24, N2, N1, DB, SB, KB] N25 (nA 0 0 0)) := Lib.hid ((HN25r25.out.step HD26.out).below (HZ25.out.step HD26.out) HB26.out.1).cons
    have HN26r26 : Hid (NT wb26 [N26, N25, N24, N2, N1, DB, SB, KB] N26 nX3) := Lib.hid ⟨by simp, HB26.out.2.1⟩
    clear HC26 HD26 HB26 HZ25 HN24r25 HN25r25
    have HC27 := Lib.hid (askQ (nt := (nA 3 pc 0)) HX.out hnd vs vr 8 0 (nA_len _ _ _) (nA_one _ _ _) 0 0 0 0 0 0 0 0 0 0 SB DB wb26 (HZ26).out.s (HZ26).out.d (fun k hk => ((HZ26).out.a k hk).1) (HZ26).out.da ((HZ26).out.da.errs vs vr HE.out) (fun W _ hEW => oseen_void X.s vs vr W hEW) (fun cs hc hj V hV => (dom_state r x0 x1 x2 x3 x4 pc 3 rfl (by decide) HX.out hnd vs vr HE.out (HZ26).out.a (HZ26).out.da 0 hc V hV)))
    go_upto_region 28 with (first | (go_at_call 11; (with_reducible refine (HC27.out).mono ?_); rintro e wa27 ⟨rfl, hd⟩; have HD27 := Lib.hid hd; clear hd) | (refine wpList_store_mid (by rfl) _ _ _ (by rfl) wa27.heap.size 0 ((nA 3 pc 0)).toArray (by rfl) (by rfl) (by rw [show ((nA 3 pc 0)).toArray.size = 19 from rfl]; exact nthere_new _ _ 19 (by rfl) _) (by rw [show ((nA 3 pc 0)).toArray.size = 19 from rfl]; exact infoNote) (all_one (nA_one _ _ _)) ?_)); generalize hg : World.setCells _ wa27.heap.size 0 _ = wb27; obtain ⟨N27, hN⟩ : ∃ N, N = wa27.heap.size := ⟨_, rfl⟩; have HB27 : Hid (Below wa27.heap.size wa27 wb27 ∧ World.rangeAt wb27 N27 0 ((nA 3 pc 0)) ∧ N27 < wb27.heap.size ∧ wa27.heap.size ≤ N27) := (Lib.hid (by have hb : Below wa27.heap.size wa27 wb27 := (by rw [← hg]; exact nbelow_cells ((Below.refl wa27.heap.size wa27).alloc (Nat.le_refl _) _) (Nat.le_refl _) _ _); have hr : World.rangeAt wb27 N27 0 ((nA 3 pc 0)) := (by rw [← hg, hN]; exact World.rangeAt_setCells_same _ wa27.heap.size 0 ((nA 3 pc 0)) (nthere_new _ _ 19 (by rfl) _)); exact ⟨hb, hr, cell_lt (CallC.cell hr 0 _ rfl), Nat.le_of_eq hN.symm⟩)); rw [← hN]; clear hg hN
    have HZ27 : Hid (ZZ w wb27 L X (0 + 1) [N27, N26, N25, N24, N2, N1, DB, SB, KB] (fR r x0 x1 x2 x3 x4 pc 3 0) [0] KB SB DB ([.int .i64 x0, .int .i64 x1, .int .i64 x2, .int .i64 x3, .int .u32 x4] : List Value)) := Lib.hid ((HZ26.out.step HD27.out).more HX.out HB27.out.1 N27 HB27.out.2.2.2 HB27.out.2.2.1)
    have HN24r27 : Hid (NT wb27 [N27, N26, N25, N24, N2, N1, DB, SB, KB] N24 (nA 1 pc 0)) := Lib.hid ((HN24r26.out.step HD27.out).below (HZ26.out.step HD27.out) HB27.out.1).cons
    have HN25r27 : Hid (NT wb27 [N27, N26, N25, N24, N2, N1, DB, SB, KB] N25 (nA 0 0 0)) := Lib.hid ((HN25r26.out.step HD27.out).below (HZ26.out.step HD27.out) HB27.out.1).cons
    have HN26r27 : Hid (NT wb27 [N27, N26, N25, N24, N2, N1, DB, SB, KB] N26 nX3) := Lib.hid ((HN26r26.out.step HD27.out).below (HZ26.out.step HD27.out) HB27.out.1).cons
    have HN27r27 : Hid (NT wb27 [N27, N26, N25, N24, N2, N1, DB, SB, KB] N27 (nA 3 pc 0)) := Lib.hid ⟨by simp, HB27.out.2.1⟩
    clear HC27 HD27 HB27 HZ26 HN24r26 HN25r26 HN26r26
    have s0 := HZ27.out.s
    have s5 := HZ27.out.c5
    go_upto_region 29 with (first | (go_at_call 14; (with_reducible refine (HZ27.out.da.has true (Lib.hid rfl)).mono ?_); rintro e w28 ⟨rfl, hb⟩; have HB28 := Lib.hid hb; clear hb))
    have HZ28 : Hid (ZZ w w28 L X (0 + 1) [N27, N26, N25, N24, N2, N1, DB, SB, KB] (fR r x0 x1 x2 x3 x4 pc 3 0) [0] KB SB DB ([.int .i64 x0, .int .i64 x1, .int .i64 x2, .int .i64 x3, .int .u32 x4] : List Value)) := Lib.hid (HZ27.out.below HX.out HB28.out)
    have HN24r28 : Hid (NT w28 [N27, N26, N25, N24, N2, N1, DB, SB, KB] N24 (nA 1 pc 0)) := Lib.hid (HN24r27.out.below HZ27.out HB28.out)
    have HN25r28 : Hid (NT w28 [N27, N26, N25, N24, N2, N1, DB, SB, KB] N25 (nA 0 0 0)) := Lib.hid (HN25r27.out.below HZ27.out HB28.out)
    have HN26r28 : Hid (NT w28 [N27, N26, N25, N24, N2, N1, DB, SB, KB] N26 nX3) := Lib.hid (HN26r27.out.below HZ27.out HB28.out)
    have HN27r28 : Hid (NT w28 [N27, N26, N25, N24, N2, N1, DB, SB, KB] N27 (nA 3 pc 0)) := Lib.hid (HN27r27.out.below HZ27.out HB28.out)
    clear HB28 s0 s5 HZ27 HN24r27 HN25r27 HN26r27 HN27r27
    have HC29 := Lib.hid (askQ (nt := (nA 0 0 0)) HX.out hnd vs vr 9 0 (nA_len _ _ _) (nA_one _ _ _) 0 0 0 0 0 0 0 0 0 0 SB DB w28 (HZ28).out.s (HZ28).out.d (fun k hk => ((HZ28).out.a k hk).1) (HZ28).out.da ((HZ28).out.da.errs vs vr HE.out) (fun W _ hEW => oseen_void X.s vs vr W hEW) (fun cs hc hj V hV => (dom_halt r h16 x0 x1 x2 x3 x4 hrx pc (by decide) HX.out hnd vs vr HE.out (HZ28).out.a (HZ28).out.da 0 hc V hV)))
    go_upto_region 30 with (first | (go_at_call 11; (with_reducible refine (HC29.out).mono ?_); rintro e wa29 ⟨rfl, hd⟩; have HD29 := Lib.hid hd; clear hd) | (refine wpList_store_mid (by rfl) _ _ _ (by rfl) wa29.heap.size 0 ((nA 0 0 0)).toArray (by rfl) (by rfl) (by rw [show ((nA 0 0 0)).toArray.size = 19 from rfl]; exact nthere_new _ _ 19 (by rfl) _) (by rw [show ((nA 0 0 0)).toArray.size = 19 from rfl]; exact infoNote) (all_one (nA_one _ _ _)) ?_)); generalize hg : World.setCells _ wa29.heap.size 0 _ = wb29; obtain ⟨N29, hN⟩ : ∃ N, N = wa29.heap.size := ⟨_, rfl⟩; have HB29 : Hid (Below wa29.heap.size wa29 wb29 ∧ World.rangeAt wb29 N29 0 ((nA 0 0 0)) ∧ N29 < wb29.heap.size ∧ wa29.heap.size ≤ N29) := (Lib.hid (by have hb : Below wa29.heap.size wa29 wb29 := (by rw [← hg]; exact nbelow_cells ((Below.refl wa29.heap.size wa29).alloc (Nat.le_refl _) _) (Nat.le_refl _) _ _); have hr : World.rangeAt wb29 N29 0 ((nA 0 0 0)) := (by rw [← hg, hN]; exact World.rangeAt_setCells_same _ wa29.heap.size 0 ((nA 0 0 0)) (nthere_new _ _ 19 (by rfl) _)); exact ⟨hb, hr, cell_lt (CallC.cell hr 0 _ rfl), Nat.le_of_eq hN.symm⟩)); rw [← hN]; clear hg hN
    have HZ29 : Hid (ZZ w wb29 L X (0 + 1) [N29, N27, N26, N25, N24, N2, N1, DB, SB, KB] (fR r x0 x1 x2 x3 x4 pc 4 0) (Go.Proofs.YthgjejclhdolmaaGreatDoor.V.offI [0] 0) KB SB DB ([.int .i64 x0, .int .i64 x1, .int .i64 x2, .int .i64 x3, .int .u32 x4] : List Value)) := Lib.hid ((HZ28.out.step HD29.out).more HX.out HB29.out.1 N29 HB29.out.2.2.2 HB29.out.2.2.1)
    have HN24r29 : Hid (NT wb29 [N29, N27, N26, N25, N24, N2, N1, DB, SB, KB] N24 (nA 1 pc 0)) := Lib.hid ((HN24r28.out.step HD29.out).below (HZ28.out.step HD29.out) HB29.out.1).cons
    have HN25r29 : Hid (NT wb29 [N29, N27, N26, N25, N24, N2, N1, DB, SB, KB] N25 (nA 0 0 0)) := Lib.hid ((HN25r28.out.step HD29.out).below (HZ28.out.step HD29.out) HB29.out.1).cons
    have HN26r29 : Hid (NT wb29 [N29, N27, N26, N25, N24, N2, N1, DB, SB, KB] N26 nX3) := Lib.hid ((HN26r28.out.step HD29.out).below (HZ28.out.step HD29.out) HB29.out.1).cons
    have HN27r29 : Hid (NT wb29 [N29, N27, N26, N25, N24, N2, N1, DB, SB, KB] N27 (nA 3 pc 0)) := Lib.hid ((HN27r28.out.step HD29.out).below (HZ28.out.step HD29.out) HB29.out.1).cons
    have HN29r29 : Hid (NT wb29 [N29, N27, N26, N25, N24, N2, N1, DB, SB, KB] N29 (nA 0 0 0)) := Lib.hid ⟨by simp, HB29.out.2.1⟩
    clear HC29 HD29 HB29 HZ28 HN24r28 HN25r28 HN26r28 HN27r28
    have HC30 := Lib.hid (askQ (nt := nX3) HX.out hnd vs vr 9 0 nX3_len nX3_one 0 0 0 0 0 0 0 0 0 0 SB DB wb29 (HZ29).out.s (HZ29).out.d (fun k hk => ((HZ29).out.a k hk).1) (HZ29).out.da ((HZ29).out.da.errs vs vr HE.out) (fun W _ hEW => oseen_void X.s vs vr W hEW) (fun cs hc hj V hV => (dom_halt_bad r x0 x1 x2 x3 x4 pc HX.out hnd vs vr HE.out (HZ29).out.a (HZ29).out.da 0 hc V hV)))
    go_upto_region 31 with (first | (go_at_call 11; (with_reducible refine (HC30.out).mono ?_); rintro e wa30 ⟨rfl, hd⟩; have HD30 := Lib.hid hd; clear hd) | (refine wpList_store_mid (by rfl) _ _ _ (by rfl) wa30.heap.size 0 (nX3).toArray (by rfl) (by rfl) (by rw [show (nX3).toArray.size = 19 from rfl]; exact nthere_new _ _ 19 (by rfl) _) (by rw [show (nX3).toArray.size = 19 from rfl]; exact infoNote) (all_one nX3_one) ?_)); generalize hg : World.setCells _ wa30.heap.size 0 _ = wb30; obtain ⟨N30, hN⟩ : ∃ N, N = wa30.heap.size := ⟨_, rfl⟩; have HB30 : Hid (Below wa30.heap.size wa30 wb30 ∧ World.rangeAt wb30 N30 0 (nX3) ∧ N30 < wb30.heap.size ∧ wa30.heap.size ≤ N30) := (Lib.hid (by have hb : Below wa30.heap.size wa30 wb30 := (by rw [← hg]; exact nbelow_cells ((Below.refl wa30.heap.size wa30).alloc (Nat.le_refl _) _) (Nat.le_refl _) _ _); have hr : World.rangeAt wb30 N30 0 (nX3) := (by rw [← hg, hN]; exact World.rangeAt_setCells_same _ wa30.heap.size 0 (nX3) (nthere_new _ _ 19 (by rfl) _)); exact ⟨hb, hr, cell_lt (CallC.cell hr 0 _ rfl), Nat.le_of_eq hN.symm⟩)); rw [← hN]; clear hg hN
    have HZ30 : Hid (ZZ w wb30 L X (0 + 1) [N30, N29, N27, N26, N25, N24, N2, N1, DB, SB, KB] (fR r x0 x1 x2 x3 x4 pc 4 0) (Go.Proofs.YthgjejclhdolmaaGreatDoor.V.offI [0] 0) KB SB DB ([.int .i64 x0, .int .i64 x1, .int .i64 x2, .int .i64 x3, .int .u32 x4] : List Value)) := Lib.hid ((HZ29.out.step HD30.out).more HX.out HB30.out.1 N30 HB30.out.2.2.2 HB30.out.2.2.1)
    have HN24r30 : Hid (NT wb30 [N30, N29, N27, N26, N25, N24, N2, N1, DB, SB, KB] N24 (nA 1 pc 0)) := Lib.hid ((HN24r29.out.step HD30.out).below (HZ29.out.step HD30.out) HB30.out.1).cons
    have HN25r30 : Hid (NT wb30 [N30, N29, N27, N26, N25, N24, N2, N1, DB, SB, KB] N25 (nA 0 0 0)) := Lib.hid ((HN25r29.out.step HD30.out).below (HZ29.out.step HD30.out) HB30.out.1).cons
    have HN26r30 : Hid (NT wb30 [N30, N29, N27, N26, N25, N24, N2, N1, DB, SB, KB] N26 nX3) := Lib.hid ((HN26r29.out.step HD30.out).below (HZ29.out.step HD30.out) HB30.out.1).cons
    have HN27r30 : Hid (NT wb30 [N30, N29, N27, N26, N25, N24, N2, N1, DB, SB, KB] N27 (nA 3 pc 0)) := Lib.hid ((HN27r29.out.step HD30.out).below (HZ29.out.step HD30.out) HB30.out.1).cons
    have HN29r30 : Hid (NT wb30 [N30, N29, N27, N26, N25, N24, N2, N1, DB, SB, KB] N29 (nA 0 0 0)) := Lib.hid ((HN29r29.out.step HD30.out).below (HZ29.out.step HD30.out) HB30.out.1).cons
    have HN30r30 : Hid (NT wb30 [N30, N29, N27, N26, N25, N24, N2, N1, DB, SB, KB] N30 nX3) := Lib.hid ⟨by simp, HB30.out.2.1⟩
    clear HC30 HD30 HB30 HZ29 HN24r29 HN25r29 HN26r29 HN27r29 HN29r29
    have s0 := HZ30.out.s
    have s5 := HZ30.out.c5
    have cN24_1 := CallC.cell HN24r30.out.r 1 _ rfl
    have cN24_2 := CallC.cell HN24r30.out.r 2 _ rfl
    have cN25_0 := CallC.cell HN25r30.out.r 0 _ rfl
    have cN26_0 := CallC.cell HN26r30.out.r 0 _ rfl
    have cN27_1 := CallC.cell HN27r30.out.r 1 _ rfl
    have cN29_0 := CallC.cell HN29r30.out.r 0 _ rfl
    have cN30_0 := CallC.cell HN30r30.out.r 0 _ rfl
    go_wp2_with (first | (go_at_call 14; (with_reducible refine (HZ30.out.da.has false (Lib.hid rfl)).mono ?_); rintro e w31 ⟨rfl, hb⟩; have HB31 := Lib.hid hb; clear hb))
    go_ret
    exact ⟨rfl, HZ30.out.bel.trans (HB31.out.mono HZ30.out.bel.size)⟩
    --END
  · have hge : decide ((16 : Int) ≤ (r : Int)) = true := decide_eq_true (by omega)
    have ha16 : (16 : Int) ≤ (r : Int) := by omega
    have q0 := CallC.cell (HZ0).out.k 0 _ rfl; have q1 := CallC.cell (HZ0).out.k 1 _ rfl; have q2 := CallC.cell (HZ0).out.k 2 _ rfl; have q3 := CallC.cell (HZ0).out.k 3 _ rfl; have q4 := CallC.cell (HZ0).out.k 4 _ rfl
    have HC1 := Lib.hid (askQ (nt := nX3) HX.out hnd vs vr 1 r nX3_len nX3_one x0 x1 x2 x3 x4 x0 x1 x2 x3 x4 SB DB w10 (HZ0).out.s (HZ0).out.d (fun k hk => ((HZ0).out.a k hk).1) (HZ0).out.da ((HZ0).out.da.errs vs vr HE.out) (fun W hW hEW => HSX2.out _ W _ 1 rf_z hW hEW) (fun cs hc hj V hV => (dom_set_bad HX.out hnd vs vr HE.out (HZ0).out.a (HZ0).out.da 1 rf_z r ha16 hc V hV)))
    go_upto_region 18 with (first | (go_at_call 11; (with_reducible refine (HC1.out).mono ?_); rintro e w11 ⟨rfl, hd⟩; have HD1 := Lib.hid hd; clear hd) | (refine wpList_store_mid (by rfl) _ _ _ (by rfl) w11.heap.size 0 (nX3).toArray (by rfl) (by rfl) (by rw [show (nX3).toArray.size = 19 from rfl]; exact nthere_new _ _ 19 (by rfl) _) (by rw [show (nX3).toArray.size = 19 from rfl]; exact infoNote) (all_one nX3_one) ?_)); generalize hg : World.setCells _ w11.heap.size 0 _ = w12; obtain ⟨N1, hN⟩ : ∃ N, N = w11.heap.size := ⟨_, rfl⟩; have HB1 : Hid (Below w11.heap.size w11 w12 ∧ World.rangeAt w12 N1 0 (nX3) ∧ N1 < w12.heap.size ∧ w11.heap.size ≤ N1) := (Lib.hid (by have hb : Below w11.heap.size w11 w12 := (by rw [← hg]; exact nbelow_cells ((Below.refl w11.heap.size w11).alloc (Nat.le_refl _) _) (Nat.le_refl _) _ _); have hr : World.rangeAt w12 N1 0 (nX3) := (by rw [← hg, hN]; exact World.rangeAt_setCells_same _ w11.heap.size 0 (nX3) (nthere_new _ _ 19 (by rfl) _)); exact ⟨hb, hr, cell_lt (CallC.cell hr 0 _ rfl), Nat.le_of_eq hN.symm⟩)); rw [← hN]; clear hg hN
    have HZ1 : Hid (ZZ w w12 L X 0 [N1, DB, SB, KB] zd1 [] KB SB DB ([.int .i64 x0, .int .i64 x1, .int .i64 x2, .int .i64 x3, .int .u32 x4] : List Value)) := Lib.hid ((HZ0.out.step HD1.out).more HX.out HB1.out.1 N1 HB1.out.2.2.2 HB1.out.2.2.1)
    have HT1 : Hid (NT w12 [N1, DB, SB, KB] N1 nX3) := Lib.hid ⟨by simp, HB1.out.2.1⟩
    clear q0 q1 q2 q3 q4 HC1
    have HC2 := Lib.hid (askQ (nt := nX3) HX.out hnd vs vr 2 r nX3_len nX3_one 0 0 0 0 0 0 0 0 0 0 SB DB w12 (HZ1).out.s (HZ1).out.d (fun k hk => ((HZ1).out.a k hk).1) (HZ1).out.da ((HZ1).out.da.errs vs vr HE.out) (fun W _ hEW => oseen_void X.s vs vr W hEW) (fun cs hc hj V hV => (dom_tell_bad HX.out hnd vs vr HE.out (HZ1).out.a (HZ1).out.da 1 rf_z r ha16 hc V hV)))
    go_upto_region 19 with (first | (go_at_call 11; (with_reducible refine (HC2.out).mono ?_); rintro e w13 ⟨rfl, hd⟩; have HD2 := Lib.hid hd; clear hd) | (refine wpList_store_mid (by rfl) _ _ _ (by rfl) w13.heap.size 0 (nX3).toArray (by rfl) (by rfl) (by rw [show (nX3).toArray.size = 19 from rfl]; exact nthere_new _ _ 19 (by rfl) _) (by rw [show (nX3).toArray.size = 19 from rfl]; exact infoNote) (all_one nX3_one) ?_)); generalize hg : World.setCells _ w13.heap.size 0 _ = w14; obtain ⟨N2, hN⟩ : ∃ N, N = w13.heap.size := ⟨_, rfl⟩; have HB2 : Hid (Below w13.heap.size w13 w14 ∧ World.rangeAt w14 N2 0 (nX3) ∧ N2 < w14.heap.size ∧ w13.heap.size ≤ N2) := (Lib.hid (by have hb : Below w13.heap.size w13 w14 := (by rw [← hg]; exact nbelow_cells ((Below.refl w13.heap.size w13).alloc (Nat.le_refl _) _) (Nat.le_refl _) _ _); have hr : World.rangeAt w14 N2 0 (nX3) := (by rw [← hg, hN]; exact World.rangeAt_setCells_same _ w13.heap.size 0 (nX3) (nthere_new _ _ 19 (by rfl) _)); exact ⟨hb, hr, cell_lt (CallC.cell hr 0 _ rfl), Nat.le_of_eq hN.symm⟩)); rw [← hN]; clear hg hN
    have HZ2 : Hid (ZZ w w14 L X 0 [N2, N1, DB, SB, KB] zd1 [] KB SB DB ([.int .i64 x0, .int .i64 x1, .int .i64 x2, .int .i64 x3, .int .u32 x4] : List Value)) := Lib.hid ((HZ1.out.step HD2.out).more HX.out HB2.out.1 N2 HB2.out.2.2.2 HB2.out.2.2.1)
    have HT2 : Hid (NT w14 [N2, N1, DB, SB, KB] N1 nX3) := Lib.hid ((HT1.out.step HD2.out).below (HZ1.out.step HD2.out) HB2.out.1).cons
    clear HC2
    have n0 := CallC.cell HT2.out.r 0 _ rfl
    have p0 := CallC.cell HB2.out.2.1 0 _ rfl
    go_wp2_with fail
    go_ret
    exact ⟨rfl, HZ2.out.bel⟩
set_option maxRecDepth 100000 in
set_option maxHeartbeats 4000000 in
theorem domains_early (k0 k1 k2 k3 k4 : Int) (a pc c : Int) (hc : Hid (codeOf k0 k1 k2 k3 k4 = c)) (h : c = 102 ∨ c = 103) (gk : k4 ≤ 4294967295) (vs vr : Value) (w : World) (hE : ErrsAt vs vr w) :
    Calls Tryz.prog 3 #[.int .u32 a, .int .u32 pc, (Value.agg #[.int .i64 k0, .int .i64 k1, .int .i64 k2, .int .i64 k3, .int .u32 k4])] w fun e w' => e = .returned (.bool true) ∧ Below w.heap.size w w' := by
  have HE := Lib.hid hE
  clear hE
  rcases h with rfl | rfl
  · go_enter Tryz.func3, Tryz.ntmps3; go_upto_region 1 with fail; generalize hA : World.alloc w _ = wa; obtain ⟨KB, hKB⟩ : ∃ KB, KB = w.heap.size := ⟨_, rfl⟩; have HA : Hid (Below w.heap.size w wa ∧ KeyC wa KB k0 k1 k2 k3 k4) := (Lib.hid (by rw [← hA, hKB]; exact ⟨(Below.refl _ _).alloc (Nat.le_refl _) _, KeyC.new w k0 k1 k2 k3 k4 _⟩)); rw [← hKB]; clear hA hKB; go_upto_region 4 with (first | (go_at_call 4; (with_reducible refine (first22_is vs vr _ (HE.out.below HA.out.1)).mono ?_); rintro e w1 ⟨rfl, hb⟩; have H1 : Hid (Below w.heap.size w w1 ∧ KeyC w1 KB k0 k1 k2 k3 k4) := Lib.hid ⟨HA.out.1.trans (hb.mono HA.out.1.size), HA.out.2.below hb⟩; clear hb)); obtain ⟨q0, q1, q2, q3, q4⟩ := ofive H1.out.2; go_wp2_with (first | (go_at_call 5; (with_reducible refine (valid_is k0 k1 k2 k3 k4 102 hc gk _).mono ?_); rintro e w2 ⟨rfl, hb⟩; have H2 : Hid (Below w.heap.size w w2) := Lib.hid (H1.out.1.trans (hb.mono H1.out.1.size)); clear hb)); go_ret; exact ⟨rfl, H2.out⟩
  · go_enter Tryz.func3, Tryz.ntmps3; go_upto_region 1 with fail; generalize hA : World.alloc w _ = wa; obtain ⟨KB, hKB⟩ : ∃ KB, KB = w.heap.size := ⟨_, rfl⟩; have HA : Hid (Below w.heap.size w wa ∧ KeyC wa KB k0 k1 k2 k3 k4) := (Lib.hid (by rw [← hA, hKB]; exact ⟨(Below.refl _ _).alloc (Nat.le_refl _) _, KeyC.new w k0 k1 k2 k3 k4 _⟩)); rw [← hKB]; clear hA hKB; go_upto_region 4 with (first | (go_at_call 4; (with_reducible refine (first22_is vs vr _ (HE.out.below HA.out.1)).mono ?_); rintro e w1 ⟨rfl, hb⟩; have H1 : Hid (Below w.heap.size w w1 ∧ KeyC w1 KB k0 k1 k2 k3 k4) := Lib.hid ⟨HA.out.1.trans (hb.mono HA.out.1.size), HA.out.2.below hb⟩; clear hb)); obtain ⟨q0, q1, q2, q3, q4⟩ := ofive H1.out.2; go_wp2_with (first | (go_at_call 5; (with_reducible refine (valid_is k0 k1 k2 k3 k4 103 hc gk _).mono ?_); rintro e w2 ⟨rfl, hb⟩; have H2 : Hid (Below w.heap.size w w2) := Lib.hid (H1.out.1.trans (hb.mono H1.out.1.size)); clear hb)); go_ret; exact ⟨rfl, H2.out⟩
theorem walk_ObjectDomains (a0 : Int) (a1 : Int) (x2_0 : Int) (x2_1 : Int) (x2_2 : Int) (x2_3 : Int) (x2_4 : Int) (w : World) (w0 : (Lit.int .u32 a0).wf = true) (w1 : (Lit.int .u32 a1).wf = true) (wx2_0 : (Lit.int .i64 x2_0).wf = true) (wx2_1 : (Lit.int .i64 x2_1).wf = true) (wx2_2 : (Lit.int .i64 x2_2).wf = true) (wx2_3 : (Lit.int .i64 x2_3).wf = true) (wx2_4 : (Lit.int .u32 x2_4).wf = true) (hL : laidMetH Tryz.prog Rows.objectDomainsRow.laid w) :
    Calls Tryz.prog 3 #[.int .u32 a0, .int .u32 a1, .agg #[.int .i64 x2_0, .int .i64 x2_1, .int .i64 x2_2, .int .i64 x2_3, .int .u32 x2_4]] w fun e w' => e = .returned (.bool true) ∧ Below w.heap.size w w' := by
  obtain ⟨vs, vr, hE⟩ := (errs2 hL ⟨_, by repeat (first | exact List.Mem.head _ | apply List.Mem.tail)⟩ ⟨_, by repeat (first | exact List.Mem.head _ | apply List.Mem.tail)⟩)
  clear hL
  have ga := fit32 w0
  have gp := fit32 w1
  have gk := fit32 wx2_4
  by_cases he : codeOf x2_0 x2_1 x2_2 x2_3 x2_4 = 102 ∨ codeOf x2_0 x2_1 x2_2 x2_3 x2_4 = 103
  · exact domains_early _ _ _ _ _ a0 a1 _ (Lib.hid rfl) he gk.2 vs vr w hE
  · have h1 := code_cases x2_0 x2_1 x2_2 x2_3 x2_4
    exact domains_walk _ _ _ _ _ a0 a1 (by omega) gk ga gp vs vr w hE
end Go.Proofs.YthgjejclhdolmaaGreatDoor
