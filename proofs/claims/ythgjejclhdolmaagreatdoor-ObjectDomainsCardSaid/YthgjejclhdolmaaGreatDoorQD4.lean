/-
  Yp, Yq, Oi, Yt, Yv, Yw, Qv, Qv2, Qv3, Yx: what ObjectDomains reaches of them.
-/
import Derived.Test.YthgjejclhdolmaaGreatDoorQD3
namespace Go.Proofs.YthgjejclhdolmaaGreatDoor
open Go.ChangeShapes Go.WideShapes Go.ChangeAt Go.RowKit
set_option linter.unusedVariables false
set_option linter.unusedSimpArgs false
section
variable {cs nt : List Value} {s d N : Nat} {k0 k1 k2 k3 k4 o x : Int} {Q : World → Prop}
set_option maxRecDepth 100000 in
set_option maxHeartbeats 2000000 in
theorem cdom_1 (hc : Hid (CallC cs s k0 k1 k2 k3 k4 1 x)) (F : Nat → Value) (hF : Hid (∀ j, j < 107 → (F j).oneCell' = true)) (g : Bool) (w : World) (hs : w.cell? ⟨s, 1, none⟩ = some (.pointer (some ⟨d, 0, none⟩))) (hG : ∀ W, Below w.heap.size w W → Calls Tryz.prog 72 #[.pointer (some ⟨d, 0, none⟩), .int .i64 k1] W fun e w' => e = .returned (.tuple #[.agg (rowL F).toArray, .bool g]) ∧ Below W.heap.size W w') (hnl : nt.length = 19) (hn1 : ∀ v, v ∈ nt → v.oneCell' = true) (hN : N ≤ w.heap.size) (hQ : ∀ w1 w2, Q w1 → Below N w1 w2 → Q w2) (hFn : ∀ W, Below w.heap.size w W → Calls Tryz.prog 85 #[(.agg cs.toArray), .agg (rowL F).toArray] W fun e w' => e = .returned (.agg nt.toArray) ∧ Q w' ∧ UpT N W w') : Calls Tryz.prog 55 #[(.agg cs.toArray)] w fun e w' => e = .returned (.agg nt.toArray) ∧ Q w' ∧ UpT N w w' := by
  have HQ := Lib.hid hQ
  have HFn := Lib.hid hFn
  have hsz : nt.toArray.size = 19 := by simp [hnl]
  clear hQ hFn
  have HG := Lib.hid hG; have HSl : Hid (s < w.heap.size ∧ w.cell? ⟨s, 1, none⟩ = some (.pointer (some ⟨d, 0, none⟩))) := Lib.hid ⟨cell_lt hs, hs⟩; clear hG hs; go_enter Tryz.func55, Tryz.ntmps55; go_upto_region 1 with fail; generalize hA : World.alloc w _ = wK; obtain ⟨C, hC⟩ : ∃ C, C = w.heap.size := ⟨_, rfl⟩; have HK : Hid (Below w.heap.size w wK ∧ wK.rangeAt C 0 cs ∧ wK.heap.size = C + 1) := Lib.hid (by rw [← hA, hC]; exact ⟨(Below.refl _ _).alloc (Nat.le_refl _) _, cbox _ _ _, by simp⟩); have HCl : Hid (w.heap.size ≤ C) := Lib.hid (by rw [hC]; exact Nat.le_refl _); rw [← hC]; clear hA hC; generalize hA : World.alloc wK _ = wA; obtain ⟨R, hR⟩ : ∃ R, R = C + 1 := ⟨_, rfl⟩; have HA : Hid (Below w.heap.size w wA ∧ wA.rangeAt C 0 cs ∧ World.there wA R 0 19 ∧ C < R ∧ R < wA.heap.size) := Lib.hid (by rw [← hA, hR, ← HK.out.2.2]; exact ⟨HK.out.1.alloc HK.out.1.size _, range_below HK.out.2.1 ((Below.refl _ _).alloc (Nat.le_refl _) _) (by have := HK.out.2.2; omega), nthere_new _ _ 19 (by rfl) _, by have := HK.out.2.2; omega, by simp⟩); rw [← hR]; clear hA hR; have HS1 : Hid (∀ W, Below wA.heap.size wA W → (World.cell? W ⟨C, 0, none⟩ = some (.pointer (some ⟨s, 0, none⟩)) ∧ World.cell? W ⟨C, 2, none⟩ = some (.int .i64 k1) ∧ World.cell? W ⟨s, 1, none⟩ = some (.pointer (some ⟨d, 0, none⟩)))) := (Lib.hid (fun W hW => by have hr := range_below HA.out.2.1 hW (Nat.lt_trans HA.out.2.2.2.1 HA.out.2.2.2.2); exact ⟨CallC.cell hr 0 _ hc.out.c0, CallC.cell hr 2 _ hc.out.c2, ((HA.out.1.trans (hW.mono HA.out.1.size)).cell (p := ⟨s, 1, none⟩) HSl.out.1).trans HSl.out.2⟩))
  go_cut [3] (fun v wx => ∃ J : Nat, v = .pointer (some ⟨J, 0, none⟩) ∧ Below wA.heap.size wA wx ∧ wx.rangeAt J 0 (rowL F) ∧ wA.heap.size ≤ J ∧ J < wx.heap.size)
  case first =>
    obtain ⟨wD, hwD⟩ : ∃ wD, wD = wA.drew := ⟨_, rfl⟩; have HBd : Hid (Below wA.heap.size wA wD) := Lib.hid (by rw [hwD]; exact (Below.refl _ _).drew); refine wp_region_noPanic ?_; refine wp_region_held_drew (S := fun W => (World.cell? W ⟨C, 0, none⟩ = some (.pointer (some ⟨s, 0, none⟩)) ∧ World.cell? W ⟨C, 2, none⟩ = some (.int .i64 k1) ∧ World.cell? W ⟨s, 1, none⟩ = some (.pointer (some ⟨d, 0, none⟩)))) (by kernel_rfl) (by rw [← hwD]; exact HS1.out _ HBd.out) (fun hHeld => ?_); rw [← hwD] at hHeld ⊢; clear hwD; refine wpAnyH_take (i := 0) (v := ?_) (by rfl) (by kernel_rfl) (by kernel_rfl) (by kernel_rfl) (fun _ _ _ h => h) (Or.inl ⟨by kernel_rfl, ?_⟩) (by assumption) ?_; rotate_left 1; (focus (intro w hSw; (try dsimp only at hSw); simp only [List.getElem_toArray, List.getElem_cons_succ, List.getElem_cons_zero]; all_goals go_simp; all_goals (try with_reducible rfl))); (try simp only [Act.put, List.getElem_toArray, List.getElem_cons_succ, List.getElem_cons_zero, List.setIfInBounds_toArray, List.set_cons_zero, List.set_cons_succ]); refine wpAnyH_take (i := 1) (v := ?_) (by rfl) (by kernel_rfl) (by kernel_rfl) (by kernel_rfl) (fun _ _ _ h => h) (Or.inl ⟨by kernel_rfl, ?_⟩) (by assumption) ?_; rotate_left 1; (focus (intro w hSw; (try dsimp only at hSw); simp only [List.getElem_toArray, List.getElem_cons_succ, List.getElem_cons_zero]; all_goals go_simp; all_goals (try with_reducible rfl))); (try simp only [Act.put, List.getElem_toArray, List.getElem_cons_succ, List.getElem_cons_zero, List.setIfInBounds_toArray, List.set_cons_zero, List.set_cons_succ]); refine wpAnyH_take (i := 2) (v := ?_) (by rfl) (by kernel_rfl) (by kernel_rfl) (by kernel_rfl) (fun _ _ _ h => h) (Or.inl ⟨by kernel_rfl, ?_⟩) (by assumption) ?_; rotate_left 1; (focus (intro w hSw; (try dsimp only at hSw); simp only [List.getElem_toArray, List.getElem_cons_succ, List.getElem_cons_zero]; all_goals go_simp; all_goals (try with_reducible rfl))); (try simp only [Act.put, List.getElem_toArray, List.getElem_cons_succ, List.getElem_cons_zero, List.setIfInBounds_toArray, List.set_cons_zero, List.set_cons_succ]); refine wpAnyH_take (i := 3) (v := ?_) (by rfl) (by kernel_rfl) (by kernel_rfl) (by kernel_rfl) (fun _ _ _ h => h) (Or.inl ⟨by kernel_rfl, ?_⟩) (by assumption) ?_; rotate_left 1; (focus (intro w hSw; (try dsimp only at hSw); simp only [List.getElem_toArray, List.getElem_cons_succ, List.getElem_cons_zero]; all_goals go_simp; all_goals (try with_reducible rfl))); (try simp only [Act.put, List.getElem_toArray, List.getElem_cons_succ, List.getElem_cons_zero, List.setIfInBounds_toArray, List.set_cons_zero, List.set_cons_succ]); refine wpAnyH_take (i := 4) (v := ?_) (by rfl) (by kernel_rfl) (by kernel_rfl) (by kernel_rfl) (fun _ _ _ h => h) (Or.inl ⟨by kernel_rfl, ?_⟩) (by assumption) ?_; rotate_left 1; (focus (intro w hSw; (try dsimp only at hSw); simp only [List.getElem_toArray, List.getElem_cons_succ, List.getElem_cons_zero]; all_goals go_simp; all_goals (try with_reducible rfl))); (try simp only [Act.put, List.getElem_toArray, List.getElem_cons_succ, List.getElem_cons_zero, List.setIfInBounds_toArray, List.set_cons_zero, List.set_cons_succ]); refine wpAnyH_take (i := 5) (v := ?_) (by rfl) (by kernel_rfl) (by kernel_rfl) (by kernel_rfl) (fun _ _ _ h => h) (Or.inl ⟨by kernel_rfl, ?_⟩) (by assumption) ?_; rotate_left 1; (focus (intro w hSw; (try dsimp only at hSw); simp only [List.getElem_toArray, List.getElem_cons_succ, List.getElem_cons_zero]; all_goals go_simp; all_goals (try with_reducible rfl))); (try simp only [Act.put, List.getElem_toArray, List.getElem_cons_succ, List.getElem_cons_zero, List.setIfInBounds_toArray, List.set_cons_zero, List.set_cons_succ]); refine wpAnyH_take (i := 6) (v := ?_) (by rfl) (by kernel_rfl) (by kernel_rfl) (by kernel_rfl) (fun _ _ _ h => h) (Or.inl ⟨by kernel_rfl, ?_⟩) (by assumption) ?_; rotate_left 1; (focus (intro w hSw; (try dsimp only at hSw); simp only [List.getElem_toArray, List.getElem_cons_succ, List.getElem_cons_zero]; all_goals go_simp; all_goals (try with_reducible rfl))); (try simp only [Act.put, List.getElem_toArray, List.getElem_cons_succ, List.getElem_cons_zero, List.setIfInBounds_toArray, List.set_cons_zero, List.set_cons_succ]); refine wpAnyH_take (i := 7) (v := ?_) (by rfl) (by kernel_rfl) (by kernel_rfl) (by kernel_rfl) (fun _ _ _ h => h) (Or.inl ⟨by kernel_rfl, ?_⟩) (by assumption) ?_; rotate_left 1; (focus (intro w hSw; (try dsimp only at hSw); simp only [List.getElem_toArray, List.getElem_cons_succ, List.getElem_cons_zero]; all_goals go_simp; all_goals (try with_reducible rfl))); (try simp only [Act.put, List.getElem_toArray, List.getElem_cons_succ, List.getElem_cons_zero, List.setIfInBounds_toArray, List.set_cons_zero, List.set_cons_succ]); refine wpAnyH_ready (rs := [8, 12]) (by kernel_rfl) (by simp) ?_; refine AllReadyH.cons (by rfl) (fun K hK => ?_) (AllReadyH.cons (by rfl) (fun K hK => ?_) AllReadyH.nil)
    · rw [if_pos (by kernel_rfl)]; simp only [List.getElem_toArray, List.getElem_cons_succ, List.getElem_cons_zero]; go_wp2_with (first | (go_at_call 72; (with_reducible refine (HG.out _ (HA.out.1.trans (HBd.out.mono HA.out.1.size))).mono ?_); rintro e w2 ⟨rfl, hb⟩; have HB2 := Lib.hid (HBd.out.trans (hb.mono HBd.out.size)); clear hb)); refine hK.out _ _ (HS1.out _ HB2.out) (fun hHeld => ?_); clear hK K; (try simp only [Act.put, List.getElem_toArray, List.getElem_cons_succ, List.getElem_cons_zero, List.setIfInBounds_toArray, List.set_cons_zero, List.set_cons_succ]); refine wpAnyH_take (i := 9) (v := ?_) (by rfl) (by kernel_rfl) (by kernel_rfl) (by kernel_rfl) (fun _ _ _ h => h) (Or.inl ⟨by kernel_rfl, ?_⟩) (by assumption) ?_; rotate_left 1; (focus (intro w hSw; (try dsimp only at hSw); simp only [List.getElem_toArray, List.getElem_cons_succ, List.getElem_cons_zero]; all_goals go_simp; all_goals (try with_reducible rfl))); (try simp only [Act.put, List.getElem_toArray, List.getElem_cons_succ, List.getElem_cons_zero, List.setIfInBounds_toArray, List.set_cons_zero, List.set_cons_succ]); refine wpAnyH_take (i := 10) (v := ?_) (by rfl) (by kernel_rfl) (by kernel_rfl) (by kernel_rfl) (fun _ _ _ h => h) (Or.inl ⟨by kernel_rfl, ?_⟩) (by assumption) ?_; rotate_left 1; (focus (intro w hSw; (try dsimp only at hSw); simp only [List.getElem_toArray, List.getElem_cons_succ, List.getElem_cons_zero]; all_goals go_simp; all_goals (try with_reducible rfl))); (try simp only [Act.put, List.getElem_toArray, List.getElem_cons_succ, List.getElem_cons_zero, List.setIfInBounds_toArray, List.set_cons_zero, List.set_cons_succ]); refine wpAnyH_take (i := 11) (v := ?_) (by rfl) (by kernel_rfl) (by kernel_rfl) (by kernel_rfl) (fun _ _ _ h => h) (Or.inl ⟨by kernel_rfl, ?_⟩) (by assumption) ?_; rotate_left 1; (focus (intro w hSw; (try dsimp only at hSw); simp only [List.getElem_toArray, List.getElem_cons_succ, List.getElem_cons_zero]; all_goals go_simp; all_goals (try with_reducible rfl))); (try simp only [Act.put, List.getElem_toArray, List.getElem_cons_succ, List.getElem_cons_zero, List.setIfInBounds_toArray, List.set_cons_zero, List.set_cons_succ]); refine wpAnyH_ready (rs := [12]) (by kernel_rfl) (by simp) ?_; refine AllReadyH.cons (by rfl) (fun K hK => ?_) AllReadyH.nil; rw [if_pos (by kernel_rfl)]; simp only [List.getElem_toArray, List.getElem_cons_succ, List.getElem_cons_zero]; go_wp2_with fail; generalize hE : World.alloc w2 _ = wE; obtain ⟨J, hJ⟩ : ∃ J, J = w2.heap.size := ⟨_, rfl⟩; have HE : Hid (Below wA.heap.size wA wE ∧ World.there wE J 0 107 ∧ wA.heap.size ≤ J ∧ J < wE.heap.size) := Lib.hid (by rw [← hE, hJ]; exact ⟨(HB2.out).alloc (HB2.out).size _, nthere_new _ _ 107 zsize _, (HB2.out).size, by simp⟩); rw [← hJ]; clear hE hJ; refine hK.out _ _ (HS1.out _ HE.out.1) (fun hHeld => ?_); clear hK K; (try simp only [Act.put, List.getElem_toArray, List.getElem_cons_succ, List.getElem_cons_zero, List.setIfInBounds_toArray, List.set_cons_zero, List.set_cons_succ]); refine wpAnyH_ready (rs := [13]) (by kernel_rfl) (by simp) ?_; refine AllReadyH.cons (by rfl) (fun K hK => ?_) AllReadyH.nil; rw [if_pos (by kernel_rfl)]; simp only [List.getElem_toArray, List.getElem_cons_succ, List.getElem_cons_zero]; refine wp_store_mid 128 (Operand.tmp 3) (Operand.tmp 15) (by rfl) J 0 (rowL F).toArray (by rfl) (by rfl) (by rw [rowL_size]; exact HE.out.2.1) (by rw [rowL_size]; exact infoDomS) (rowL_one F hF.out) ?_; generalize hW : World.setCells wE _ _ _ = wF; have HF9 : Hid (Below wA.heap.size wA wF ∧ wF.rangeAt J 0 (rowL F) ∧ J < wF.heap.size) := Lib.hid (by rw [← hW]; refine ⟨nbelow_cells HE.out.1 (HE.out.2.2).1 _ _, World.rangeAt_setCells_same wE J 0 (rowL F) (by rw [rowL_len]; exact HE.out.2.1), ?_⟩; exact Nat.lt_of_lt_of_le (HE.out.2.2).2 (nbelow_cells (Below.refl J wE) (Nat.le_refl J) _ _).size); clear hW; refine hK.out _ _ (HS1.out _ HF9.out.1) (fun hHeld => ?_); clear hK K; (try simp only [Act.put, List.getElem_toArray, List.getElem_cons_succ, List.getElem_cons_zero, List.setIfInBounds_toArray, List.set_cons_zero, List.set_cons_succ]); refine wpAnyH_take (i := 14) (v := ?_) (by rfl) (by kernel_rfl) (by kernel_rfl) (by kernel_rfl) (fun _ _ _ h => h) (Or.inl ⟨by kernel_rfl, ?_⟩) (by assumption) ?_; rotate_left 1; (focus (intro w hSw; (try dsimp only at hSw); simp only [List.getElem_toArray, List.getElem_cons_succ, List.getElem_cons_zero]; all_goals go_simp; all_goals (try with_reducible rfl))); (try simp only [Act.put, List.getElem_toArray, List.getElem_cons_succ, List.getElem_cons_zero, List.setIfInBounds_toArray, List.set_cons_zero, List.set_cons_succ]); refine wpAnyH_done (by kernel_rfl) ?_ _; refine NoPanic.normal ?_; go_wp2_with fail; go_meet; exact ⟨J, rfl, HF9.out.1, HF9.out.2.1, (HE.out.2.2).1, HF9.out.2.2⟩
    · rw [if_pos (by kernel_rfl)]; simp only [List.getElem_toArray, List.getElem_cons_succ, List.getElem_cons_zero]; go_wp2_with fail; generalize hE : World.alloc wD _ = wE; obtain ⟨J, hJ⟩ : ∃ J, J = wD.heap.size := ⟨_, rfl⟩; have HE : Hid (Below wA.heap.size wA wE ∧ World.there wE J 0 107 ∧ wA.heap.size ≤ J ∧ J < wE.heap.size) := Lib.hid (by rw [← hE, hJ]; exact ⟨(HBd.out).alloc (HBd.out).size _, nthere_new _ _ 107 zsize _, (HBd.out).size, by simp⟩); rw [← hJ]; clear hE hJ; refine hK.out _ _ (HS1.out _ HE.out.1) (fun hHeld => ?_); clear hK K; (try simp only [Act.put, List.getElem_toArray, List.getElem_cons_succ, List.getElem_cons_zero, List.setIfInBounds_toArray, List.set_cons_zero, List.set_cons_succ]); refine wpAnyH_ready (rs := [8]) (by kernel_rfl) (by simp) ?_; refine AllReadyH.cons (by rfl) (fun K hK => ?_) AllReadyH.nil; rw [if_pos (by kernel_rfl)]; simp only [List.getElem_toArray, List.getElem_cons_succ, List.getElem_cons_zero]; go_wp2_with (first | (go_at_call 72; (with_reducible refine (HG.out _ (HA.out.1.trans (HE.out.1.mono HA.out.1.size))).mono ?_); rintro e w2 ⟨rfl, hb⟩; have HB2 : Hid (Below wA.heap.size wA w2 ∧ World.there w2 J 0 107 ∧ wA.heap.size ≤ J ∧ J < w2.heap.size) := Lib.hid ⟨HE.out.1.trans (hb.mono HE.out.1.size), nthere_below HE.out.2.1 hb HE.out.2.2.2, HE.out.2.2.1, Nat.lt_of_lt_of_le HE.out.2.2.2 hb.size⟩; clear hb)); refine hK.out _ _ (HS1.out _ HB2.out.1) (fun hHeld => ?_); clear hK K; (try simp only [Act.put, List.getElem_toArray, List.getElem_cons_succ, List.getElem_cons_zero, List.setIfInBounds_toArray, List.set_cons_zero, List.set_cons_succ]); refine wpAnyH_take (i := 9) (v := ?_) (by rfl) (by kernel_rfl) (by kernel_rfl) (by kernel_rfl) (fun _ _ _ h => h) (Or.inl ⟨by kernel_rfl, ?_⟩) (by assumption) ?_; rotate_left 1; (focus (intro w hSw; (try dsimp only at hSw); simp only [List.getElem_toArray, List.getElem_cons_succ, List.getElem_cons_zero]; all_goals go_simp; all_goals (try with_reducible rfl))); (try simp only [Act.put, List.getElem_toArray, List.getElem_cons_succ, List.getElem_cons_zero, List.setIfInBounds_toArray, List.set_cons_zero, List.set_cons_succ]); refine wpAnyH_take (i := 10) (v := ?_) (by rfl) (by kernel_rfl) (by kernel_rfl) (by kernel_rfl) (fun _ _ _ h => h) (Or.inl ⟨by kernel_rfl, ?_⟩) (by assumption) ?_; rotate_left 1; (focus (intro w hSw; (try dsimp only at hSw); simp only [List.getElem_toArray, List.getElem_cons_succ, List.getElem_cons_zero]; all_goals go_simp; all_goals (try with_reducible rfl))); (try simp only [Act.put, List.getElem_toArray, List.getElem_cons_succ, List.getElem_cons_zero, List.setIfInBounds_toArray, List.set_cons_zero, List.set_cons_succ]); refine wpAnyH_take (i := 11) (v := ?_) (by rfl) (by kernel_rfl) (by kernel_rfl) (by kernel_rfl) (fun _ _ _ h => h) (Or.inl ⟨by kernel_rfl, ?_⟩) (by assumption) ?_; rotate_left 1; (focus (intro w hSw; (try dsimp only at hSw); simp only [List.getElem_toArray, List.getElem_cons_succ, List.getElem_cons_zero]; all_goals go_simp; all_goals (try with_reducible rfl))); (try simp only [Act.put, List.getElem_toArray, List.getElem_cons_succ, List.getElem_cons_zero, List.setIfInBounds_toArray, List.set_cons_zero, List.set_cons_succ]); refine wpAnyH_ready (rs := [13]) (by kernel_rfl) (by simp) ?_; refine AllReadyH.cons (by rfl) (fun K hK => ?_) AllReadyH.nil; rw [if_pos (by kernel_rfl)]; simp only [List.getElem_toArray, List.getElem_cons_succ, List.getElem_cons_zero]; refine wp_store_mid 128 (Operand.tmp 3) (Operand.tmp 15) (by rfl) J 0 (rowL F).toArray (by rfl) (by rfl) (by rw [rowL_size]; exact HB2.out.2.1) (by rw [rowL_size]; exact infoDomS) (rowL_one F hF.out) ?_; generalize hW : World.setCells w2 _ _ _ = wF; have HF9 : Hid (Below wA.heap.size wA wF ∧ wF.rangeAt J 0 (rowL F) ∧ J < wF.heap.size) := Lib.hid (by rw [← hW]; refine ⟨nbelow_cells HB2.out.1 (HB2.out.2.2).1 _ _, World.rangeAt_setCells_same w2 J 0 (rowL F) (by rw [rowL_len]; exact HB2.out.2.1), ?_⟩; exact Nat.lt_of_lt_of_le (HB2.out.2.2).2 (nbelow_cells (Below.refl J w2) (Nat.le_refl J) _ _).size); clear hW; refine hK.out _ _ (HS1.out _ HF9.out.1) (fun hHeld => ?_); clear hK K; (try simp only [Act.put, List.getElem_toArray, List.getElem_cons_succ, List.getElem_cons_zero, List.setIfInBounds_toArray, List.set_cons_zero, List.set_cons_succ]); refine wpAnyH_take (i := 14) (v := ?_) (by rfl) (by kernel_rfl) (by kernel_rfl) (by kernel_rfl) (fun _ _ _ h => h) (Or.inl ⟨by kernel_rfl, ?_⟩) (by assumption) ?_; rotate_left 1; (focus (intro w hSw; (try dsimp only at hSw); simp only [List.getElem_toArray, List.getElem_cons_succ, List.getElem_cons_zero]; all_goals go_simp; all_goals (try with_reducible rfl))); (try simp only [Act.put, List.getElem_toArray, List.getElem_cons_succ, List.getElem_cons_zero, List.setIfInBounds_toArray, List.set_cons_zero, List.set_cons_succ]); refine wpAnyH_done (by kernel_rfl) ?_ _; refine NoPanic.normal ?_; go_wp2_with fail; go_meet; exact ⟨J, rfl, HF9.out.1, HF9.out.2.1, (HB2.out.2.2).1, HF9.out.2.2⟩
  case rest =>
    obtain ⟨J, rfl, hb, hr, hj0, hj1⟩ := hcut; have HX : Hid (Below wA.heap.size wA wc ∧ wc.rangeAt C 0 cs ∧ wc.rangeAt J 0 (rowL F) ∧ World.there wc R 0 19 ∧ R < wc.heap.size) := (Lib.hid ⟨hb, range_below HA.out.2.1 hb (Nat.lt_trans HA.out.2.2.2.1 HA.out.2.2.2.2), hr, nthere_below HA.out.2.2.1 hb HA.out.2.2.2.2, Nat.lt_of_lt_of_le HA.out.2.2.2.2 hb.size⟩); clear hb hr hj0 hj1; have q6 := CallC.cell HX.out.2.1 6 _ hc.out.c6; go_wp2_with (first | (refine wpList_load_mid (by rfl) _ _ (by rfl) C 0 (by rfl) cs _ HX.out.2.1 Tryz.underlying84 rfl (by rw [hc.out.len]; exact infoCall) ?_) | (refine wpList_load_mid (by rfl) _ _ (by rfl) J 0 (by rfl) (rowL F) _ HX.out.2.2.1 Tryz.underlying128 rfl (by rw [rowL_len]; exact infoDomS) ?_) | (go_at_call 85; (refine (HFn.out _ (HA.out.1.trans (HX.out.1.mono HA.out.1.size))).mono ?_); rintro e w5 ⟨rfl, hq, hu⟩; have H5 : Hid (Q w5 ∧ UpT N w w5) := Lib.hid ⟨hq, (UpT.below (HA.out.1.trans (HX.out.1.mono HA.out.1.size))).trans hu⟩; have HT5 : Hid (World.there w5 R 0 19) := Lib.hid (nthere_same HX.out.2.2.2.1 (hu.2 R (by have h1 := HA.out.2.2.2.1; have h2 := HCl.out; omega) HX.out.2.2.2.2)); clear hq hu) | (refine wpList_store_mid (by rfl) _ _ _ (by rfl) R 0 nt.toArray (by rfl) (by rfl) (by rw [hsz]; exact HT5.out) (by rw [hsz]; exact infoNote) (all_one hn1) ?_)); have hRn : w.heap.size ≤ R := (by have := HA.out.2.2.2.1; have := HCl.out; omega); generalize hS : World.setCells w5 _ _ _ = wS; have HS : Hid (Below w.heap.size w5 wS ∧ wS.rangeAt R 0 nt) := Lib.hid (by rw [← hS]; exact ⟨nbelow_cells (Below.refl _ _) hRn _ _, World.rangeAt_setCells_same w5 R 0 nt (by rw [hnl]; exact HT5.out)⟩); clear hS; have HQS := Lib.hid (HQ.out _ _ H5.out.1 (HS.out.1.mono hN)); have hld := nload hnl HS.out.2; refine bodyPost_ret (v := (.agg nt.toArray)) (by simp [results, Tryz.results55, Act.put, asAddr, hld]) rfl ⟨rfl, HQS.out, H5.out.2.low HS.out.1 (Nat.le_refl _)⟩
set_option maxRecDepth 100000 in
set_option maxHeartbeats 2000000 in
theorem cdom_2 (hc : Hid (CallC cs s k0 k1 k2 k3 k4 2 x)) (F : Nat → Value) (hF : Hid (∀ j, j < 107 → (F j).oneCell' = true)) (g : Bool) (w : World) (hs : w.cell? ⟨s, 1, none⟩ = some (.pointer (some ⟨d, 0, none⟩))) (hG : ∀ W, Below w.heap.size w W → Calls Tryz.prog 72 #[.pointer (some ⟨d, 0, none⟩), .int .i64 k1] W fun e w' => e = .returned (.tuple #[.agg (rowL F).toArray, .bool g]) ∧ Below W.heap.size W w') (hnl : nt.length = 19) (hn1 : ∀ v, v ∈ nt → v.oneCell' = true) (hN : N ≤ w.heap.size) (hQ : ∀ w1 w2, Q w1 → Below N w1 w2 → Q w2) (hFn : ∀ W, Below w.heap.size w W → Calls Tryz.prog 85 #[(.agg cs.toArray), .agg (rowL F).toArray] W fun e w' => e = .returned (.agg nt.toArray) ∧ Q w' ∧ UpT N W w') : Calls Tryz.prog 55 #[(.agg cs.toArray)] w fun e w' => e = .returned (.agg nt.toArray) ∧ Q w' ∧ UpT N w w' := by
  have HQ := Lib.hid hQ
  have HFn := Lib.hid hFn
  have hsz : nt.toArray.size = 19 := by simp [hnl]
  clear hQ hFn
  have HG := Lib.hid hG; have HSl : Hid (s < w.heap.size ∧ w.cell? ⟨s, 1, none⟩ = some (.pointer (some ⟨d, 0, none⟩))) := Lib.hid ⟨cell_lt hs, hs⟩; clear hG hs; go_enter Tryz.func55, Tryz.ntmps55; go_upto_region 1 with fail; generalize hA : World.alloc w _ = wK; obtain ⟨C, hC⟩ : ∃ C, C = w.heap.size := ⟨_, rfl⟩; have HK : Hid (Below w.heap.size w wK ∧ wK.rangeAt C 0 cs ∧ wK.heap.size = C + 1) := Lib.hid (by rw [← hA, hC]; exact ⟨(Below.refl _ _).alloc (Nat.le_refl _) _, cbox _ _ _, by simp⟩); have HCl : Hid (w.heap.size ≤ C) := Lib.hid (by rw [hC]; exact Nat.le_refl _); rw [← hC]; clear hA hC; generalize hA : World.alloc wK _ = wA; obtain ⟨R, hR⟩ : ∃ R, R = C + 1 := ⟨_, rfl⟩; have HA : Hid (Below w.heap.size w wA ∧ wA.rangeAt C 0 cs ∧ World.there wA R 0 19 ∧ C < R ∧ R < wA.heap.size) := Lib.hid (by rw [← hA, hR, ← HK.out.2.2]; exact ⟨HK.out.1.alloc HK.out.1.size _, range_below HK.out.2.1 ((Below.refl _ _).alloc (Nat.le_refl _) _) (by have := HK.out.2.2; omega), nthere_new _ _ 19 (by rfl) _, by have := HK.out.2.2; omega, by simp⟩); rw [← hR]; clear hA hR; have HS1 : Hid (∀ W, Below wA.heap.size wA W → (World.cell? W ⟨C, 0, none⟩ = some (.pointer (some ⟨s, 0, none⟩)) ∧ World.cell? W ⟨C, 2, none⟩ = some (.int .i64 k1) ∧ World.cell? W ⟨s, 1, none⟩ = some (.pointer (some ⟨d, 0, none⟩)))) := (Lib.hid (fun W hW => by have hr := range_below HA.out.2.1 hW (Nat.lt_trans HA.out.2.2.2.1 HA.out.2.2.2.2); exact ⟨CallC.cell hr 0 _ hc.out.c0, CallC.cell hr 2 _ hc.out.c2, ((HA.out.1.trans (hW.mono HA.out.1.size)).cell (p := ⟨s, 1, none⟩) HSl.out.1).trans HSl.out.2⟩))
  go_cut [3] (fun v wx => ∃ J : Nat, v = .pointer (some ⟨J, 0, none⟩) ∧ Below wA.heap.size wA wx ∧ wx.rangeAt J 0 (rowL F) ∧ wA.heap.size ≤ J ∧ J < wx.heap.size)
  case first =>
    obtain ⟨wD, hwD⟩ : ∃ wD, wD = wA.drew := ⟨_, rfl⟩; have HBd : Hid (Below wA.heap.size wA wD) := Lib.hid (by rw [hwD]; exact (Below.refl _ _).drew); refine wp_region_noPanic ?_; refine wp_region_held_drew (S := fun W => (World.cell? W ⟨C, 0, none⟩ = some (.pointer (some ⟨s, 0, none⟩)) ∧ World.cell? W ⟨C, 2, none⟩ = some (.int .i64 k1) ∧ World.cell? W ⟨s, 1, none⟩ = some (.pointer (some ⟨d, 0, none⟩)))) (by kernel_rfl) (by rw [← hwD]; exact HS1.out _ HBd.out) (fun hHeld => ?_); rw [← hwD] at hHeld ⊢; clear hwD; refine wpAnyH_take (i := 0) (v := ?_) (by rfl) (by kernel_rfl) (by kernel_rfl) (by kernel_rfl) (fun _ _ _ h => h) (Or.inl ⟨by kernel_rfl, ?_⟩) (by assumption) ?_; rotate_left 1; (focus (intro w hSw; (try dsimp only at hSw); simp only [List.getElem_toArray, List.getElem_cons_succ, List.getElem_cons_zero]; all_goals go_simp; all_goals (try with_reducible rfl))); (try simp only [Act.put, List.getElem_toArray, List.getElem_cons_succ, List.getElem_cons_zero, List.setIfInBounds_toArray, List.set_cons_zero, List.set_cons_succ]); refine wpAnyH_take (i := 1) (v := ?_) (by rfl) (by kernel_rfl) (by kernel_rfl) (by kernel_rfl) (fun _ _ _ h => h) (Or.inl ⟨by kernel_rfl, ?_⟩) (by assumption) ?_; rotate_left 1; (focus (intro w hSw; (try dsimp only at hSw); simp only [List.getElem_toArray, List.getElem_cons_succ, List.getElem_cons_zero]; all_goals go_simp; all_goals (try with_reducible rfl))); (try simp only [Act.put, List.getElem_toArray, List.getElem_cons_succ, List.getElem_cons_zero, List.setIfInBounds_toArray, List.set_cons_zero, List.set_cons_succ]); refine wpAnyH_take (i := 2) (v := ?_) (by rfl) (by kernel_rfl) (by kernel_rfl) (by kernel_rfl) (fun _ _ _ h => h) (Or.inl ⟨by kernel_rfl, ?_⟩) (by assumption) ?_; rotate_left 1; (focus (intro w hSw; (try dsimp only at hSw); simp only [List.getElem_toArray, List.getElem_cons_succ, List.getElem_cons_zero]; all_goals go_simp; all_goals (try with_reducible rfl))); (try simp only [Act.put, List.getElem_toArray, List.getElem_cons_succ, List.getElem_cons_zero, List.setIfInBounds_toArray, List.set_cons_zero, List.set_cons_succ]); refine wpAnyH_take (i := 3) (v := ?_) (by rfl) (by kernel_rfl) (by kernel_rfl) (by kernel_rfl) (fun _ _ _ h => h) (Or.inl ⟨by kernel_rfl, ?_⟩) (by assumption) ?_; rotate_left 1; (focus (intro w hSw; (try dsimp only at hSw); simp only [List.getElem_toArray, List.getElem_cons_succ, List.getElem_cons_zero]; all_goals go_simp; all_goals (try with_reducible rfl))); (try simp only [Act.put, List.getElem_toArray, List.getElem_cons_succ, List.getElem_cons_zero, List.setIfInBounds_toArray, List.set_cons_zero, List.set_cons_succ]); refine wpAnyH_take (i := 4) (v := ?_) (by rfl) (by kernel_rfl) (by kernel_rfl) (by kernel_rfl) (fun _ _ _ h => h) (Or.inl ⟨by kernel_rfl, ?_⟩) (by assumption) ?_; rotate_left 1; (focus (intro w hSw; (try dsimp only at hSw); simp only [List.getElem_toArray, List.getElem_cons_succ, List.getElem_cons_zero]; all_goals go_simp; all_goals (try with_reducible rfl))); (try simp only [Act.put, List.getElem_toArray, List.getElem_cons_succ, List.getElem_cons_zero, List.setIfInBounds_toArray, List.set_cons_zero, List.set_cons_succ]); refine wpAnyH_take (i := 5) (v := ?_) (by rfl) (by kernel_rfl) (by kernel_rfl) (by kernel_rfl) (fun _ _ _ h => h) (Or.inl ⟨by kernel_rfl, ?_⟩) (by assumption) ?_; rotate_left 1; (focus (intro w hSw; (try dsimp only at hSw); simp only [List.getElem_toArray, List.getElem_cons_succ, List.getElem_cons_zero]; all_goals go_simp; all_goals (try with_reducible rfl))); (try simp only [Act.put, List.getElem_toArray, List.getElem_cons_succ, List.getElem_cons_zero, List.setIfInBounds_toArray, List.set_cons_zero, List.set_cons_succ]); refine wpAnyH_take (i := 6) (v := ?_) (by rfl) (by kernel_rfl) (by kernel_rfl) (by kernel_rfl) (fun _ _ _ h => h) (Or.inl ⟨by kernel_rfl, ?_⟩) (by assumption) ?_; rotate_left 1; (focus (intro w hSw; (try dsimp only at hSw); simp only [List.getElem_toArray, List.getElem_cons_succ, List.getElem_cons_zero]; all_goals go_simp; all_goals (try with_reducible rfl))); (try simp only [Act.put, List.getElem_toArray, List.getElem_cons_succ, List.getElem_cons_zero, List.setIfInBounds_toArray, List.set_cons_zero, List.set_cons_succ]); refine wpAnyH_take (i := 7) (v := ?_) (by rfl) (by kernel_rfl) (by kernel_rfl) (by kernel_rfl) (fun _ _ _ h => h) (Or.inl ⟨by kernel_rfl, ?_⟩) (by assumption) ?_; rotate_left 1; (focus (intro w hSw; (try dsimp only at hSw); simp only [List.getElem_toArray, List.getElem_cons_succ, List.getElem_cons_zero]; all_goals go_simp; all_goals (try with_reducible rfl))); (try simp only [Act.put, List.getElem_toArray, List.getElem_cons_succ, List.getElem_cons_zero, List.setIfInBounds_toArray, List.set_cons_zero, List.set_cons_succ]); refine wpAnyH_ready (rs := [8, 12]) (by kernel_rfl) (by simp) ?_; refine AllReadyH.cons (by rfl) (fun K hK => ?_) (AllReadyH.cons (by rfl) (fun K hK => ?_) AllReadyH.nil)
    · rw [if_pos (by kernel_rfl)]; simp only [List.getElem_toArray, List.getElem_cons_succ, List.getElem_cons_zero]; go_wp2_with (first | (go_at_call 72; (with_reducible refine (HG.out _ (HA.out.1.trans (HBd.out.mono HA.out.1.size))).mono ?_); rintro e w2 ⟨rfl, hb⟩; have HB2 := Lib.hid (HBd.out.trans (hb.mono HBd.out.size)); clear hb)); refine hK.out _ _ (HS1.out _ HB2.out) (fun hHeld => ?_); clear hK K; (try simp only [Act.put, List.getElem_toArray, List.getElem_cons_succ, List.getElem_cons_zero, List.setIfInBounds_toArray, List.set_cons_zero, List.set_cons_succ]); refine wpAnyH_take (i := 9) (v := ?_) (by rfl) (by kernel_rfl) (by kernel_rfl) (by kernel_rfl) (fun _ _ _ h => h) (Or.inl ⟨by kernel_rfl, ?_⟩) (by assumption) ?_; rotate_left 1; (focus (intro w hSw; (try dsimp only at hSw); simp only [List.getElem_toArray, List.getElem_cons_succ, List.getElem_cons_zero]; all_goals go_simp; all_goals (try with_reducible rfl))); (try simp only [Act.put, List.getElem_toArray, List.getElem_cons_succ, List.getElem_cons_zero, List.setIfInBounds_toArray, List.set_cons_zero, List.set_cons_succ]); refine wpAnyH_take (i := 10) (v := ?_) (by rfl) (by kernel_rfl) (by kernel_rfl) (by kernel_rfl) (fun _ _ _ h => h) (Or.inl ⟨by kernel_rfl, ?_⟩) (by assumption) ?_; rotate_left 1; (focus (intro w hSw; (try dsimp only at hSw); simp only [List.getElem_toArray, List.getElem_cons_succ, List.getElem_cons_zero]; all_goals go_simp; all_goals (try with_reducible rfl))); (try simp only [Act.put, List.getElem_toArray, List.getElem_cons_succ, List.getElem_cons_zero, List.setIfInBounds_toArray, List.set_cons_zero, List.set_cons_succ]); refine wpAnyH_take (i := 11) (v := ?_) (by rfl) (by kernel_rfl) (by kernel_rfl) (by kernel_rfl) (fun _ _ _ h => h) (Or.inl ⟨by kernel_rfl, ?_⟩) (by assumption) ?_; rotate_left 1; (focus (intro w hSw; (try dsimp only at hSw); simp only [List.getElem_toArray, List.getElem_cons_succ, List.getElem_cons_zero]; all_goals go_simp; all_goals (try with_reducible rfl))); (try simp only [Act.put, List.getElem_toArray, List.getElem_cons_succ, List.getElem_cons_zero, List.setIfInBounds_toArray, List.set_cons_zero, List.set_cons_succ]); refine wpAnyH_ready (rs := [12]) (by kernel_rfl) (by simp) ?_; refine AllReadyH.cons (by rfl) (fun K hK => ?_) AllReadyH.nil; rw [if_pos (by kernel_rfl)]; simp only [List.getElem_toArray, List.getElem_cons_succ, List.getElem_cons_zero]; go_wp2_with fail; generalize hE : World.alloc w2 _ = wE; obtain ⟨J, hJ⟩ : ∃ J, J = w2.heap.size := ⟨_, rfl⟩; have HE : Hid (Below wA.heap.size wA wE ∧ World.there wE J 0 107 ∧ wA.heap.size ≤ J ∧ J < wE.heap.size) := Lib.hid (by rw [← hE, hJ]; exact ⟨(HB2.out).alloc (HB2.out).size _, nthere_new _ _ 107 zsize _, (HB2.out).size, by simp⟩); rw [← hJ]; clear hE hJ; refine hK.out _ _ (HS1.out _ HE.out.1) (fun hHeld => ?_); clear hK K; (try simp only [Act.put, List.getElem_toArray, List.getElem_cons_succ, List.getElem_cons_zero, List.setIfInBounds_toArray, List.set_cons_zero, List.set_cons_succ]); refine wpAnyH_ready (rs := [13]) (by kernel_rfl) (by simp) ?_; refine AllReadyH.cons (by rfl) (fun K hK => ?_) AllReadyH.nil; rw [if_pos (by kernel_rfl)]; simp only [List.getElem_toArray, List.getElem_cons_succ, List.getElem_cons_zero]; refine wp_store_mid 128 (Operand.tmp 3) (Operand.tmp 15) (by rfl) J 0 (rowL F).toArray (by rfl) (by rfl) (by rw [rowL_size]; exact HE.out.2.1) (by rw [rowL_size]; exact infoDomS) (rowL_one F hF.out) ?_; generalize hW : World.setCells wE _ _ _ = wF; have HF9 : Hid (Below wA.heap.size wA wF ∧ wF.rangeAt J 0 (rowL F) ∧ J < wF.heap.size) := Lib.hid (by rw [← hW]; refine ⟨nbelow_cells HE.out.1 (HE.out.2.2).1 _ _, World.rangeAt_setCells_same wE J 0 (rowL F) (by rw [rowL_len]; exact HE.out.2.1), ?_⟩; exact Nat.lt_of_lt_of_le (HE.out.2.2).2 (nbelow_cells (Below.refl J wE) (Nat.le_refl J) _ _).size); clear hW; refine hK.out _ _ (HS1.out _ HF9.out.1) (fun hHeld => ?_); clear hK K; (try simp only [Act.put, List.getElem_toArray, List.getElem_cons_succ, List.getElem_cons_zero, List.setIfInBounds_toArray, List.set_cons_zero, List.set_cons_succ]); refine wpAnyH_take (i := 14) (v := ?_) (by rfl) (by kernel_rfl) (by kernel_rfl) (by kernel_rfl) (fun _ _ _ h => h) (Or.inl ⟨by kernel_rfl, ?_⟩) (by assumption) ?_; rotate_left 1; (focus (intro w hSw; (try dsimp only at hSw); simp only [List.getElem_toArray, List.getElem_cons_succ, List.getElem_cons_zero]; all_goals go_simp; all_goals (try with_reducible rfl))); (try simp only [Act.put, List.getElem_toArray, List.getElem_cons_succ, List.getElem_cons_zero, List.setIfInBounds_toArray, List.set_cons_zero, List.set_cons_succ]); refine wpAnyH_done (by kernel_rfl) ?_ _; refine NoPanic.normal ?_; go_wp2_with fail; go_meet; exact ⟨J, rfl, HF9.out.1, HF9.out.2.1, (HE.out.2.2).1, HF9.out.2.2⟩
    · rw [if_pos (by kernel_rfl)]; simp only [List.getElem_toArray, List.getElem_cons_succ, List.getElem_cons_zero]; go_wp2_with fail; generalize hE : World.alloc wD _ = wE; obtain ⟨J, hJ⟩ : ∃ J, J = wD.heap.size := ⟨_, rfl⟩; have HE : Hid (Below wA.heap.size wA wE ∧ World.there wE J 0 107 ∧ wA.heap.size ≤ J ∧ J < wE.heap.size) := Lib.hid (by rw [← hE, hJ]; exact ⟨(HBd.out).alloc (HBd.out).size _, nthere_new _ _ 107 zsize _, (HBd.out).size, by simp⟩); rw [← hJ]; clear hE hJ; refine hK.out _ _ (HS1.out _ HE.out.1) (fun hHeld => ?_); clear hK K; (try simp only [Act.put, List.getElem_toArray, List.getElem_cons_succ, List.getElem_cons_zero, List.setIfInBounds_toArray, List.set_cons_zero, List.set_cons_succ]); refine wpAnyH_ready (rs := [8]) (by kernel_rfl) (by simp) ?_; refine AllReadyH.cons (by rfl) (fun K hK => ?_) AllReadyH.nil; rw [if_pos (by kernel_rfl)]; simp only [List.getElem_toArray, List.getElem_cons_succ, List.getElem_cons_zero]; go_wp2_with (first | (go_at_call 72; (with_reducible refine (HG.out _ (HA.out.1.trans (HE.out.1.mono HA.out.1.size))).mono ?_); rintro e w2 ⟨rfl, hb⟩; have HB2 : Hid (Below wA.heap.size wA w2 ∧ World.there w2 J 0 107 ∧ wA.heap.size ≤ J ∧ J < w2.heap.size) := Lib.hid ⟨HE.out.1.trans (hb.mono HE.out.1.size), nthere_below HE.out.2.1 hb HE.out.2.2.2, HE.out.2.2.1, Nat.lt_of_lt_of_le HE.out.2.2.2 hb.size⟩; clear hb)); refine hK.out _ _ (HS1.out _ HB2.out.1) (fun hHeld => ?_); clear hK K; (try simp only [Act.put, List.getElem_toArray, List.getElem_cons_succ, List.getElem_cons_zero, List.setIfInBounds_toArray, List.set_cons_zero, List.set_cons_succ]); refine wpAnyH_take (i := 9) (v := ?_) (by rfl) (by kernel_rfl) (by kernel_rfl) (by kernel_rfl) (fun _ _ _ h => h) (Or.inl ⟨by kernel_rfl, ?_⟩) (by assumption) ?_; rotate_left 1; (focus (intro w hSw; (try dsimp only at hSw); simp only [List.getElem_toArray, List.getElem_cons_succ, List.getElem_cons_zero]; all_goals go_simp; all_goals (try with_reducible rfl))); (try simp only [Act.put, List.getElem_toArray, List.getElem_cons_succ, List.getElem_cons_zero, List.setIfInBounds_toArray, List.set_cons_zero, List.set_cons_succ]); refine wpAnyH_take (i := 10) (v := ?_) (by rfl) (by kernel_rfl) (by kernel_rfl) (by kernel_rfl) (fun _ _ _ h => h) (Or.inl ⟨by kernel_rfl, ?_⟩) (by assumption) ?_; rotate_left 1; (focus (intro w hSw; (try dsimp only at hSw); simp only [List.getElem_toArray, List.getElem_cons_succ, List.getElem_cons_zero]; all_goals go_simp; all_goals (try with_reducible rfl))); (try simp only [Act.put, List.getElem_toArray, List.getElem_cons_succ, List.getElem_cons_zero, List.setIfInBounds_toArray, List.set_cons_zero, List.set_cons_succ]); refine wpAnyH_take (i := 11) (v := ?_) (by rfl) (by kernel_rfl) (by kernel_rfl) (by kernel_rfl) (fun _ _ _ h => h) (Or.inl ⟨by kernel_rfl, ?_⟩) (by assumption) ?_; rotate_left 1; (focus (intro w hSw; (try dsimp only at hSw); simp only [List.getElem_toArray, List.getElem_cons_succ, List.getElem_cons_zero]; all_goals go_simp; all_goals (try with_reducible rfl))); (try simp only [Act.put, List.getElem_toArray, List.getElem_cons_succ, List.getElem_cons_zero, List.setIfInBounds_toArray, List.set_cons_zero, List.set_cons_succ]); refine wpAnyH_ready (rs := [13]) (by kernel_rfl) (by simp) ?_; refine AllReadyH.cons (by rfl) (fun K hK => ?_) AllReadyH.nil; rw [if_pos (by kernel_rfl)]; simp only [List.getElem_toArray, List.getElem_cons_succ, List.getElem_cons_zero]; refine wp_store_mid 128 (Operand.tmp 3) (Operand.tmp 15) (by rfl) J 0 (rowL F).toArray (by rfl) (by rfl) (by rw [rowL_size]; exact HB2.out.2.1) (by rw [rowL_size]; exact infoDomS) (rowL_one F hF.out) ?_; generalize hW : World.setCells w2 _ _ _ = wF; have HF9 : Hid (Below wA.heap.size wA wF ∧ wF.rangeAt J 0 (rowL F) ∧ J < wF.heap.size) := Lib.hid (by rw [← hW]; refine ⟨nbelow_cells HB2.out.1 (HB2.out.2.2).1 _ _, World.rangeAt_setCells_same w2 J 0 (rowL F) (by rw [rowL_len]; exact HB2.out.2.1), ?_⟩; exact Nat.lt_of_lt_of_le (HB2.out.2.2).2 (nbelow_cells (Below.refl J w2) (Nat.le_refl J) _ _).size); clear hW; refine hK.out _ _ (HS1.out _ HF9.out.1) (fun hHeld => ?_); clear hK K; (try simp only [Act.put, List.getElem_toArray, List.getElem_cons_succ, List.getElem_cons_zero, List.setIfInBounds_toArray, List.set_cons_zero, List.set_cons_succ]); refine wpAnyH_take (i := 14) (v := ?_) (by rfl) (by kernel_rfl) (by kernel_rfl) (by kernel_rfl) (fun _ _ _ h => h) (Or.inl ⟨by kernel_rfl, ?_⟩) (by assumption) ?_; rotate_left 1; (focus (intro w hSw; (try dsimp only at hSw); simp only [List.getElem_toArray, List.getElem_cons_succ, List.getElem_cons_zero]; all_goals go_simp; all_goals (try with_reducible rfl))); (try simp only [Act.put, List.getElem_toArray, List.getElem_cons_succ, List.getElem_cons_zero, List.setIfInBounds_toArray, List.set_cons_zero, List.set_cons_succ]); refine wpAnyH_done (by kernel_rfl) ?_ _; refine NoPanic.normal ?_; go_wp2_with fail; go_meet; exact ⟨J, rfl, HF9.out.1, HF9.out.2.1, (HB2.out.2.2).1, HF9.out.2.2⟩
  case rest =>
    obtain ⟨J, rfl, hb, hr, hj0, hj1⟩ := hcut; have HX : Hid (Below wA.heap.size wA wc ∧ wc.rangeAt C 0 cs ∧ wc.rangeAt J 0 (rowL F) ∧ World.there wc R 0 19 ∧ R < wc.heap.size) := (Lib.hid ⟨hb, range_below HA.out.2.1 hb (Nat.lt_trans HA.out.2.2.2.1 HA.out.2.2.2.2), hr, nthere_below HA.out.2.2.1 hb HA.out.2.2.2.2, Nat.lt_of_lt_of_le HA.out.2.2.2.2 hb.size⟩); clear hb hr hj0 hj1; have q6 := CallC.cell HX.out.2.1 6 _ hc.out.c6; go_wp2_with (first | (refine wpList_load_mid (by rfl) _ _ (by rfl) C 0 (by rfl) cs _ HX.out.2.1 Tryz.underlying84 rfl (by rw [hc.out.len]; exact infoCall) ?_) | (refine wpList_load_mid (by rfl) _ _ (by rfl) J 0 (by rfl) (rowL F) _ HX.out.2.2.1 Tryz.underlying128 rfl (by rw [rowL_len]; exact infoDomS) ?_) | (go_at_call 85; (refine (HFn.out _ (HA.out.1.trans (HX.out.1.mono HA.out.1.size))).mono ?_); rintro e w5 ⟨rfl, hq, hu⟩; have H5 : Hid (Q w5 ∧ UpT N w w5) := Lib.hid ⟨hq, (UpT.below (HA.out.1.trans (HX.out.1.mono HA.out.1.size))).trans hu⟩; have HT5 : Hid (World.there w5 R 0 19) := Lib.hid (nthere_same HX.out.2.2.2.1 (hu.2 R (by have h1 := HA.out.2.2.2.1; have h2 := HCl.out; omega) HX.out.2.2.2.2)); clear hq hu) | (refine wpList_store_mid (by rfl) _ _ _ (by rfl) R 0 nt.toArray (by rfl) (by rfl) (by rw [hsz]; exact HT5.out) (by rw [hsz]; exact infoNote) (all_one hn1) ?_)); have hRn : w.heap.size ≤ R := (by have := HA.out.2.2.2.1; have := HCl.out; omega); generalize hS : World.setCells w5 _ _ _ = wS; have HS : Hid (Below w.heap.size w5 wS ∧ wS.rangeAt R 0 nt) := Lib.hid (by rw [← hS]; exact ⟨nbelow_cells (Below.refl _ _) hRn _ _, World.rangeAt_setCells_same w5 R 0 nt (by rw [hnl]; exact HT5.out)⟩); clear hS; have HQS := Lib.hid (HQ.out _ _ H5.out.1 (HS.out.1.mono hN)); have hld := nload hnl HS.out.2; refine bodyPost_ret (v := (.agg nt.toArray)) (by simp [results, Tryz.results55, Act.put, asAddr, hld]) rfl ⟨rfl, HQS.out, H5.out.2.low HS.out.1 (Nat.le_refl _)⟩
set_option maxRecDepth 100000 in
set_option maxHeartbeats 2000000 in
theorem cdom_6 (hc : Hid (CallC cs s k0 k1 k2 k3 k4 6 x)) (F : Nat → Value) (hF : Hid (∀ j, j < 107 → (F j).oneCell' = true)) (g : Bool) (w : World) (hs : w.cell? ⟨s, 1, none⟩ = some (.pointer (some ⟨d, 0, none⟩))) (hG : ∀ W, Below w.heap.size w W → Calls Tryz.prog 72 #[.pointer (some ⟨d, 0, none⟩), .int .i64 k1] W fun e w' => e = .returned (.tuple #[.agg (rowL F).toArray, .bool g]) ∧ Below W.heap.size W w') (hnl : nt.length = 19) (hn1 : ∀ v, v ∈ nt → v.oneCell' = true) (hN : N ≤ w.heap.size) (hQ : ∀ w1 w2, Q w1 → Below N w1 w2 → Q w2) (hFn : ∀ W, Below w.heap.size w W → Calls Tryz.prog 86 #[(.agg cs.toArray), .agg (rowL F).toArray] W fun e w' => e = .returned (.agg nt.toArray) ∧ Q w' ∧ UpT N W w') : Calls Tryz.prog 55 #[(.agg cs.toArray)] w fun e w' => e = .returned (.agg nt.toArray) ∧ Q w' ∧ UpT N w w' := by
  have HQ := Lib.hid hQ
  have HFn := Lib.hid hFn
  have hsz : nt.toArray.size = 19 := by simp [hnl]
  clear hQ hFn
  have HG := Lib.hid hG; have HSl : Hid (s < w.heap.size ∧ w.cell? ⟨s, 1, none⟩ = some (.pointer (some ⟨d, 0, none⟩))) := Lib.hid ⟨cell_lt hs, hs⟩; clear hG hs; go_enter Tryz.func55, Tryz.ntmps55; go_upto_region 1 with fail; generalize hA : World.alloc w _ = wK; obtain ⟨C, hC⟩ : ∃ C, C = w.heap.size := ⟨_, rfl⟩; have HK : Hid (Below w.heap.size w wK ∧ wK.rangeAt C 0 cs ∧ wK.heap.size = C + 1) := Lib.hid (by rw [← hA, hC]; exact ⟨(Below.refl _ _).alloc (Nat.le_refl _) _, cbox _ _ _, by simp⟩); have HCl : Hid (w.heap.size ≤ C) := Lib.hid (by rw [hC]; exact Nat.le_refl _); rw [← hC]; clear hA hC; generalize hA : World.alloc wK _ = wA; obtain ⟨R, hR⟩ : ∃ R, R = C + 1 := ⟨_, rfl⟩; have HA : Hid (Below w.heap.size w wA ∧ wA.rangeAt C 0 cs ∧ World.there wA R 0 19 ∧ C < R ∧ R < wA.heap.size) := Lib.hid (by rw [← hA, hR, ← HK.out.2.2]; exact ⟨HK.out.1.alloc HK.out.1.size _, range_below HK.out.2.1 ((Below.refl _ _).alloc (Nat.le_refl _) _) (by have := HK.out.2.2; omega), nthere_new _ _ 19 (by rfl) _, by have := HK.out.2.2; omega, by simp⟩); rw [← hR]; clear hA hR; have HS1 : Hid (∀ W, Below wA.heap.size wA W → (World.cell? W ⟨C, 0, none⟩ = some (.pointer (some ⟨s, 0, none⟩)) ∧ World.cell? W ⟨C, 2, none⟩ = some (.int .i64 k1) ∧ World.cell? W ⟨s, 1, none⟩ = some (.pointer (some ⟨d, 0, none⟩)))) := (Lib.hid (fun W hW => by have hr := range_below HA.out.2.1 hW (Nat.lt_trans HA.out.2.2.2.1 HA.out.2.2.2.2); exact ⟨CallC.cell hr 0 _ hc.out.c0, CallC.cell hr 2 _ hc.out.c2, ((HA.out.1.trans (hW.mono HA.out.1.size)).cell (p := ⟨s, 1, none⟩) HSl.out.1).trans HSl.out.2⟩))
  go_cut [3] (fun v wx => ∃ J : Nat, v = .pointer (some ⟨J, 0, none⟩) ∧ Below wA.heap.size wA wx ∧ wx.rangeAt J 0 (rowL F) ∧ wA.heap.size ≤ J ∧ J < wx.heap.size)
  case first =>
    obtain ⟨wD, hwD⟩ : ∃ wD, wD = wA.drew := ⟨_, rfl⟩; have HBd : Hid (Below wA.heap.size wA wD) := Lib.hid (by rw [hwD]; exact (Below.refl _ _).drew); refine wp_region_noPanic ?_; refine wp_region_held_drew (S := fun W => (World.cell? W ⟨C, 0, none⟩ = some (.pointer (some ⟨s, 0, none⟩)) ∧ World.cell? W ⟨C, 2, none⟩ = some (.int .i64 k1) ∧ World.cell? W ⟨s, 1, none⟩ = some (.pointer (some ⟨d, 0, none⟩)))) (by kernel_rfl) (by rw [← hwD]; exact HS1.out _ HBd.out) (fun hHeld => ?_); rw [← hwD] at hHeld ⊢; clear hwD; refine wpAnyH_take (i := 0) (v := ?_) (by rfl) (by kernel_rfl) (by kernel_rfl) (by kernel_rfl) (fun _ _ _ h => h) (Or.inl ⟨by kernel_rfl, ?_⟩) (by assumption) ?_; rotate_left 1; (focus (intro w hSw; (try dsimp only at hSw); simp only [List.getElem_toArray, List.getElem_cons_succ, List.getElem_cons_zero]; all_goals go_simp; all_goals (try with_reducible rfl))); (try simp only [Act.put, List.getElem_toArray, List.getElem_cons_succ, List.getElem_cons_zero, List.setIfInBounds_toArray, List.set_cons_zero, List.set_cons_succ]); refine wpAnyH_take (i := 1) (v := ?_) (by rfl) (by kernel_rfl) (by kernel_rfl) (by kernel_rfl) (fun _ _ _ h => h) (Or.inl ⟨by kernel_rfl, ?_⟩) (by assumption) ?_; rotate_left 1; (focus (intro w hSw; (try dsimp only at hSw); simp only [List.getElem_toArray, List.getElem_cons_succ, List.getElem_cons_zero]; all_goals go_simp; all_goals (try with_reducible rfl))); (try simp only [Act.put, List.getElem_toArray, List.getElem_cons_succ, List.getElem_cons_zero, List.setIfInBounds_toArray, List.set_cons_zero, List.set_cons_succ]); refine wpAnyH_take (i := 2) (v := ?_) (by rfl) (by kernel_rfl) (by kernel_rfl) (by kernel_rfl) (fun _ _ _ h => h) (Or.inl ⟨by kernel_rfl, ?_⟩) (by assumption) ?_; rotate_left 1; (focus (intro w hSw; (try dsimp only at hSw); simp only [List.getElem_toArray, List.getElem_cons_succ, List.getElem_cons_zero]; all_goals go_simp; all_goals (try with_reducible rfl))); (try simp only [Act.put, List.getElem_toArray, List.getElem_cons_succ, List.getElem_cons_zero, List.setIfInBounds_toArray, List.set_cons_zero, List.set_cons_succ]); refine wpAnyH_take (i := 3) (v := ?_) (by rfl) (by kernel_rfl) (by kernel_rfl) (by kernel_rfl) (fun _ _ _ h => h) (Or.inl ⟨by kernel_rfl, ?_⟩) (by assumption) ?_; rotate_left 1; (focus (intro w hSw; (try dsimp only at hSw); simp only [List.getElem_toArray, List.getElem_cons_succ, List.getElem_cons_zero]; all_goals go_simp; all_goals (try with_reducible rfl))); (try simp only [Act.put, List.getElem_toArray, List.getElem_cons_succ, List.getElem_cons_zero, List.setIfInBounds_toArray, List.set_cons_zero, List.set_cons_succ]); refine wpAnyH_take (i := 4) (v := ?_) (by rfl) (by kernel_rfl) (by kernel_rfl) (by kernel_rfl) (fun _ _ _ h => h) (Or.inl ⟨by kernel_rfl, ?_⟩) (by assumption) ?_; rotate_left 1; (focus (intro w hSw; (try dsimp only at hSw); simp only [List.getElem_toArray, List.getElem_cons_succ, List.getElem_cons_zero]; all_goals go_simp; all_goals (try with_reducible rfl))); (try simp only [Act.put, List.getElem_toArray, List.getElem_cons_succ, List.getElem_cons_zero, List.setIfInBounds_toArray, List.set_cons_zero, List.set_cons_succ]); refine wpAnyH_take (i := 5) (v := ?_) (by rfl) (by kernel_rfl) (by kernel_rfl) (by kernel_rfl) (fun _ _ _ h => h) (Or.inl ⟨by kernel_rfl, ?_⟩) (by assumption) ?_; rotate_left 1; (focus (intro w hSw; (try dsimp only at hSw); simp only [List.getElem_toArray, List.getElem_cons_succ, List.getElem_cons_zero]; all_goals go_simp; all_goals (try with_reducible rfl))); (try simp only [Act.put, List.getElem_toArray, List.getElem_cons_succ, List.getElem_cons_zero, List.setIfInBounds_toArray, List.set_cons_zero, List.set_cons_succ]); refine wpAnyH_take (i := 6) (v := ?_) (by rfl) (by kernel_rfl) (by kernel_rfl) (by kernel_rfl) (fun _ _ _ h => h) (Or.inl ⟨by kernel_rfl, ?_⟩) (by assumption) ?_; rotate_left 1; (focus (intro w hSw; (try dsimp only at hSw); simp only [List.getElem_toArray, List.getElem_cons_succ, List.getElem_cons_zero]; all_goals go_simp; all_goals (try with_reducible rfl))); (try simp only [Act.put, List.getElem_toArray, List.getElem_cons_succ, List.getElem_cons_zero, List.setIfInBounds_toArray, List.set_cons_zero, List.set_cons_succ]); refine wpAnyH_take (i := 7) (v := ?_) (by rfl) (by kernel_rfl) (by kernel_rfl) (by kernel_rfl) (fun _ _ _ h => h) (Or.inl ⟨by kernel_rfl, ?_⟩) (by assumption) ?_; rotate_left 1; (focus (intro w hSw; (try dsimp only at hSw); simp only [List.getElem_toArray, List.getElem_cons_succ, List.getElem_cons_zero]; all_goals go_simp; all_goals (try with_reducible rfl))); (try simp only [Act.put, List.getElem_toArray, List.getElem_cons_succ, List.getElem_cons_zero, List.setIfInBounds_toArray, List.set_cons_zero, List.set_cons_succ]); refine wpAnyH_ready (rs := [8, 12]) (by kernel_rfl) (by simp) ?_; refine AllReadyH.cons (by rfl) (fun K hK => ?_) (AllReadyH.cons (by rfl) (fun K hK => ?_) AllReadyH.nil)
    · rw [if_pos (by kernel_rfl)]; simp only [List.getElem_toArray, List.getElem_cons_succ, List.getElem_cons_zero]; go_wp2_with (first | (go_at_call 72; (with_reducible refine (HG.out _ (HA.out.1.trans (HBd.out.mono HA.out.1.size))).mono ?_); rintro e w2 ⟨rfl, hb⟩; have HB2 := Lib.hid (HBd.out.trans (hb.mono HBd.out.size)); clear hb)); refine hK.out _ _ (HS1.out _ HB2.out) (fun hHeld => ?_); clear hK K; (try simp only [Act.put, List.getElem_toArray, List.getElem_cons_succ, List.getElem_cons_zero, List.setIfInBounds_toArray, List.set_cons_zero, List.set_cons_succ]); refine wpAnyH_take (i := 9) (v := ?_) (by rfl) (by kernel_rfl) (by kernel_rfl) (by kernel_rfl) (fun _ _ _ h => h) (Or.inl ⟨by kernel_rfl, ?_⟩) (by assumption) ?_; rotate_left 1; (focus (intro w hSw; (try dsimp only at hSw); simp only [List.getElem_toArray, List.getElem_cons_succ, List.getElem_cons_zero]; all_goals go_simp; all_goals (try with_reducible rfl))); (try simp only [Act.put, List.getElem_toArray, List.getElem_cons_succ, List.getElem_cons_zero, List.setIfInBounds_toArray, List.set_cons_zero, List.set_cons_succ]); refine wpAnyH_take (i := 10) (v := ?_) (by rfl) (by kernel_rfl) (by kernel_rfl) (by kernel_rfl) (fun _ _ _ h => h) (Or.inl ⟨by kernel_rfl, ?_⟩) (by assumption) ?_; rotate_left 1; (focus (intro w hSw; (try dsimp only at hSw); simp only [List.getElem_toArray, List.getElem_cons_succ, List.getElem_cons_zero]; all_goals go_simp; all_goals (try with_reducible rfl))); (try simp only [Act.put, List.getElem_toArray, List.getElem_cons_succ, List.getElem_cons_zero, List.setIfInBounds_toArray, List.set_cons_zero, List.set_cons_succ]); refine wpAnyH_take (i := 11) (v := ?_) (by rfl) (by kernel_rfl) (by kernel_rfl) (by kernel_rfl) (fun _ _ _ h => h) (Or.inl ⟨by kernel_rfl, ?_⟩) (by assumption) ?_; rotate_left 1; (focus (intro w hSw; (try dsimp only at hSw); simp only [List.getElem_toArray, List.getElem_cons_succ, List.getElem_cons_zero]; all_goals go_simp; all_goals (try with_reducible rfl))); (try simp only [Act.put, List.getElem_toArray, List.getElem_cons_succ, List.getElem_cons_zero, List.setIfInBounds_toArray, List.set_cons_zero, List.set_cons_succ]); refine wpAnyH_ready (rs := [12]) (by kernel_rfl) (by simp) ?_; refine AllReadyH.cons (by rfl) (fun K hK => ?_) AllReadyH.nil; rw [if_pos (by kernel_rfl)]; simp only [List.getElem_toArray, List.getElem_cons_succ, List.getElem_cons_zero]; go_wp2_with fail; generalize hE : World.alloc w2 _ = wE; obtain ⟨J, hJ⟩ : ∃ J, J = w2.heap.size := ⟨_, rfl⟩; have HE : Hid (Below wA.heap.size wA wE ∧ World.there wE J 0 107 ∧ wA.heap.size ≤ J ∧ J < wE.heap.size) := Lib.hid (by rw [← hE, hJ]; exact ⟨(HB2.out).alloc (HB2.out).size _, nthere_new _ _ 107 zsize _, (HB2.out).size, by simp⟩); rw [← hJ]; clear hE hJ; refine hK.out _ _ (HS1.out _ HE.out.1) (fun hHeld => ?_); clear hK K; (try simp only [Act.put, List.getElem_toArray, List.getElem_cons_succ, List.getElem_cons_zero, List.setIfInBounds_toArray, List.set_cons_zero, List.set_cons_succ]); refine wpAnyH_ready (rs := [13]) (by kernel_rfl) (by simp) ?_; refine AllReadyH.cons (by rfl) (fun K hK => ?_) AllReadyH.nil; rw [if_pos (by kernel_rfl)]; simp only [List.getElem_toArray, List.getElem_cons_succ, List.getElem_cons_zero]; refine wp_store_mid 128 (Operand.tmp 3) (Operand.tmp 15) (by rfl) J 0 (rowL F).toArray (by rfl) (by rfl) (by rw [rowL_size]; exact HE.out.2.1) (by rw [rowL_size]; exact infoDomS) (rowL_one F hF.out) ?_; generalize hW : World.setCells wE _ _ _ = wF; have HF9 : Hid (Below wA.heap.size wA wF ∧ wF.rangeAt J 0 (rowL F) ∧ J < wF.heap.size) := Lib.hid (by rw [← hW]; refine ⟨nbelow_cells HE.out.1 (HE.out.2.2).1 _ _, World.rangeAt_setCells_same wE J 0 (rowL F) (by rw [rowL_len]; exact HE.out.2.1), ?_⟩; exact Nat.lt_of_lt_of_le (HE.out.2.2).2 (nbelow_cells (Below.refl J wE) (Nat.le_refl J) _ _).size); clear hW; refine hK.out _ _ (HS1.out _ HF9.out.1) (fun hHeld => ?_); clear hK K; (try simp only [Act.put, List.getElem_toArray, List.getElem_cons_succ, List.getElem_cons_zero, List.setIfInBounds_toArray, List.set_cons_zero, List.set_cons_succ]); refine wpAnyH_take (i := 14) (v := ?_) (by rfl) (by kernel_rfl) (by kernel_rfl) (by kernel_rfl) (fun _ _ _ h => h) (Or.inl ⟨by kernel_rfl, ?_⟩) (by assumption) ?_; rotate_left 1; (focus (intro w hSw; (try dsimp only at hSw); simp only [List.getElem_toArray, List.getElem_cons_succ, List.getElem_cons_zero]; all_goals go_simp; all_goals (try with_reducible rfl))); (try simp only [Act.put, List.getElem_toArray, List.getElem_cons_succ, List.getElem_cons_zero, List.setIfInBounds_toArray, List.set_cons_zero, List.set_cons_succ]); refine wpAnyH_done (by kernel_rfl) ?_ _; refine NoPanic.normal ?_; go_wp2_with fail; go_meet; exact ⟨J, rfl, HF9.out.1, HF9.out.2.1, (HE.out.2.2).1, HF9.out.2.2⟩
    · rw [if_pos (by kernel_rfl)]; simp only [List.getElem_toArray, List.getElem_cons_succ, List.getElem_cons_zero]; go_wp2_with fail; generalize hE : World.alloc wD _ = wE; obtain ⟨J, hJ⟩ : ∃ J, J = wD.heap.size := ⟨_, rfl⟩; have HE : Hid (Below wA.heap.size wA wE ∧ World.there wE J 0 107 ∧ wA.heap.size ≤ J ∧ J < wE.heap.size) := Lib.hid (by rw [← hE, hJ]; exact ⟨(HBd.out).alloc (HBd.out).size _, nthere_new _ _ 107 zsize _, (HBd.out).size, by simp⟩); rw [← hJ]; clear hE hJ; refine hK.out _ _ (HS1.out _ HE.out.1) (fun hHeld => ?_); clear hK K; (try simp only [Act.put, List.getElem_toArray, List.getElem_cons_succ, List.getElem_cons_zero, List.setIfInBounds_toArray, List.set_cons_zero, List.set_cons_succ]); refine wpAnyH_ready (rs := [8]) (by kernel_rfl) (by simp) ?_; refine AllReadyH.cons (by rfl) (fun K hK => ?_) AllReadyH.nil; rw [if_pos (by kernel_rfl)]; simp only [List.getElem_toArray, List.getElem_cons_succ, List.getElem_cons_zero]; go_wp2_with (first | (go_at_call 72; (with_reducible refine (HG.out _ (HA.out.1.trans (HE.out.1.mono HA.out.1.size))).mono ?_); rintro e w2 ⟨rfl, hb⟩; have HB2 : Hid (Below wA.heap.size wA w2 ∧ World.there w2 J 0 107 ∧ wA.heap.size ≤ J ∧ J < w2.heap.size) := Lib.hid ⟨HE.out.1.trans (hb.mono HE.out.1.size), nthere_below HE.out.2.1 hb HE.out.2.2.2, HE.out.2.2.1, Nat.lt_of_lt_of_le HE.out.2.2.2 hb.size⟩; clear hb)); refine hK.out _ _ (HS1.out _ HB2.out.1) (fun hHeld => ?_); clear hK K; (try simp only [Act.put, List.getElem_toArray, List.getElem_cons_succ, List.getElem_cons_zero, List.setIfInBounds_toArray, List.set_cons_zero, List.set_cons_succ]); refine wpAnyH_take (i := 9) (v := ?_) (by rfl) (by kernel_rfl) (by kernel_rfl) (by kernel_rfl) (fun _ _ _ h => h) (Or.inl ⟨by kernel_rfl, ?_⟩) (by assumption) ?_; rotate_left 1; (focus (intro w hSw; (try dsimp only at hSw); simp only [List.getElem_toArray, List.getElem_cons_succ, List.getElem_cons_zero]; all_goals go_simp; all_goals (try with_reducible rfl))); (try simp only [Act.put, List.getElem_toArray, List.getElem_cons_succ, List.getElem_cons_zero, List.setIfInBounds_toArray, List.set_cons_zero, List.set_cons_succ]); refine wpAnyH_take (i := 10) (v := ?_) (by rfl) (by kernel_rfl) (by kernel_rfl) (by kernel_rfl) (fun _ _ _ h => h) (Or.inl ⟨by kernel_rfl, ?_⟩) (by assumption) ?_; rotate_left 1; (focus (intro w hSw; (try dsimp only at hSw); simp only [List.getElem_toArray, List.getElem_cons_succ, List.getElem_cons_zero]; all_goals go_simp; all_goals (try with_reducible rfl))); (try simp only [Act.put, List.getElem_toArray, List.getElem_cons_succ, List.getElem_cons_zero, List.setIfInBounds_toArray, List.set_cons_zero, List.set_cons_succ]); refine wpAnyH_take (i := 11) (v := ?_) (by rfl) (by kernel_rfl) (by kernel_rfl) (by kernel_rfl) (fun _ _ _ h => h) (Or.inl ⟨by kernel_rfl, ?_⟩) (by assumption) ?_; rotate_left 1; (focus (intro w hSw; (try dsimp only at hSw); simp only [List.getElem_toArray, List.getElem_cons_succ, List.getElem_cons_zero]; all_goals go_simp; all_goals (try with_reducible rfl))); (try simp only [Act.put, List.getElem_toArray, List.getElem_cons_succ, List.getElem_cons_zero, List.setIfInBounds_toArray, List.set_cons_zero, List.set_cons_succ]); refine wpAnyH_ready (rs := [13]) (by kernel_rfl) (by simp) ?_; refine AllReadyH.cons (by rfl) (fun K hK => ?_) AllReadyH.nil; rw [if_pos (by kernel_rfl)]; simp only [List.getElem_toArray, List.getElem_cons_succ, List.getElem_cons_zero]; refine wp_store_mid 128 (Operand.tmp 3) (Operand.tmp 15) (by rfl) J 0 (rowL F).toArray (by rfl) (by rfl) (by rw [rowL_size]; exact HB2.out.2.1) (by rw [rowL_size]; exact infoDomS) (rowL_one F hF.out) ?_; generalize hW : World.setCells w2 _ _ _ = wF; have HF9 : Hid (Below wA.heap.size wA wF ∧ wF.rangeAt J 0 (rowL F) ∧ J < wF.heap.size) := Lib.hid (by rw [← hW]; refine ⟨nbelow_cells HB2.out.1 (HB2.out.2.2).1 _ _, World.rangeAt_setCells_same w2 J 0 (rowL F) (by rw [rowL_len]; exact HB2.out.2.1), ?_⟩; exact Nat.lt_of_lt_of_le (HB2.out.2.2).2 (nbelow_cells (Below.refl J w2) (Nat.le_refl J) _ _).size); clear hW; refine hK.out _ _ (HS1.out _ HF9.out.1) (fun hHeld => ?_); clear hK K; (try simp only [Act.put, List.getElem_toArray, List.getElem_cons_succ, List.getElem_cons_zero, List.setIfInBounds_toArray, List.set_cons_zero, List.set_cons_succ]); refine wpAnyH_take (i := 14) (v := ?_) (by rfl) (by kernel_rfl) (by kernel_rfl) (by kernel_rfl) (fun _ _ _ h => h) (Or.inl ⟨by kernel_rfl, ?_⟩) (by assumption) ?_; rotate_left 1; (focus (intro w hSw; (try dsimp only at hSw); simp only [List.getElem_toArray, List.getElem_cons_succ, List.getElem_cons_zero]; all_goals go_simp; all_goals (try with_reducible rfl))); (try simp only [Act.put, List.getElem_toArray, List.getElem_cons_succ, List.getElem_cons_zero, List.setIfInBounds_toArray, List.set_cons_zero, List.set_cons_succ]); refine wpAnyH_done (by kernel_rfl) ?_ _; refine NoPanic.normal ?_; go_wp2_with fail; go_meet; exact ⟨J, rfl, HF9.out.1, HF9.out.2.1, (HB2.out.2.2).1, HF9.out.2.2⟩
  case rest =>
    obtain ⟨J, rfl, hb, hr, hj0, hj1⟩ := hcut; have HX : Hid (Below wA.heap.size wA wc ∧ wc.rangeAt C 0 cs ∧ wc.rangeAt J 0 (rowL F) ∧ World.there wc R 0 19 ∧ R < wc.heap.size) := (Lib.hid ⟨hb, range_below HA.out.2.1 hb (Nat.lt_trans HA.out.2.2.2.1 HA.out.2.2.2.2), hr, nthere_below HA.out.2.2.1 hb HA.out.2.2.2.2, Nat.lt_of_lt_of_le HA.out.2.2.2.2 hb.size⟩); clear hb hr hj0 hj1; have q6 := CallC.cell HX.out.2.1 6 _ hc.out.c6; go_wp2_with (first | (refine wpList_load_mid (by rfl) _ _ (by rfl) C 0 (by rfl) cs _ HX.out.2.1 Tryz.underlying84 rfl (by rw [hc.out.len]; exact infoCall) ?_) | (refine wpList_load_mid (by rfl) _ _ (by rfl) J 0 (by rfl) (rowL F) _ HX.out.2.2.1 Tryz.underlying128 rfl (by rw [rowL_len]; exact infoDomS) ?_) | (go_at_call 86; (refine (HFn.out _ (HA.out.1.trans (HX.out.1.mono HA.out.1.size))).mono ?_); rintro e w5 ⟨rfl, hq, hu⟩; have H5 : Hid (Q w5 ∧ UpT N w w5) := Lib.hid ⟨hq, (UpT.below (HA.out.1.trans (HX.out.1.mono HA.out.1.size))).trans hu⟩; have HT5 : Hid (World.there w5 R 0 19) := Lib.hid (nthere_same HX.out.2.2.2.1 (hu.2 R (by have h1 := HA.out.2.2.2.1; have h2 := HCl.out; omega) HX.out.2.2.2.2)); clear hq hu) | (refine wpList_store_mid (by rfl) _ _ _ (by rfl) R 0 nt.toArray (by rfl) (by rfl) (by rw [hsz]; exact HT5.out) (by rw [hsz]; exact infoNote) (all_one hn1) ?_)); have hRn : w.heap.size ≤ R := (by have := HA.out.2.2.2.1; have := HCl.out; omega); generalize hS : World.setCells w5 _ _ _ = wS; have HS : Hid (Below w.heap.size w5 wS ∧ wS.rangeAt R 0 nt) := Lib.hid (by rw [← hS]; exact ⟨nbelow_cells (Below.refl _ _) hRn _ _, World.rangeAt_setCells_same w5 R 0 nt (by rw [hnl]; exact HT5.out)⟩); clear hS; have HQS := Lib.hid (HQ.out _ _ H5.out.1 (HS.out.1.mono hN)); have hld := nload hnl HS.out.2; refine bodyPost_ret (v := (.agg nt.toArray)) (by simp [results, Tryz.results55, Act.put, asAddr, hld]) rfl ⟨rfl, HQS.out, H5.out.2.low HS.out.1 (Nat.le_refl _)⟩
set_option maxRecDepth 100000 in
set_option maxHeartbeats 2000000 in
theorem cdom_7 (hc : Hid (CallC cs s k0 k1 k2 k3 k4 7 x)) (F : Nat → Value) (hF : Hid (∀ j, j < 107 → (F j).oneCell' = true)) (g : Bool) (w : World) (hs : w.cell? ⟨s, 1, none⟩ = some (.pointer (some ⟨d, 0, none⟩))) (hG : ∀ W, Below w.heap.size w W → Calls Tryz.prog 72 #[.pointer (some ⟨d, 0, none⟩), .int .i64 k1] W fun e w' => e = .returned (.tuple #[.agg (rowL F).toArray, .bool g]) ∧ Below W.heap.size W w') (hnl : nt.length = 19) (hn1 : ∀ v, v ∈ nt → v.oneCell' = true) (hN : N ≤ w.heap.size) (hQ : ∀ w1 w2, Q w1 → Below N w1 w2 → Q w2) (hFn : ∀ W, Below w.heap.size w W → Calls Tryz.prog 87 #[(.agg cs.toArray), .agg (rowL F).toArray] W fun e w' => e = .returned (.agg nt.toArray) ∧ Q w' ∧ UpT N W w') : Calls Tryz.prog 55 #[(.agg cs.toArray)] w fun e w' => e = .returned (.agg nt.toArray) ∧ Q w' ∧ UpT N w w' := by
  have HQ := Lib.hid hQ
  have HFn := Lib.hid hFn
  have hsz : nt.toArray.size = 19 := by simp [hnl]
  clear hQ hFn
  have HG := Lib.hid hG; have HSl : Hid (s < w.heap.size ∧ w.cell? ⟨s, 1, none⟩ = some (.pointer (some ⟨d, 0, none⟩))) := Lib.hid ⟨cell_lt hs, hs⟩; clear hG hs; go_enter Tryz.func55, Tryz.ntmps55; go_upto_region 1 with fail; generalize hA : World.alloc w _ = wK; obtain ⟨C, hC⟩ : ∃ C, C = w.heap.size := ⟨_, rfl⟩; have HK : Hid (Below w.heap.size w wK ∧ wK.rangeAt C 0 cs ∧ wK.heap.size = C + 1) := Lib.hid (by rw [← hA, hC]; exact ⟨(Below.refl _ _).alloc (Nat.le_refl _) _, cbox _ _ _, by simp⟩); have HCl : Hid (w.heap.size ≤ C) := Lib.hid (by rw [hC]; exact Nat.le_refl _); rw [← hC]; clear hA hC; generalize hA : World.alloc wK _ = wA; obtain ⟨R, hR⟩ : ∃ R, R = C + 1 := ⟨_, rfl⟩; have HA : Hid (Below w.heap.size w wA ∧ wA.rangeAt C 0 cs ∧ World.there wA R 0 19 ∧ C < R ∧ R < wA.heap.size) := Lib.hid (by rw [← hA, hR, ← HK.out.2.2]; exact ⟨HK.out.1.alloc HK.out.1.size _, range_below HK.out.2.1 ((Below.refl _ _).alloc (Nat.le_refl _) _) (by have := HK.out.2.2; omega), nthere_new _ _ 19 (by rfl) _, by have := HK.out.2.2; omega, by simp⟩); rw [← hR]; clear hA hR; have HS1 : Hid (∀ W, Below wA.heap.size wA W → (World.cell? W ⟨C, 0, none⟩ = some (.pointer (some ⟨s, 0, none⟩)) ∧ World.cell? W ⟨C, 2, none⟩ = some (.int .i64 k1) ∧ World.cell? W ⟨s, 1, none⟩ = some (.pointer (some ⟨d, 0, none⟩)))) := (Lib.hid (fun W hW => by have hr := range_below HA.out.2.1 hW (Nat.lt_trans HA.out.2.2.2.1 HA.out.2.2.2.2); exact ⟨CallC.cell hr 0 _ hc.out.c0, CallC.cell hr 2 _ hc.out.c2, ((HA.out.1.trans (hW.mono HA.out.1.size)).cell (p := ⟨s, 1, none⟩) HSl.out.1).trans HSl.out.2⟩))
  go_cut [3] (fun v wx => ∃ J : Nat, v = .pointer (some ⟨J, 0, none⟩) ∧ Below wA.heap.size wA wx ∧ wx.rangeAt J 0 (rowL F) ∧ wA.heap.size ≤ J ∧ J < wx.heap.size)
  case first =>
    obtain ⟨wD, hwD⟩ : ∃ wD, wD = wA.drew := ⟨_, rfl⟩; have HBd : Hid (Below wA.heap.size wA wD) := Lib.hid (by rw [hwD]; exact (Below.refl _ _).drew); refine wp_region_noPanic ?_; refine wp_region_held_drew (S := fun W => (World.cell? W ⟨C, 0, none⟩ = some (.pointer (some ⟨s, 0, none⟩)) ∧ World.cell? W ⟨C, 2, none⟩ = some (.int .i64 k1) ∧ World.cell? W ⟨s, 1, none⟩ = some (.pointer (some ⟨d, 0, none⟩)))) (by kernel_rfl) (by rw [← hwD]; exact HS1.out _ HBd.out) (fun hHeld => ?_); rw [← hwD] at hHeld ⊢; clear hwD; refine wpAnyH_take (i := 0) (v := ?_) (by rfl) (by kernel_rfl) (by kernel_rfl) (by kernel_rfl) (fun _ _ _ h => h) (Or.inl ⟨by kernel_rfl, ?_⟩) (by assumption) ?_; rotate_left 1; (focus (intro w hSw; (try dsimp only at hSw); simp only [List.getElem_toArray, List.getElem_cons_succ, List.getElem_cons_zero]; all_goals go_simp; all_goals (try with_reducible rfl))); (try simp only [Act.put, List.getElem_toArray, List.getElem_cons_succ, List.getElem_cons_zero, List.setIfInBounds_toArray, List.set_cons_zero, List.set_cons_succ]); refine wpAnyH_take (i := 1) (v := ?_) (by rfl) (by kernel_rfl) (by kernel_rfl) (by kernel_rfl) (fun _ _ _ h => h) (Or.inl ⟨by kernel_rfl, ?_⟩) (by assumption) ?_; rotate_left 1; (focus (intro w hSw; (try dsimp only at hSw); simp only [List.getElem_toArray, List.getElem_cons_succ, List.getElem_cons_zero]; all_goals go_simp; all_goals (try with_reducible rfl))); (try simp only [Act.put, List.getElem_toArray, List.getElem_cons_succ, List.getElem_cons_zero, List.setIfInBounds_toArray, List.set_cons_zero, List.set_cons_succ]); refine wpAnyH_take (i := 2) (v := ?_) (by rfl) (by kernel_rfl) (by kernel_rfl) (by kernel_rfl) (fun _ _ _ h => h) (Or.inl ⟨by kernel_rfl, ?_⟩) (by assumption) ?_; rotate_left 1; (focus (intro w hSw; (try dsimp only at hSw); simp only [List.getElem_toArray, List.getElem_cons_succ, List.getElem_cons_zero]; all_goals go_simp; all_goals (try with_reducible rfl))); (try simp only [Act.put, List.getElem_toArray, List.getElem_cons_succ, List.getElem_cons_zero, List.setIfInBounds_toArray, List.set_cons_zero, List.set_cons_succ]); refine wpAnyH_take (i := 3) (v := ?_) (by rfl) (by kernel_rfl) (by kernel_rfl) (by kernel_rfl) (fun _ _ _ h => h) (Or.inl ⟨by kernel_rfl, ?_⟩) (by assumption) ?_; rotate_left 1; (focus (intro w hSw; (try dsimp only at hSw); simp only [List.getElem_toArray, List.getElem_cons_succ, List.getElem_cons_zero]; all_goals go_simp; all_goals (try with_reducible rfl))); (try simp only [Act.put, List.getElem_toArray, List.getElem_cons_succ, List.getElem_cons_zero, List.setIfInBounds_toArray, List.set_cons_zero, List.set_cons_succ]); refine wpAnyH_take (i := 4) (v := ?_) (by rfl) (by kernel_rfl) (by kernel_rfl) (by kernel_rfl) (fun _ _ _ h => h) (Or.inl ⟨by kernel_rfl, ?_⟩) (by assumption) ?_; rotate_left 1; (focus (intro w hSw; (try dsimp only at hSw); simp only [List.getElem_toArray, List.getElem_cons_succ, List.getElem_cons_zero]; all_goals go_simp; all_goals (try with_reducible rfl))); (try simp only [Act.put, List.getElem_toArray, List.getElem_cons_succ, List.getElem_cons_zero, List.setIfInBounds_toArray, List.set_cons_zero, List.set_cons_succ]); refine wpAnyH_take (i := 5) (v := ?_) (by rfl) (by kernel_rfl) (by kernel_rfl) (by kernel_rfl) (fun _ _ _ h => h) (Or.inl ⟨by kernel_rfl, ?_⟩) (by assumption) ?_; rotate_left 1; (focus (intro w hSw; (try dsimp only at hSw); simp only [List.getElem_toArray, List.getElem_cons_succ, List.getElem_cons_zero]; all_goals go_simp; all_goals (try with_reducible rfl))); (try simp only [Act.put, List.getElem_toArray, List.getElem_cons_succ, List.getElem_cons_zero, List.setIfInBounds_toArray, List.set_cons_zero, List.set_cons_succ]); refine wpAnyH_take (i := 6) (v := ?_) (by rfl) (by kernel_rfl) (by kernel_rfl) (by kernel_rfl) (fun _ _ _ h => h) (Or.inl ⟨by kernel_rfl, ?_⟩) (by assumption) ?_; rotate_left 1; (focus (intro w hSw; (try dsimp only at hSw); simp only [List.getElem_toArray, List.getElem_cons_succ, List.getElem_cons_zero]; all_goals go_simp; all_goals (try with_reducible rfl))); (try simp only [Act.put, List.getElem_toArray, List.getElem_cons_succ, List.getElem_cons_zero, List.setIfInBounds_toArray, List.set_cons_zero, List.set_cons_succ]); refine wpAnyH_take (i := 7) (v := ?_) (by rfl) (by kernel_rfl) (by kernel_rfl) (by kernel_rfl) (fun _ _ _ h => h) (Or.inl ⟨by kernel_rfl, ?_⟩) (by assumption) ?_; rotate_left 1; (focus (intro w hSw; (try dsimp only at hSw); simp only [List.getElem_toArray, List.getElem_cons_succ, List.getElem_cons_zero]; all_goals go_simp; all_goals (try with_reducible rfl))); (try simp only [Act.put, List.getElem_toArray, List.getElem_cons_succ, List.getElem_cons_zero, List.setIfInBounds_toArray, List.set_cons_zero, List.set_cons_succ]); refine wpAnyH_ready (rs := [8, 12]) (by kernel_rfl) (by simp) ?_; refine AllReadyH.cons (by rfl) (fun K hK => ?_) (AllReadyH.cons (by rfl) (fun K hK => ?_) AllReadyH.nil)
    · rw [if_pos (by kernel_rfl)]; simp only [List.getElem_toArray, List.getElem_cons_succ, List.getElem_cons_zero]; go_wp2_with (first | (go_at_call 72; (with_reducible refine (HG.out _ (HA.out.1.trans (HBd.out.mono HA.out.1.size))).mono ?_); rintro e w2 ⟨rfl, hb⟩; have HB2 := Lib.hid (HBd.out.trans (hb.mono HBd.out.size)); clear hb)); refine hK.out _ _ (HS1.out _ HB2.out) (fun hHeld => ?_); clear hK K; (try simp only [Act.put, List.getElem_toArray, List.getElem_cons_succ, List.getElem_cons_zero, List.setIfInBounds_toArray, List.set_cons_zero, List.set_cons_succ]); refine wpAnyH_take (i := 9) (v := ?_) (by rfl) (by kernel_rfl) (by kernel_rfl) (by kernel_rfl) (fun _ _ _ h => h) (Or.inl ⟨by kernel_rfl, ?_⟩) (by assumption) ?_; rotate_left 1; (focus (intro w hSw; (try dsimp only at hSw); simp only [List.getElem_toArray, List.getElem_cons_succ, List.getElem_cons_zero]; all_goals go_simp; all_goals (try with_reducible rfl))); (try simp only [Act.put, List.getElem_toArray, List.getElem_cons_succ, List.getElem_cons_zero, List.setIfInBounds_toArray, List.set_cons_zero, List.set_cons_succ]); refine wpAnyH_take (i := 10) (v := ?_) (by rfl) (by kernel_rfl) (by kernel_rfl) (by kernel_rfl) (fun _ _ _ h => h) (Or.inl ⟨by kernel_rfl, ?_⟩) (by assumption) ?_; rotate_left 1; (focus (intro w hSw; (try dsimp only at hSw); simp only [List.getElem_toArray, List.getElem_cons_succ, List.getElem_cons_zero]; all_goals go_simp; all_goals (try with_reducible rfl))); (try simp only [Act.put, List.getElem_toArray, List.getElem_cons_succ, List.getElem_cons_zero, List.setIfInBounds_toArray, List.set_cons_zero, List.set_cons_succ]); refine wpAnyH_take (i := 11) (v := ?_) (by rfl) (by kernel_rfl) (by kernel_rfl) (by kernel_rfl) (fun _ _ _ h => h) (Or.inl ⟨by kernel_rfl, ?_⟩) (by assumption) ?_; rotate_left 1; (focus (intro w hSw; (try dsimp only at hSw); simp only [List.getElem_toArray, List.getElem_cons_succ, List.getElem_cons_zero]; all_goals go_simp; all_goals (try with_reducible rfl))); (try simp only [Act.put, List.getElem_toArray, List.getElem_cons_succ, List.getElem_cons_zero, List.setIfInBounds_toArray, List.set_cons_zero, List.set_cons_succ]); refine wpAnyH_ready (rs := [12]) (by kernel_rfl) (by simp) ?_; refine AllReadyH.cons (by rfl) (fun K hK => ?_) AllReadyH.nil; rw [if_pos (by kernel_rfl)]; simp only [List.getElem_toArray, List.getElem_cons_succ, List.getElem_cons_zero]; go_wp2_with fail; generalize hE : World.alloc w2 _ = wE; obtain ⟨J, hJ⟩ : ∃ J, J = w2.heap.size := ⟨_, rfl⟩; have HE : Hid (Below wA.heap.size wA wE ∧ World.there wE J 0 107 ∧ wA.heap.size ≤ J ∧ J < wE.heap.size) := Lib.hid (by rw [← hE, hJ]; exact ⟨(HB2.out).alloc (HB2.out).size _, nthere_new _ _ 107 zsize _, (HB2.out).size, by simp⟩); rw [← hJ]; clear hE hJ; refine hK.out _ _ (HS1.out _ HE.out.1) (fun hHeld => ?_); clear hK K; (try simp only [Act.put, List.getElem_toArray, List.getElem_cons_succ, List.getElem_cons_zero, List.setIfInBounds_toArray, List.set_cons_zero, List.set_cons_succ]); refine wpAnyH_ready (rs := [13]) (by kernel_rfl) (by simp) ?_; refine AllReadyH.cons (by rfl) (fun K hK => ?_) AllReadyH.nil; rw [if_pos (by kernel_rfl)]; simp only [List.getElem_toArray, List.getElem_cons_succ, List.getElem_cons_zero]; refine wp_store_mid 128 (Operand.tmp 3) (Operand.tmp 15) (by rfl) J 0 (rowL F).toArray (by rfl) (by rfl) (by rw [rowL_size]; exact HE.out.2.1) (by rw [rowL_size]; exact infoDomS) (rowL_one F hF.out) ?_; generalize hW : World.setCells wE _ _ _ = wF; have HF9 : Hid (Below wA.heap.size wA wF ∧ wF.rangeAt J 0 (rowL F) ∧ J < wF.heap.size) := Lib.hid (by rw [← hW]; refine ⟨nbelow_cells HE.out.1 (HE.out.2.2).1 _ _, World.rangeAt_setCells_same wE J 0 (rowL F) (by rw [rowL_len]; exact HE.out.2.1), ?_⟩; exact Nat.lt_of_lt_of_le (HE.out.2.2).2 (nbelow_cells (Below.refl J wE) (Nat.le_refl J) _ _).size); clear hW; refine hK.out _ _ (HS1.out _ HF9.out.1) (fun hHeld => ?_); clear hK K; (try simp only [Act.put, List.getElem_toArray, List.getElem_cons_succ, List.getElem_cons_zero, List.setIfInBounds_toArray, List.set_cons_zero, List.set_cons_succ]); refine wpAnyH_take (i := 14) (v := ?_) (by rfl) (by kernel_rfl) (by kernel_rfl) (by kernel_rfl) (fun _ _ _ h => h) (Or.inl ⟨by kernel_rfl, ?_⟩) (by assumption) ?_; rotate_left 1; (focus (intro w hSw; (try dsimp only at hSw); simp only [List.getElem_toArray, List.getElem_cons_succ, List.getElem_cons_zero]; all_goals go_simp; all_goals (try with_reducible rfl))); (try simp only [Act.put, List.getElem_toArray, List.getElem_cons_succ, List.getElem_cons_zero, List.setIfInBounds_toArray, List.set_cons_zero, List.set_cons_succ]); refine wpAnyH_done (by kernel_rfl) ?_ _; refine NoPanic.normal ?_; go_wp2_with fail; go_meet; exact ⟨J, rfl, HF9.out.1, HF9.out.2.1, (HE.out.2.2).1, HF9.out.2.2⟩
    · rw [if_pos (by kernel_rfl)]; simp only [List.getElem_toArray, List.getElem_cons_succ, List.getElem_cons_zero]; go_wp2_with fail; generalize hE : World.alloc wD _ = wE; obtain ⟨J, hJ⟩ : ∃ J, J = wD.heap.size := ⟨_, rfl⟩; have HE : Hid (Below wA.heap.size wA wE ∧ World.there wE J 0 107 ∧ wA.heap.size ≤ J ∧ J < wE.heap.size) := Lib.hid (by rw [← hE, hJ]; exact ⟨(HBd.out).alloc (HBd.out).size _, nthere_new _ _ 107 zsize _, (HBd.out).size, by simp⟩); rw [← hJ]; clear hE hJ; refine hK.out _ _ (HS1.out _ HE.out.1) (fun hHeld => ?_); clear hK K; (try simp only [Act.put, List.getElem_toArray, List.getElem_cons_succ, List.getElem_cons_zero, List.setIfInBounds_toArray, List.set_cons_zero, List.set_cons_succ]); refine wpAnyH_ready (rs := [8]) (by kernel_rfl) (by simp) ?_; refine AllReadyH.cons (by rfl) (fun K hK => ?_) AllReadyH.nil; rw [if_pos (by kernel_rfl)]; simp only [List.getElem_toArray, List.getElem_cons_succ, List.getElem_cons_zero]; go_wp2_with (first | (go_at_call 72; (with_reducible refine (HG.out _ (HA.out.1.trans (HE.out.1.mono HA.out.1.size))).mono ?_); rintro e w2 ⟨rfl, hb⟩; have HB2 : Hid (Below wA.heap.size wA w2 ∧ World.there w2 J 0 107 ∧ wA.heap.size ≤ J ∧ J < w2.heap.size) := Lib.hid ⟨HE.out.1.trans (hb.mono HE.out.1.size), nthere_below HE.out.2.1 hb HE.out.2.2.2, HE.out.2.2.1, Nat.lt_of_lt_of_le HE.out.2.2.2 hb.size⟩; clear hb)); refine hK.out _ _ (HS1.out _ HB2.out.1) (fun hHeld => ?_); clear hK K; (try simp only [Act.put, List.getElem_toArray, List.getElem_cons_succ, List.getElem_cons_zero, List.setIfInBounds_toArray, List.set_cons_zero, List.set_cons_succ]); refine wpAnyH_take (i := 9) (v := ?_) (by rfl) (by kernel_rfl) (by kernel_rfl) (by kernel_rfl) (fun _ _ _ h => h) (Or.inl ⟨by kernel_rfl, ?_⟩) (by assumption) ?_; rotate_left 1; (focus (intro w hSw; (try dsimp only at hSw); simp only [List.getElem_toArray, List.getElem_cons_succ, List.getElem_cons_zero]; all_goals go_simp; all_goals (try with_reducible rfl))); (try simp only [Act.put, List.getElem_toArray, List.getElem_cons_succ, List.getElem_cons_zero, List.setIfInBounds_toArray, List.set_cons_zero, List.set_cons_succ]); refine wpAnyH_take (i := 10) (v := ?_) (by rfl) (by kernel_rfl) (by kernel_rfl) (by kernel_rfl) (fun _ _ _ h => h) (Or.inl ⟨by kernel_rfl, ?_⟩) (by assumption) ?_; rotate_left 1; (focus (intro w hSw; (try dsimp only at hSw); simp only [List.getElem_toArray, List.getElem_cons_succ, List.getElem_cons_zero]; all_goals go_simp; all_goals (try with_reducible rfl))); (try simp only [Act.put, List.getElem_toArray, List.getElem_cons_succ, List.getElem_cons_zero, List.setIfInBounds_toArray, List.set_cons_zero, List.set_cons_succ]); refine wpAnyH_take (i := 11) (v := ?_) (by rfl) (by kernel_rfl) (by kernel_rfl) (by kernel_rfl) (fun _ _ _ h => h) (Or.inl ⟨by kernel_rfl, ?_⟩) (by assumption) ?_; rotate_left 1; (focus (intro w hSw; (try dsimp only at hSw); simp only [List.getElem_toArray, List.getElem_cons_succ, List.getElem_cons_zero]; all_goals go_simp; all_goals (try with_reducible rfl))); (try simp only [Act.put, List.getElem_toArray, List.getElem_cons_succ, List.getElem_cons_zero, List.setIfInBounds_toArray, List.set_cons_zero, List.set_cons_succ]); refine wpAnyH_ready (rs := [13]) (by kernel_rfl) (by simp) ?_; refine AllReadyH.cons (by rfl) (fun K hK => ?_) AllReadyH.nil; rw [if_pos (by kernel_rfl)]; simp only [List.getElem_toArray, List.getElem_cons_succ, List.getElem_cons_zero]; refine wp_store_mid 128 (Operand.tmp 3) (Operand.tmp 15) (by rfl) J 0 (rowL F).toArray (by rfl) (by rfl) (by rw [rowL_size]; exact HB2.out.2.1) (by rw [rowL_size]; exact infoDomS) (rowL_one F hF.out) ?_; generalize hW : World.setCells w2 _ _ _ = wF; have HF9 : Hid (Below wA.heap.size wA wF ∧ wF.rangeAt J 0 (rowL F) ∧ J < wF.heap.size) := Lib.hid (by rw [← hW]; refine ⟨nbelow_cells HB2.out.1 (HB2.out.2.2).1 _ _, World.rangeAt_setCells_same w2 J 0 (rowL F) (by rw [rowL_len]; exact HB2.out.2.1), ?_⟩; exact Nat.lt_of_lt_of_le (HB2.out.2.2).2 (nbelow_cells (Below.refl J w2) (Nat.le_refl J) _ _).size); clear hW; refine hK.out _ _ (HS1.out _ HF9.out.1) (fun hHeld => ?_); clear hK K; (try simp only [Act.put, List.getElem_toArray, List.getElem_cons_succ, List.getElem_cons_zero, List.setIfInBounds_toArray, List.set_cons_zero, List.set_cons_succ]); refine wpAnyH_take (i := 14) (v := ?_) (by rfl) (by kernel_rfl) (by kernel_rfl) (by kernel_rfl) (fun _ _ _ h => h) (Or.inl ⟨by kernel_rfl, ?_⟩) (by assumption) ?_; rotate_left 1; (focus (intro w hSw; (try dsimp only at hSw); simp only [List.getElem_toArray, List.getElem_cons_succ, List.getElem_cons_zero]; all_goals go_simp; all_goals (try with_reducible rfl))); (try simp only [Act.put, List.getElem_toArray, List.getElem_cons_succ, List.getElem_cons_zero, List.setIfInBounds_toArray, List.set_cons_zero, List.set_cons_succ]); refine wpAnyH_done (by kernel_rfl) ?_ _; refine NoPanic.normal ?_; go_wp2_with fail; go_meet; exact ⟨J, rfl, HF9.out.1, HF9.out.2.1, (HB2.out.2.2).1, HF9.out.2.2⟩
  case rest =>
    obtain ⟨J, rfl, hb, hr, hj0, hj1⟩ := hcut; have HX : Hid (Below wA.heap.size wA wc ∧ wc.rangeAt C 0 cs ∧ wc.rangeAt J 0 (rowL F) ∧ World.there wc R 0 19 ∧ R < wc.heap.size) := (Lib.hid ⟨hb, range_below HA.out.2.1 hb (Nat.lt_trans HA.out.2.2.2.1 HA.out.2.2.2.2), hr, nthere_below HA.out.2.2.1 hb HA.out.2.2.2.2, Nat.lt_of_lt_of_le HA.out.2.2.2.2 hb.size⟩); clear hb hr hj0 hj1; have q6 := CallC.cell HX.out.2.1 6 _ hc.out.c6; go_wp2_with (first | (refine wpList_load_mid (by rfl) _ _ (by rfl) C 0 (by rfl) cs _ HX.out.2.1 Tryz.underlying84 rfl (by rw [hc.out.len]; exact infoCall) ?_) | (refine wpList_load_mid (by rfl) _ _ (by rfl) J 0 (by rfl) (rowL F) _ HX.out.2.2.1 Tryz.underlying128 rfl (by rw [rowL_len]; exact infoDomS) ?_) | (go_at_call 87; (refine (HFn.out _ (HA.out.1.trans (HX.out.1.mono HA.out.1.size))).mono ?_); rintro e w5 ⟨rfl, hq, hu⟩; have H5 : Hid (Q w5 ∧ UpT N w w5) := Lib.hid ⟨hq, (UpT.below (HA.out.1.trans (HX.out.1.mono HA.out.1.size))).trans hu⟩; have HT5 : Hid (World.there w5 R 0 19) := Lib.hid (nthere_same HX.out.2.2.2.1 (hu.2 R (by have h1 := HA.out.2.2.2.1; have h2 := HCl.out; omega) HX.out.2.2.2.2)); clear hq hu) | (refine wpList_store_mid (by rfl) _ _ _ (by rfl) R 0 nt.toArray (by rfl) (by rfl) (by rw [hsz]; exact HT5.out) (by rw [hsz]; exact infoNote) (all_one hn1) ?_)); have hRn : w.heap.size ≤ R := (by have := HA.out.2.2.2.1; have := HCl.out; omega); generalize hS : World.setCells w5 _ _ _ = wS; have HS : Hid (Below w.heap.size w5 wS ∧ wS.rangeAt R 0 nt) := Lib.hid (by rw [← hS]; exact ⟨nbelow_cells (Below.refl _ _) hRn _ _, World.rangeAt_setCells_same w5 R 0 nt (by rw [hnl]; exact HT5.out)⟩); clear hS; have HQS := Lib.hid (HQ.out _ _ H5.out.1 (HS.out.1.mono hN)); have hld := nload hnl HS.out.2; refine bodyPost_ret (v := (.agg nt.toArray)) (by simp [results, Tryz.results55, Act.put, asAddr, hld]) rfl ⟨rfl, HQS.out, H5.out.2.low HS.out.1 (Nat.le_refl _)⟩
set_option maxRecDepth 100000 in
set_option maxHeartbeats 2000000 in
theorem cdom_9 (hc : Hid (CallC cs s k0 k1 k2 k3 k4 9 x)) (F : Nat → Value) (hF : Hid (∀ j, j < 107 → (F j).oneCell' = true)) (g : Bool) (w : World) (hs : w.cell? ⟨s, 1, none⟩ = some (.pointer (some ⟨d, 0, none⟩))) (hG : ∀ W, Below w.heap.size w W → Calls Tryz.prog 72 #[.pointer (some ⟨d, 0, none⟩), .int .i64 k1] W fun e w' => e = .returned (.tuple #[.agg (rowL F).toArray, .bool g]) ∧ Below W.heap.size W w') (hnl : nt.length = 19) (hn1 : ∀ v, v ∈ nt → v.oneCell' = true) (hN : N ≤ w.heap.size) (hQ : ∀ w1 w2, Q w1 → Below N w1 w2 → Q w2) (hFn : ∀ W, Below w.heap.size w W → Calls Tryz.prog 88 #[(.agg cs.toArray), .agg (rowL F).toArray] W fun e w' => e = .returned (.agg nt.toArray) ∧ Q w' ∧ UpT N W w') : Calls Tryz.prog 55 #[(.agg cs.toArray)] w fun e w' => e = .returned (.agg nt.toArray) ∧ Q w' ∧ UpT N w w' := by
  have HQ := Lib.hid hQ
  have HFn := Lib.hid hFn
  have hsz : nt.toArray.size = 19 := by simp [hnl]
  clear hQ hFn
  have HG := Lib.hid hG; have HSl : Hid (s < w.heap.size ∧ w.cell? ⟨s, 1, none⟩ = some (.pointer (some ⟨d, 0, none⟩))) := Lib.hid ⟨cell_lt hs, hs⟩; clear hG hs; go_enter Tryz.func55, Tryz.ntmps55; go_upto_region 1 with fail; generalize hA : World.alloc w _ = wK; obtain ⟨C, hC⟩ : ∃ C, C = w.heap.size := ⟨_, rfl⟩; have HK : Hid (Below w.heap.size w wK ∧ wK.rangeAt C 0 cs ∧ wK.heap.size = C + 1) := Lib.hid (by rw [← hA, hC]; exact ⟨(Below.refl _ _).alloc (Nat.le_refl _) _, cbox _ _ _, by simp⟩); have HCl : Hid (w.heap.size ≤ C) := Lib.hid (by rw [hC]; exact Nat.le_refl _); rw [← hC]; clear hA hC; generalize hA : World.alloc wK _ = wA; obtain ⟨R, hR⟩ : ∃ R, R = C + 1 := ⟨_, rfl⟩; have HA : Hid (Below w.heap.size w wA ∧ wA.rangeAt C 0 cs ∧ World.there wA R 0 19 ∧ C < R ∧ R < wA.heap.size) := Lib.hid (by rw [← hA, hR, ← HK.out.2.2]; exact ⟨HK.out.1.alloc HK.out.1.size _, range_below HK.out.2.1 ((Below.refl _ _).alloc (Nat.le_refl _) _) (by have := HK.out.2.2; omega), nthere_new _ _ 19 (by rfl) _, by have := HK.out.2.2; omega, by simp⟩); rw [← hR]; clear hA hR; have HS1 : Hid (∀ W, Below wA.heap.size wA W → (World.cell? W ⟨C, 0, none⟩ = some (.pointer (some ⟨s, 0, none⟩)) ∧ World.cell? W ⟨C, 2, none⟩ = some (.int .i64 k1) ∧ World.cell? W ⟨s, 1, none⟩ = some (.pointer (some ⟨d, 0, none⟩)))) := (Lib.hid (fun W hW => by have hr := range_below HA.out.2.1 hW (Nat.lt_trans HA.out.2.2.2.1 HA.out.2.2.2.2); exact ⟨CallC.cell hr 0 _ hc.out.c0, CallC.cell hr 2 _ hc.out.c2, ((HA.out.1.trans (hW.mono HA.out.1.size)).cell (p := ⟨s, 1, none⟩) HSl.out.1).trans HSl.out.2⟩))
  go_cut [3] (fun v wx => ∃ J : Nat, v = .pointer (some ⟨J, 0, none⟩) ∧ Below wA.heap.size wA wx ∧ wx.rangeAt J 0 (rowL F) ∧ wA.heap.size ≤ J ∧ J < wx.heap.size)
  case first =>
    obtain ⟨wD, hwD⟩ : ∃ wD, wD = wA.drew := ⟨_, rfl⟩; have HBd : Hid (Below wA.heap.size wA wD) := Lib.hid (by rw [hwD]; exact (Below.refl _ _).drew); refine wp_region_noPanic ?_; refine wp_region_held_drew (S := fun W => (World.cell? W ⟨C, 0, none⟩ = some (.pointer (some ⟨s, 0, none⟩)) ∧ World.cell? W ⟨C, 2, none⟩ = some (.int .i64 k1) ∧ World.cell? W ⟨s, 1, none⟩ = some (.pointer (some ⟨d, 0, none⟩)))) (by kernel_rfl) (by rw [← hwD]; exact HS1.out _ HBd.out) (fun hHeld => ?_); rw [← hwD] at hHeld ⊢; clear hwD; refine wpAnyH_take (i := 0) (v := ?_) (by rfl) (by kernel_rfl) (by kernel_rfl) (by kernel_rfl) (fun _ _ _ h => h) (Or.inl ⟨by kernel_rfl, ?_⟩) (by assumption) ?_; rotate_left 1; (focus (intro w hSw; (try dsimp only at hSw); simp only [List.getElem_toArray, List.getElem_cons_succ, List.getElem_cons_zero]; all_goals go_simp; all_goals (try with_reducible rfl))); (try simp only [Act.put, List.getElem_toArray, List.getElem_cons_succ, List.getElem_cons_zero, List.setIfInBounds_toArray, List.set_cons_zero, List.set_cons_succ]); refine wpAnyH_take (i := 1) (v := ?_) (by rfl) (by kernel_rfl) (by kernel_rfl) (by kernel_rfl) (fun _ _ _ h => h) (Or.inl ⟨by kernel_rfl, ?_⟩) (by assumption) ?_; rotate_left 1; (focus (intro w hSw; (try dsimp only at hSw); simp only [List.getElem_toArray, List.getElem_cons_succ, List.getElem_cons_zero]; all_goals go_simp; all_goals (try with_reducible rfl))); (try simp only [Act.put, List.getElem_toArray, List.getElem_cons_succ, List.getElem_cons_zero, List.setIfInBounds_toArray, List.set_cons_zero, List.set_cons_succ]); refine wpAnyH_take (i := 2) (v := ?_) (by rfl) (by kernel_rfl) (by kernel_rfl) (by kernel_rfl) (fun _ _ _ h => h) (Or.inl ⟨by kernel_rfl, ?_⟩) (by assumption) ?_; rotate_left 1; (focus (intro w hSw; (try dsimp only at hSw); simp only [List.getElem_toArray, List.getElem_cons_succ, List.getElem_cons_zero]; all_goals go_simp; all_goals (try with_reducible rfl))); (try simp only [Act.put, List.getElem_toArray, List.getElem_cons_succ, List.getElem_cons_zero, List.setIfInBounds_toArray, List.set_cons_zero, List.set_cons_succ]); refine wpAnyH_take (i := 3) (v := ?_) (by rfl) (by kernel_rfl) (by kernel_rfl) (by kernel_rfl) (fun _ _ _ h => h) (Or.inl ⟨by kernel_rfl, ?_⟩) (by assumption) ?_; rotate_left 1; (focus (intro w hSw; (try dsimp only at hSw); simp only [List.getElem_toArray, List.getElem_cons_succ, List.getElem_cons_zero]; all_goals go_simp; all_goals (try with_reducible rfl))); (try simp only [Act.put, List.getElem_toArray, List.getElem_cons_succ, List.getElem_cons_zero, List.setIfInBounds_toArray, List.set_cons_zero, List.set_cons_succ]); refine wpAnyH_take (i := 4) (v := ?_) (by rfl) (by kernel_rfl) (by kernel_rfl) (by kernel_rfl) (fun _ _ _ h => h) (Or.inl ⟨by kernel_rfl, ?_⟩) (by assumption) ?_; rotate_left 1; (focus (intro w hSw; (try dsimp only at hSw); simp only [List.getElem_toArray, List.getElem_cons_succ, List.getElem_cons_zero]; all_goals go_simp; all_goals (try with_reducible rfl))); (try simp only [Act.put, List.getElem_toArray, List.getElem_cons_succ, List.getElem_cons_zero, List.setIfInBounds_toArray, List.set_cons_zero, List.set_cons_succ]); refine wpAnyH_take (i := 5) (v := ?_) (by rfl) (by kernel_rfl) (by kernel_rfl) (by kernel_rfl) (fun _ _ _ h => h) (Or.inl ⟨by kernel_rfl, ?_⟩) (by assumption) ?_; rotate_left 1; (focus (intro w hSw; (try dsimp only at hSw); simp only [List.getElem_toArray, List.getElem_cons_succ, List.getElem_cons_zero]; all_goals go_simp; all_goals (try with_reducible rfl))); (try simp only [Act.put, List.getElem_toArray, List.getElem_cons_succ, List.getElem_cons_zero, List.setIfInBounds_toArray, List.set_cons_zero, List.set_cons_succ]); refine wpAnyH_take (i := 6) (v := ?_) (by rfl) (by kernel_rfl) (by kernel_rfl) (by kernel_rfl) (fun _ _ _ h => h) (Or.inl ⟨by kernel_rfl, ?_⟩) (by assumption) ?_; rotate_left 1; (focus (intro w hSw; (try dsimp only at hSw); simp only [List.getElem_toArray, List.getElem_cons_succ, List.getElem_cons_zero]; all_goals go_simp; all_goals (try with_reducible rfl))); (try simp only [Act.put, List.getElem_toArray, List.getElem_cons_succ, List.getElem_cons_zero, List.setIfInBounds_toArray, List.set_cons_zero, List.set_cons_succ]); refine wpAnyH_take (i := 7) (v := ?_) (by rfl) (by kernel_rfl) (by kernel_rfl) (by kernel_rfl) (fun _ _ _ h => h) (Or.inl ⟨by kernel_rfl, ?_⟩) (by assumption) ?_; rotate_left 1; (focus (intro w hSw; (try dsimp only at hSw); simp only [List.getElem_toArray, List.getElem_cons_succ, List.getElem_cons_zero]; all_goals go_simp; all_goals (try with_reducible rfl))); (try simp only [Act.put, List.getElem_toArray, List.getElem_cons_succ, List.getElem_cons_zero, List.setIfInBounds_toArray, List.set_cons_zero, List.set_cons_succ]); refine wpAnyH_ready (rs := [8, 12]) (by kernel_rfl) (by simp) ?_; refine AllReadyH.cons (by rfl) (fun K hK => ?_) (AllReadyH.cons (by rfl) (fun K hK => ?_) AllReadyH.nil)
    · rw [if_pos (by kernel_rfl)]; simp only [List.getElem_toArray, List.getElem_cons_succ, List.getElem_cons_zero]; go_wp2_with (first | (go_at_call 72; (with_reducible refine (HG.out _ (HA.out.1.trans (HBd.out.mono HA.out.1.size))).mono ?_); rintro e w2 ⟨rfl, hb⟩; have HB2 := Lib.hid (HBd.out.trans (hb.mono HBd.out.size)); clear hb)); refine hK.out _ _ (HS1.out _ HB2.out) (fun hHeld => ?_); clear hK K; (try simp only [Act.put, List.getElem_toArray, List.getElem_cons_succ, List.getElem_cons_zero, List.setIfInBounds_toArray, List.set_cons_zero, List.set_cons_succ]); refine wpAnyH_take (i := 9) (v := ?_) (by rfl) (by kernel_rfl) (by kernel_rfl) (by kernel_rfl) (fun _ _ _ h => h) (Or.inl ⟨by kernel_rfl, ?_⟩) (by assumption) ?_; rotate_left 1; (focus (intro w hSw; (try dsimp only at hSw); simp only [List.getElem_toArray, List.getElem_cons_succ, List.getElem_cons_zero]; all_goals go_simp; all_goals (try with_reducible rfl))); (try simp only [Act.put, List.getElem_toArray, List.getElem_cons_succ, List.getElem_cons_zero, List.setIfInBounds_toArray, List.set_cons_zero, List.set_cons_succ]); refine wpAnyH_take (i := 10) (v := ?_) (by rfl) (by kernel_rfl) (by kernel_rfl) (by kernel_rfl) (fun _ _ _ h => h) (Or.inl ⟨by kernel_rfl, ?_⟩) (by assumption) ?_; rotate_left 1; (focus (intro w hSw; (try dsimp only at hSw); simp only [List.getElem_toArray, List.getElem_cons_succ, List.getElem_cons_zero]; all_goals go_simp; all_goals (try with_reducible rfl))); (try simp only [Act.put, List.getElem_toArray, List.getElem_cons_succ, List.getElem_cons_zero, List.setIfInBounds_toArray, List.set_cons_zero, List.set_cons_succ]); refine wpAnyH_take (i := 11) (v := ?_) (by rfl) (by kernel_rfl) (by kernel_rfl) (by kernel_rfl) (fun _ _ _ h => h) (Or.inl ⟨by kernel_rfl, ?_⟩) (by assumption) ?_; rotate_left 1; (focus (intro w hSw; (try dsimp only at hSw); simp only [List.getElem_toArray, List.getElem_cons_succ, List.getElem_cons_zero]; all_goals go_simp; all_goals (try with_reducible rfl))); (try simp only [Act.put, List.getElem_toArray, List.getElem_cons_succ, List.getElem_cons_zero, List.setIfInBounds_toArray, List.set_cons_zero, List.set_cons_succ]); refine wpAnyH_ready (rs := [12]) (by kernel_rfl) (by simp) ?_; refine AllReadyH.cons (by rfl) (fun K hK => ?_) AllReadyH.nil; rw [if_pos (by kernel_rfl)]; simp only [List.getElem_toArray, List.getElem_cons_succ, List.getElem_cons_zero]; go_wp2_with fail; generalize hE : World.alloc w2 _ = wE; obtain ⟨J, hJ⟩ : ∃ J, J = w2.heap.size := ⟨_, rfl⟩; have HE : Hid (Below wA.heap.size wA wE ∧ World.there wE J 0 107 ∧ wA.heap.size ≤ J ∧ J < wE.heap.size) := Lib.hid (by rw [← hE, hJ]; exact ⟨(HB2.out).alloc (HB2.out).size _, nthere_new _ _ 107 zsize _, (HB2.out).size, by simp⟩); rw [← hJ]; clear hE hJ; refine hK.out _ _ (HS1.out _ HE.out.1) (fun hHeld => ?_); clear hK K; (try simp only [Act.put, List.getElem_toArray, List.getElem_cons_succ, List.getElem_cons_zero, List.setIfInBounds_toArray, List.set_cons_zero, List.set_cons_succ]); refine wpAnyH_ready (rs := [13]) (by kernel_rfl) (by simp) ?_; refine AllReadyH.cons (by rfl) (fun K hK => ?_) AllReadyH.nil; rw [if_pos (by kernel_rfl)]; simp only [List.getElem_toArray, List.getElem_cons_succ, List.getElem_cons_zero]; refine wp_store_mid 128 (Operand.tmp 3) (Operand.tmp 15) (by rfl) J 0 (rowL F).toArray (by rfl) (by rfl) (by rw [rowL_size]; exact HE.out.2.1) (by rw [rowL_size]; exact infoDomS) (rowL_one F hF.out) ?_; generalize hW : World.setCells wE _ _ _ = wF; have HF9 : Hid (Below wA.heap.size wA wF ∧ wF.rangeAt J 0 (rowL F) ∧ J < wF.heap.size) := Lib.hid (by rw [← hW]; refine ⟨nbelow_cells HE.out.1 (HE.out.2.2).1 _ _, World.rangeAt_setCells_same wE J 0 (rowL F) (by rw [rowL_len]; exact HE.out.2.1), ?_⟩; exact Nat.lt_of_lt_of_le (HE.out.2.2).2 (nbelow_cells (Below.refl J wE) (Nat.le_refl J) _ _).size); clear hW; refine hK.out _ _ (HS1.out _ HF9.out.1) (fun hHeld => ?_); clear hK K; (try simp only [Act.put, List.getElem_toArray, List.getElem_cons_succ, List.getElem_cons_zero, List.setIfInBounds_toArray, List.set_cons_zero, List.set_cons_succ]); refine wpAnyH_take (i := 14) (v := ?_) (by rfl) (by kernel_rfl) (by kernel_rfl) (by kernel_rfl) (fun _ _ _ h => h) (Or.inl ⟨by kernel_rfl, ?_⟩) (by assumption) ?_; rotate_left 1; (focus (intro w hSw; (try dsimp only at hSw); simp only [List.getElem_toArray, List.getElem_cons_succ, List.getElem_cons_zero]; all_goals go_simp; all_goals (try with_reducible rfl))); (try simp only [Act.put, List.getElem_toArray, List.getElem_cons_succ, List.getElem_cons_zero, List.setIfInBounds_toArray, List.set_cons_zero, List.set_cons_succ]); refine wpAnyH_done (by kernel_rfl) ?_ _; refine NoPanic.normal ?_; go_wp2_with fail; go_meet; exact ⟨J, rfl, HF9.out.1, HF9.out.2.1, (HE.out.2.2).1, HF9.out.2.2⟩
    · rw [if_pos (by kernel_rfl)]; simp only [List.getElem_toArray, List.getElem_cons_succ, List.getElem_cons_zero]; go_wp2_with fail; generalize hE : World.alloc wD _ = wE; obtain ⟨J, hJ⟩ : ∃ J, J = wD.heap.size := ⟨_, rfl⟩; have HE : Hid (Below wA.heap.size wA wE ∧ World.there wE J 0 107 ∧ wA.heap.size ≤ J ∧ J < wE.heap.size) := Lib.hid (by rw [← hE, hJ]; exact ⟨(HBd.out).alloc (HBd.out).size _, nthere_new _ _ 107 zsize _, (HBd.out).size, by simp⟩); rw [← hJ]; clear hE hJ; refine hK.out _ _ (HS1.out _ HE.out.1) (fun hHeld => ?_); clear hK K; (try simp only [Act.put, List.getElem_toArray, List.getElem_cons_succ, List.getElem_cons_zero, List.setIfInBounds_toArray, List.set_cons_zero, List.set_cons_succ]); refine wpAnyH_ready (rs := [8]) (by kernel_rfl) (by simp) ?_; refine AllReadyH.cons (by rfl) (fun K hK => ?_) AllReadyH.nil; rw [if_pos (by kernel_rfl)]; simp only [List.getElem_toArray, List.getElem_cons_succ, List.getElem_cons_zero]; go_wp2_with (first | (go_at_call 72; (with_reducible refine (HG.out _ (HA.out.1.trans (HE.out.1.mono HA.out.1.size))).mono ?_); rintro e w2 ⟨rfl, hb⟩; have HB2 : Hid (Below wA.heap.size wA w2 ∧ World.there w2 J 0 107 ∧ wA.heap.size ≤ J ∧ J < w2.heap.size) := Lib.hid ⟨HE.out.1.trans (hb.mono HE.out.1.size), nthere_below HE.out.2.1 hb HE.out.2.2.2, HE.out.2.2.1, Nat.lt_of_lt_of_le HE.out.2.2.2 hb.size⟩; clear hb)); refine hK.out _ _ (HS1.out _ HB2.out.1) (fun hHeld => ?_); clear hK K; (try simp only [Act.put, List.getElem_toArray, List.getElem_cons_succ, List.getElem_cons_zero, List.setIfInBounds_toArray, List.set_cons_zero, List.set_cons_succ]); refine wpAnyH_take (i := 9) (v := ?_) (by rfl) (by kernel_rfl) (by kernel_rfl) (by kernel_rfl) (fun _ _ _ h => h) (Or.inl ⟨by kernel_rfl, ?_⟩) (by assumption) ?_; rotate_left 1; (focus (intro w hSw; (try dsimp only at hSw); simp only [List.getElem_toArray, List.getElem_cons_succ, List.getElem_cons_zero]; all_goals go_simp; all_goals (try with_reducible rfl))); (try simp only [Act.put, List.getElem_toArray, List.getElem_cons_succ, List.getElem_cons_zero, List.setIfInBounds_toArray, List.set_cons_zero, List.set_cons_succ]); refine wpAnyH_take (i := 10) (v := ?_) (by rfl) (by kernel_rfl) (by kernel_rfl) (by kernel_rfl) (fun _ _ _ h => h) (Or.inl ⟨by kernel_rfl, ?_⟩) (by assumption) ?_; rotate_left 1; (focus (intro w hSw; (try dsimp only at hSw); simp only [List.getElem_toArray, List.getElem_cons_succ, List.getElem_cons_zero]; all_goals go_simp; all_goals (try with_reducible rfl))); (try simp only [Act.put, List.getElem_toArray, List.getElem_cons_succ, List.getElem_cons_zero, List.setIfInBounds_toArray, List.set_cons_zero, List.set_cons_succ]); refine wpAnyH_take (i := 11) (v := ?_) (by rfl) (by kernel_rfl) (by kernel_rfl) (by kernel_rfl) (fun _ _ _ h => h) (Or.inl ⟨by kernel_rfl, ?_⟩) (by assumption) ?_; rotate_left 1; (focus (intro w hSw; (try dsimp only at hSw); simp only [List.getElem_toArray, List.getElem_cons_succ, List.getElem_cons_zero]; all_goals go_simp; all_goals (try with_reducible rfl))); (try simp only [Act.put, List.getElem_toArray, List.getElem_cons_succ, List.getElem_cons_zero, List.setIfInBounds_toArray, List.set_cons_zero, List.set_cons_succ]); refine wpAnyH_ready (rs := [13]) (by kernel_rfl) (by simp) ?_; refine AllReadyH.cons (by rfl) (fun K hK => ?_) AllReadyH.nil; rw [if_pos (by kernel_rfl)]; simp only [List.getElem_toArray, List.getElem_cons_succ, List.getElem_cons_zero]; refine wp_store_mid 128 (Operand.tmp 3) (Operand.tmp 15) (by rfl) J 0 (rowL F).toArray (by rfl) (by rfl) (by rw [rowL_size]; exact HB2.out.2.1) (by rw [rowL_size]; exact infoDomS) (rowL_one F hF.out) ?_; generalize hW : World.setCells w2 _ _ _ = wF; have HF9 : Hid (Below wA.heap.size wA wF ∧ wF.rangeAt J 0 (rowL F) ∧ J < wF.heap.size) := Lib.hid (by rw [← hW]; refine ⟨nbelow_cells HB2.out.1 (HB2.out.2.2).1 _ _, World.rangeAt_setCells_same w2 J 0 (rowL F) (by rw [rowL_len]; exact HB2.out.2.1), ?_⟩; exact Nat.lt_of_lt_of_le (HB2.out.2.2).2 (nbelow_cells (Below.refl J w2) (Nat.le_refl J) _ _).size); clear hW; refine hK.out _ _ (HS1.out _ HF9.out.1) (fun hHeld => ?_); clear hK K; (try simp only [Act.put, List.getElem_toArray, List.getElem_cons_succ, List.getElem_cons_zero, List.setIfInBounds_toArray, List.set_cons_zero, List.set_cons_succ]); refine wpAnyH_take (i := 14) (v := ?_) (by rfl) (by kernel_rfl) (by kernel_rfl) (by kernel_rfl) (fun _ _ _ h => h) (Or.inl ⟨by kernel_rfl, ?_⟩) (by assumption) ?_; rotate_left 1; (focus (intro w hSw; (try dsimp only at hSw); simp only [List.getElem_toArray, List.getElem_cons_succ, List.getElem_cons_zero]; all_goals go_simp; all_goals (try with_reducible rfl))); (try simp only [Act.put, List.getElem_toArray, List.getElem_cons_succ, List.getElem_cons_zero, List.setIfInBounds_toArray, List.set_cons_zero, List.set_cons_succ]); refine wpAnyH_done (by kernel_rfl) ?_ _; refine NoPanic.normal ?_; go_wp2_with fail; go_meet; exact ⟨J, rfl, HF9.out.1, HF9.out.2.1, (HB2.out.2.2).1, HF9.out.2.2⟩
  case rest =>
    obtain ⟨J, rfl, hb, hr, hj0, hj1⟩ := hcut; have HX : Hid (Below wA.heap.size wA wc ∧ wc.rangeAt C 0 cs ∧ wc.rangeAt J 0 (rowL F) ∧ World.there wc R 0 19 ∧ R < wc.heap.size) := (Lib.hid ⟨hb, range_below HA.out.2.1 hb (Nat.lt_trans HA.out.2.2.2.1 HA.out.2.2.2.2), hr, nthere_below HA.out.2.2.1 hb HA.out.2.2.2.2, Nat.lt_of_lt_of_le HA.out.2.2.2.2 hb.size⟩); clear hb hr hj0 hj1; have q6 := CallC.cell HX.out.2.1 6 _ hc.out.c6; go_wp2_with (first | (refine wpList_load_mid (by rfl) _ _ (by rfl) C 0 (by rfl) cs _ HX.out.2.1 Tryz.underlying84 rfl (by rw [hc.out.len]; exact infoCall) ?_) | (refine wpList_load_mid (by rfl) _ _ (by rfl) J 0 (by rfl) (rowL F) _ HX.out.2.2.1 Tryz.underlying128 rfl (by rw [rowL_len]; exact infoDomS) ?_) | (go_at_call 88; (refine (HFn.out _ (HA.out.1.trans (HX.out.1.mono HA.out.1.size))).mono ?_); rintro e w5 ⟨rfl, hq, hu⟩; have H5 : Hid (Q w5 ∧ UpT N w w5) := Lib.hid ⟨hq, (UpT.below (HA.out.1.trans (HX.out.1.mono HA.out.1.size))).trans hu⟩; have HT5 : Hid (World.there w5 R 0 19) := Lib.hid (nthere_same HX.out.2.2.2.1 (hu.2 R (by have h1 := HA.out.2.2.2.1; have h2 := HCl.out; omega) HX.out.2.2.2.2)); clear hq hu) | (refine wpList_store_mid (by rfl) _ _ _ (by rfl) R 0 nt.toArray (by rfl) (by rfl) (by rw [hsz]; exact HT5.out) (by rw [hsz]; exact infoNote) (all_one hn1) ?_)); have hRn : w.heap.size ≤ R := (by have := HA.out.2.2.2.1; have := HCl.out; omega); generalize hS : World.setCells w5 _ _ _ = wS; have HS : Hid (Below w.heap.size w5 wS ∧ wS.rangeAt R 0 nt) := Lib.hid (by rw [← hS]; exact ⟨nbelow_cells (Below.refl _ _) hRn _ _, World.rangeAt_setCells_same w5 R 0 nt (by rw [hnl]; exact HT5.out)⟩); clear hS; have HQS := Lib.hid (HQ.out _ _ H5.out.1 (HS.out.1.mono hN)); have hld := nload hnl HS.out.2; refine bodyPost_ret (v := (.agg nt.toArray)) (by simp [results, Tryz.results55, Act.put, asAddr, hld]) rfl ⟨rfl, HQS.out, H5.out.2.low HS.out.1 (Nat.le_refl _)⟩
end
end Go.Proofs.YthgjejclhdolmaaGreatDoor
namespace Go.Proofs.YthgjejclhdolmaaGreatDoor
open Go.ChangeShapes Go.WideShapes Go.ChangeAt Go.RowKit
set_option linter.unusedVariables false
set_option linter.unusedSimpArgs false
section
variable {cs : List Value} {s d : Nat} {k0 k1 k2 k3 k4 o x : Int}
set_option maxRecDepth 100000 in
set_option maxHeartbeats 2000000 in
theorem cdom_8 (hc : Hid (CallC cs s k0 k1 k2 k3 k4 8 x)) (F : Nat → Value) (hF : Hid (∀ j, j < 107 → (F j).oneCell' = true)) (g : Bool) (w : World) (hs : w.cell? ⟨s, 1, none⟩ = some (.pointer (some ⟨d, 0, none⟩))) (hG : ∀ W, Below w.heap.size w W → Calls Tryz.prog 72 #[.pointer (some ⟨d, 0, none⟩), .int .i64 k1] W fun e w' => e = .returned (.tuple #[.agg (rowL F).toArray, .bool g]) ∧ Below W.heap.size W w') (st pc ft : Int) (h8 : Hid (F 9 = .int .i64 st ∧ F 8 = .int .u32 pc ∧ F 10 = .int .i64 ft)) (hs0 : 0 ≤ st ∧ st ≤ 100) (hf0 : 0 ≤ ft ∧ ft ≤ 100) : Calls Tryz.prog 55 #[(.agg cs.toArray)] w fun e w' => e = .returned (Value.agg #[.int .u32 0, .int .u32 st, .int .u32 pc, .int .u32 ft, .int .i64 0, .int .i64 0, .int .i64 0, .int .i64 0, .int .u32 0, .int .i64 0, .int .i64 0, .int .i64 0, .int .i64 0, .int .u32 0, .int .i64 0, .int .i64 0, .int .i64 0, .int .i64 0, .int .u32 0]) ∧ Below w.heap.size w w' := by
  have hw1 : IntKind.u32.wrap st = st := by rw [IntKind.wrap_u32]; omega
  have hw2 : IntKind.u32.wrap ft = ft := by rw [IntKind.wrap_u32]; omega
  have HG := Lib.hid hG; have HSl : Hid (s < w.heap.size ∧ w.cell? ⟨s, 1, none⟩ = some (.pointer (some ⟨d, 0, none⟩))) := Lib.hid ⟨cell_lt hs, hs⟩; clear hG hs; go_enter Tryz.func55, Tryz.ntmps55; go_upto_region 1 with fail; generalize hA : World.alloc w _ = wK; obtain ⟨C, hC⟩ : ∃ C, C = w.heap.size := ⟨_, rfl⟩; have HK : Hid (Below w.heap.size w wK ∧ wK.rangeAt C 0 cs ∧ wK.heap.size = C + 1) := Lib.hid (by rw [← hA, hC]; exact ⟨(Below.refl _ _).alloc (Nat.le_refl _) _, cbox _ _ _, by simp⟩); have HCl : Hid (w.heap.size ≤ C) := Lib.hid (by rw [hC]; exact Nat.le_refl _); rw [← hC]; clear hA hC; generalize hA : World.alloc wK _ = wA; obtain ⟨R, hR⟩ : ∃ R, R = C + 1 := ⟨_, rfl⟩; have HA : Hid (Below w.heap.size w wA ∧ wA.rangeAt C 0 cs ∧ World.there wA R 0 19 ∧ C < R ∧ R < wA.heap.size) := Lib.hid (by rw [← hA, hR, ← HK.out.2.2]; exact ⟨HK.out.1.alloc HK.out.1.size _, range_below HK.out.2.1 ((Below.refl _ _).alloc (Nat.le_refl _) _) (by have := HK.out.2.2; omega), nthere_new _ _ 19 (by rfl) _, by have := HK.out.2.2; omega, by simp⟩); rw [← hR]; clear hA hR; have HS1 : Hid (∀ W, Below wA.heap.size wA W → (World.cell? W ⟨C, 0, none⟩ = some (.pointer (some ⟨s, 0, none⟩)) ∧ World.cell? W ⟨C, 2, none⟩ = some (.int .i64 k1) ∧ World.cell? W ⟨s, 1, none⟩ = some (.pointer (some ⟨d, 0, none⟩)))) := (Lib.hid (fun W hW => by have hr := range_below HA.out.2.1 hW (Nat.lt_trans HA.out.2.2.2.1 HA.out.2.2.2.2); exact ⟨CallC.cell hr 0 _ hc.out.c0, CallC.cell hr 2 _ hc.out.c2, ((HA.out.1.trans (hW.mono HA.out.1.size)).cell (p := ⟨s, 1, none⟩) HSl.out.1).trans HSl.out.2⟩))
  go_cut [3] (fun v wx => ∃ J : Nat, v = .pointer (some ⟨J, 0, none⟩) ∧ Below wA.heap.size wA wx ∧ wx.rangeAt J 0 (rowL F) ∧ wA.heap.size ≤ J ∧ J < wx.heap.size)
  case first =>
    obtain ⟨wD, hwD⟩ : ∃ wD, wD = wA.drew := ⟨_, rfl⟩; have HBd : Hid (Below wA.heap.size wA wD) := Lib.hid (by rw [hwD]; exact (Below.refl _ _).drew); refine wp_region_noPanic ?_; refine wp_region_held_drew (S := fun W => (World.cell? W ⟨C, 0, none⟩ = some (.pointer (some ⟨s, 0, none⟩)) ∧ World.cell? W ⟨C, 2, none⟩ = some (.int .i64 k1) ∧ World.cell? W ⟨s, 1, none⟩ = some (.pointer (some ⟨d, 0, none⟩)))) (by kernel_rfl) (by rw [← hwD]; exact HS1.out _ HBd.out) (fun hHeld => ?_); rw [← hwD] at hHeld ⊢; clear hwD; refine wpAnyH_take (i := 0) (v := ?_) (by rfl) (by kernel_rfl) (by kernel_rfl) (by kernel_rfl) (fun _ _ _ h => h) (Or.inl ⟨by kernel_rfl, ?_⟩) (by assumption) ?_; rotate_left 1; (focus (intro w hSw; (try dsimp only at hSw); simp only [List.getElem_toArray, List.getElem_cons_succ, List.getElem_cons_zero]; all_goals go_simp; all_goals (try with_reducible rfl))); (try simp only [Act.put, List.getElem_toArray, List.getElem_cons_succ, List.getElem_cons_zero, List.setIfInBounds_toArray, List.set_cons_zero, List.set_cons_succ]); refine wpAnyH_take (i := 1) (v := ?_) (by rfl) (by kernel_rfl) (by kernel_rfl) (by kernel_rfl) (fun _ _ _ h => h) (Or.inl ⟨by kernel_rfl, ?_⟩) (by assumption) ?_; rotate_left 1; (focus (intro w hSw; (try dsimp only at hSw); simp only [List.getElem_toArray, List.getElem_cons_succ, List.getElem_cons_zero]; all_goals go_simp; all_goals (try with_reducible rfl))); (try simp only [Act.put, List.getElem_toArray, List.getElem_cons_succ, List.getElem_cons_zero, List.setIfInBounds_toArray, List.set_cons_zero, List.set_cons_succ]); refine wpAnyH_take (i := 2) (v := ?_) (by rfl) (by kernel_rfl) (by kernel_rfl) (by kernel_rfl) (fun _ _ _ h => h) (Or.inl ⟨by kernel_rfl, ?_⟩) (by assumption) ?_; rotate_left 1; (focus (intro w hSw; (try dsimp only at hSw); simp only [List.getElem_toArray, List.getElem_cons_succ, List.getElem_cons_zero]; all_goals go_simp; all_goals (try with_reducible rfl))); (try simp only [Act.put, List.getElem_toArray, List.getElem_cons_succ, List.getElem_cons_zero, List.setIfInBounds_toArray, List.set_cons_zero, List.set_cons_succ]); refine wpAnyH_take (i := 3) (v := ?_) (by rfl) (by kernel_rfl) (by kernel_rfl) (by kernel_rfl) (fun _ _ _ h => h) (Or.inl ⟨by kernel_rfl, ?_⟩) (by assumption) ?_; rotate_left 1; (focus (intro w hSw; (try dsimp only at hSw); simp only [List.getElem_toArray, List.getElem_cons_succ, List.getElem_cons_zero]; all_goals go_simp; all_goals (try with_reducible rfl))); (try simp only [Act.put, List.getElem_toArray, List.getElem_cons_succ, List.getElem_cons_zero, List.setIfInBounds_toArray, List.set_cons_zero, List.set_cons_succ]); refine wpAnyH_take (i := 4) (v := ?_) (by rfl) (by kernel_rfl) (by kernel_rfl) (by kernel_rfl) (fun _ _ _ h => h) (Or.inl ⟨by kernel_rfl, ?_⟩) (by assumption) ?_; rotate_left 1; (focus (intro w hSw; (try dsimp only at hSw); simp only [List.getElem_toArray, List.getElem_cons_succ, List.getElem_cons_zero]; all_goals go_simp; all_goals (try with_reducible rfl))); (try simp only [Act.put, List.getElem_toArray, List.getElem_cons_succ, List.getElem_cons_zero, List.setIfInBounds_toArray, List.set_cons_zero, List.set_cons_succ]); refine wpAnyH_take (i := 5) (v := ?_) (by rfl) (by kernel_rfl) (by kernel_rfl) (by kernel_rfl) (fun _ _ _ h => h) (Or.inl ⟨by kernel_rfl, ?_⟩) (by assumption) ?_; rotate_left 1; (focus (intro w hSw; (try dsimp only at hSw); simp only [List.getElem_toArray, List.getElem_cons_succ, List.getElem_cons_zero]; all_goals go_simp; all_goals (try with_reducible rfl))); (try simp only [Act.put, List.getElem_toArray, List.getElem_cons_succ, List.getElem_cons_zero, List.setIfInBounds_toArray, List.set_cons_zero, List.set_cons_succ]); refine wpAnyH_take (i := 6) (v := ?_) (by rfl) (by kernel_rfl) (by kernel_rfl) (by kernel_rfl) (fun _ _ _ h => h) (Or.inl ⟨by kernel_rfl, ?_⟩) (by assumption) ?_; rotate_left 1; (focus (intro w hSw; (try dsimp only at hSw); simp only [List.getElem_toArray, List.getElem_cons_succ, List.getElem_cons_zero]; all_goals go_simp; all_goals (try with_reducible rfl))); (try simp only [Act.put, List.getElem_toArray, List.getElem_cons_succ, List.getElem_cons_zero, List.setIfInBounds_toArray, List.set_cons_zero, List.set_cons_succ]); refine wpAnyH_take (i := 7) (v := ?_) (by rfl) (by kernel_rfl) (by kernel_rfl) (by kernel_rfl) (fun _ _ _ h => h) (Or.inl ⟨by kernel_rfl, ?_⟩) (by assumption) ?_; rotate_left 1; (focus (intro w hSw; (try dsimp only at hSw); simp only [List.getElem_toArray, List.getElem_cons_succ, List.getElem_cons_zero]; all_goals go_simp; all_goals (try with_reducible rfl))); (try simp only [Act.put, List.getElem_toArray, List.getElem_cons_succ, List.getElem_cons_zero, List.setIfInBounds_toArray, List.set_cons_zero, List.set_cons_succ]); refine wpAnyH_ready (rs := [8, 12]) (by kernel_rfl) (by simp) ?_; refine AllReadyH.cons (by rfl) (fun K hK => ?_) (AllReadyH.cons (by rfl) (fun K hK => ?_) AllReadyH.nil)
    · rw [if_pos (by kernel_rfl)]; simp only [List.getElem_toArray, List.getElem_cons_succ, List.getElem_cons_zero]; go_wp2_with (first | (go_at_call 72; (with_reducible refine (HG.out _ (HA.out.1.trans (HBd.out.mono HA.out.1.size))).mono ?_); rintro e w2 ⟨rfl, hb⟩; have HB2 := Lib.hid (HBd.out.trans (hb.mono HBd.out.size)); clear hb)); refine hK.out _ _ (HS1.out _ HB2.out) (fun hHeld => ?_); clear hK K; (try simp only [Act.put, List.getElem_toArray, List.getElem_cons_succ, List.getElem_cons_zero, List.setIfInBounds_toArray, List.set_cons_zero, List.set_cons_succ]); refine wpAnyH_take (i := 9) (v := ?_) (by rfl) (by kernel_rfl) (by kernel_rfl) (by kernel_rfl) (fun _ _ _ h => h) (Or.inl ⟨by kernel_rfl, ?_⟩) (by assumption) ?_; rotate_left 1; (focus (intro w hSw; (try dsimp only at hSw); simp only [List.getElem_toArray, List.getElem_cons_succ, List.getElem_cons_zero]; all_goals go_simp; all_goals (try with_reducible rfl))); (try simp only [Act.put, List.getElem_toArray, List.getElem_cons_succ, List.getElem_cons_zero, List.setIfInBounds_toArray, List.set_cons_zero, List.set_cons_succ]); refine wpAnyH_take (i := 10) (v := ?_) (by rfl) (by kernel_rfl) (by kernel_rfl) (by kernel_rfl) (fun _ _ _ h => h) (Or.inl ⟨by kernel_rfl, ?_⟩) (by assumption) ?_; rotate_left 1; (focus (intro w hSw; (try dsimp only at hSw); simp only [List.getElem_toArray, List.getElem_cons_succ, List.getElem_cons_zero]; all_goals go_simp; all_goals (try with_reducible rfl))); (try simp only [Act.put, List.getElem_toArray, List.getElem_cons_succ, List.getElem_cons_zero, List.setIfInBounds_toArray, List.set_cons_zero, List.set_cons_succ]); refine wpAnyH_take (i := 11) (v := ?_) (by rfl) (by kernel_rfl) (by kernel_rfl) (by kernel_rfl) (fun _ _ _ h => h) (Or.inl ⟨by kernel_rfl, ?_⟩) (by assumption) ?_; rotate_left 1; (focus (intro w hSw; (try dsimp only at hSw); simp only [List.getElem_toArray, List.getElem_cons_succ, List.getElem_cons_zero]; all_goals go_simp; all_goals (try with_reducible rfl))); (try simp only [Act.put, List.getElem_toArray, List.getElem_cons_succ, List.getElem_cons_zero, List.setIfInBounds_toArray, List.set_cons_zero, List.set_cons_succ]); refine wpAnyH_ready (rs := [12]) (by kernel_rfl) (by simp) ?_; refine AllReadyH.cons (by rfl) (fun K hK => ?_) AllReadyH.nil; rw [if_pos (by kernel_rfl)]; simp only [List.getElem_toArray, List.getElem_cons_succ, List.getElem_cons_zero]; go_wp2_with fail; generalize hE : World.alloc w2 _ = wE; obtain ⟨J, hJ⟩ : ∃ J, J = w2.heap.size := ⟨_, rfl⟩; have HE : Hid (Below wA.heap.size wA wE ∧ World.there wE J 0 107 ∧ wA.heap.size ≤ J ∧ J < wE.heap.size) := Lib.hid (by rw [← hE, hJ]; exact ⟨(HB2.out).alloc (HB2.out).size _, nthere_new _ _ 107 zsize _, (HB2.out).size, by simp⟩); rw [← hJ]; clear hE hJ; refine hK.out _ _ (HS1.out _ HE.out.1) (fun hHeld => ?_); clear hK K; (try simp only [Act.put, List.getElem_toArray, List.getElem_cons_succ, List.getElem_cons_zero, List.setIfInBounds_toArray, List.set_cons_zero, List.set_cons_succ]); refine wpAnyH_ready (rs := [13]) (by kernel_rfl) (by simp) ?_; refine AllReadyH.cons (by rfl) (fun K hK => ?_) AllReadyH.nil; rw [if_pos (by kernel_rfl)]; simp only [List.getElem_toArray, List.getElem_cons_succ, List.getElem_cons_zero]; refine wp_store_mid 128 (Operand.tmp 3) (Operand.tmp 15) (by rfl) J 0 (rowL F).toArray (by rfl) (by rfl) (by rw [rowL_size]; exact HE.out.2.1) (by rw [rowL_size]; exact infoDomS) (rowL_one F hF.out) ?_; generalize hW : World.setCells wE _ _ _ = wF; have HF9 : Hid (Below wA.heap.size wA wF ∧ wF.rangeAt J 0 (rowL F) ∧ J < wF.heap.size) := Lib.hid (by rw [← hW]; refine ⟨nbelow_cells HE.out.1 (HE.out.2.2).1 _ _, World.rangeAt_setCells_same wE J 0 (rowL F) (by rw [rowL_len]; exact HE.out.2.1), ?_⟩; exact Nat.lt_of_lt_of_le (HE.out.2.2).2 (nbelow_cells (Below.refl J wE) (Nat.le_refl J) _ _).size); clear hW; refine hK.out _ _ (HS1.out _ HF9.out.1) (fun hHeld => ?_); clear hK K; (try simp only [Act.put, List.getElem_toArray, List.getElem_cons_succ, List.getElem_cons_zero, List.setIfInBounds_toArray, List.set_cons_zero, List.set_cons_succ]); refine wpAnyH_take (i := 14) (v := ?_) (by rfl) (by kernel_rfl) (by kernel_rfl) (by kernel_rfl) (fun _ _ _ h => h) (Or.inl ⟨by kernel_rfl, ?_⟩) (by assumption) ?_; rotate_left 1; (focus (intro w hSw; (try dsimp only at hSw); simp only [List.getElem_toArray, List.getElem_cons_succ, List.getElem_cons_zero]; all_goals go_simp; all_goals (try with_reducible rfl))); (try simp only [Act.put, List.getElem_toArray, List.getElem_cons_succ, List.getElem_cons_zero, List.setIfInBounds_toArray, List.set_cons_zero, List.set_cons_succ]); refine wpAnyH_done (by kernel_rfl) ?_ _; refine NoPanic.normal ?_; go_wp2_with fail; go_meet; exact ⟨J, rfl, HF9.out.1, HF9.out.2.1, (HE.out.2.2).1, HF9.out.2.2⟩
    · rw [if_pos (by kernel_rfl)]; simp only [List.getElem_toArray, List.getElem_cons_succ, List.getElem_cons_zero]; go_wp2_with fail; generalize hE : World.alloc wD _ = wE; obtain ⟨J, hJ⟩ : ∃ J, J = wD.heap.size := ⟨_, rfl⟩; have HE : Hid (Below wA.heap.size wA wE ∧ World.there wE J 0 107 ∧ wA.heap.size ≤ J ∧ J < wE.heap.size) := Lib.hid (by rw [← hE, hJ]; exact ⟨(HBd.out).alloc (HBd.out).size _, nthere_new _ _ 107 zsize _, (HBd.out).size, by simp⟩); rw [← hJ]; clear hE hJ; refine hK.out _ _ (HS1.out _ HE.out.1) (fun hHeld => ?_); clear hK K; (try simp only [Act.put, List.getElem_toArray, List.getElem_cons_succ, List.getElem_cons_zero, List.setIfInBounds_toArray, List.set_cons_zero, List.set_cons_succ]); refine wpAnyH_ready (rs := [8]) (by kernel_rfl) (by simp) ?_; refine AllReadyH.cons (by rfl) (fun K hK => ?_) AllReadyH.nil; rw [if_pos (by kernel_rfl)]; simp only [List.getElem_toArray, List.getElem_cons_succ, List.getElem_cons_zero]; go_wp2_with (first | (go_at_call 72; (with_reducible refine (HG.out _ (HA.out.1.trans (HE.out.1.mono HA.out.1.size))).mono ?_); rintro e w2 ⟨rfl, hb⟩; have HB2 : Hid (Below wA.heap.size wA w2 ∧ World.there w2 J 0 107 ∧ wA.heap.size ≤ J ∧ J < w2.heap.size) := Lib.hid ⟨HE.out.1.trans (hb.mono HE.out.1.size), nthere_below HE.out.2.1 hb HE.out.2.2.2, HE.out.2.2.1, Nat.lt_of_lt_of_le HE.out.2.2.2 hb.size⟩; clear hb)); refine hK.out _ _ (HS1.out _ HB2.out.1) (fun hHeld => ?_); clear hK K; (try simp only [Act.put, List.getElem_toArray, List.getElem_cons_succ, List.getElem_cons_zero, List.setIfInBounds_toArray, List.set_cons_zero, List.set_cons_succ]); refine wpAnyH_take (i := 9) (v := ?_) (by rfl) (by kernel_rfl) (by kernel_rfl) (by kernel_rfl) (fun _ _ _ h => h) (Or.inl ⟨by kernel_rfl, ?_⟩) (by assumption) ?_; rotate_left 1; (focus (intro w hSw; (try dsimp only at hSw); simp only [List.getElem_toArray, List.getElem_cons_succ, List.getElem_cons_zero]; all_goals go_simp; all_goals (try with_reducible rfl))); (try simp only [Act.put, List.getElem_toArray, List.getElem_cons_succ, List.getElem_cons_zero, List.setIfInBounds_toArray, List.set_cons_zero, List.set_cons_succ]); refine wpAnyH_take (i := 10) (v := ?_) (by rfl) (by kernel_rfl) (by kernel_rfl) (by kernel_rfl) (fun _ _ _ h => h) (Or.inl ⟨by kernel_rfl, ?_⟩) (by assumption) ?_; rotate_left 1; (focus (intro w hSw; (try dsimp only at hSw); simp only [List.getElem_toArray, List.getElem_cons_succ, List.getElem_cons_zero]; all_goals go_simp; all_goals (try with_reducible rfl))); (try simp only [Act.put, List.getElem_toArray, List.getElem_cons_succ, List.getElem_cons_zero, List.setIfInBounds_toArray, List.set_cons_zero, List.set_cons_succ]); refine wpAnyH_take (i := 11) (v := ?_) (by rfl) (by kernel_rfl) (by kernel_rfl) (by kernel_rfl) (fun _ _ _ h => h) (Or.inl ⟨by kernel_rfl, ?_⟩) (by assumption) ?_; rotate_left 1; (focus (intro w hSw; (try dsimp only at hSw); simp only [List.getElem_toArray, List.getElem_cons_succ, List.getElem_cons_zero]; all_goals go_simp; all_goals (try with_reducible rfl))); (try simp only [Act.put, List.getElem_toArray, List.getElem_cons_succ, List.getElem_cons_zero, List.setIfInBounds_toArray, List.set_cons_zero, List.set_cons_succ]); refine wpAnyH_ready (rs := [13]) (by kernel_rfl) (by simp) ?_; refine AllReadyH.cons (by rfl) (fun K hK => ?_) AllReadyH.nil; rw [if_pos (by kernel_rfl)]; simp only [List.getElem_toArray, List.getElem_cons_succ, List.getElem_cons_zero]; refine wp_store_mid 128 (Operand.tmp 3) (Operand.tmp 15) (by rfl) J 0 (rowL F).toArray (by rfl) (by rfl) (by rw [rowL_size]; exact HB2.out.2.1) (by rw [rowL_size]; exact infoDomS) (rowL_one F hF.out) ?_; generalize hW : World.setCells w2 _ _ _ = wF; have HF9 : Hid (Below wA.heap.size wA wF ∧ wF.rangeAt J 0 (rowL F) ∧ J < wF.heap.size) := Lib.hid (by rw [← hW]; refine ⟨nbelow_cells HB2.out.1 (HB2.out.2.2).1 _ _, World.rangeAt_setCells_same w2 J 0 (rowL F) (by rw [rowL_len]; exact HB2.out.2.1), ?_⟩; exact Nat.lt_of_lt_of_le (HB2.out.2.2).2 (nbelow_cells (Below.refl J w2) (Nat.le_refl J) _ _).size); clear hW; refine hK.out _ _ (HS1.out _ HF9.out.1) (fun hHeld => ?_); clear hK K; (try simp only [Act.put, List.getElem_toArray, List.getElem_cons_succ, List.getElem_cons_zero, List.setIfInBounds_toArray, List.set_cons_zero, List.set_cons_succ]); refine wpAnyH_take (i := 14) (v := ?_) (by rfl) (by kernel_rfl) (by kernel_rfl) (by kernel_rfl) (fun _ _ _ h => h) (Or.inl ⟨by kernel_rfl, ?_⟩) (by assumption) ?_; rotate_left 1; (focus (intro w hSw; (try dsimp only at hSw); simp only [List.getElem_toArray, List.getElem_cons_succ, List.getElem_cons_zero]; all_goals go_simp; all_goals (try with_reducible rfl))); (try simp only [Act.put, List.getElem_toArray, List.getElem_cons_succ, List.getElem_cons_zero, List.setIfInBounds_toArray, List.set_cons_zero, List.set_cons_succ]); refine wpAnyH_done (by kernel_rfl) ?_ _; refine NoPanic.normal ?_; go_wp2_with fail; go_meet; exact ⟨J, rfl, HF9.out.1, HF9.out.2.1, (HB2.out.2.2).1, HF9.out.2.2⟩
  case rest =>
    obtain ⟨J, rfl, hb, hr, hj0, hj1⟩ := hcut
    have HX : Hid (Below wA.heap.size wA wc ∧ World.there wc R 0 19 ∧ R < wc.heap.size) := Lib.hid ⟨hb, nthere_below HA.out.2.2.1 hb HA.out.2.2.2.2, Nat.lt_of_lt_of_le HA.out.2.2.2.2 hb.size⟩
    have q6 := CallC.cell (range_below HA.out.2.1 hb (Nat.lt_trans HA.out.2.2.2.1 HA.out.2.2.2.2)) 6 _ hc.out.c6
    have j9 : wc.cell? ⟨J, 9, none⟩ = some (.int .i64 st) := by rw [rangeD hr 9 (by decide), h8.out.1]
    have j8 : wc.cell? ⟨J, 8, none⟩ = some (.int .u32 pc) := by rw [rangeD hr 8 (by decide), h8.out.2.1]
    have j10 : wc.cell? ⟨J, 10, none⟩ = some (.int .i64 ft) := by rw [rangeD hr 10 (by decide), h8.out.2.2]
    clear hb hr hj0 hj1
    go_wp2_with (first
      | (go_at_call 73; (with_reducible refine (owords_three st pc ft wc.heap.size 3 _ (cbox _ _ _)).mono ?_); rintro e w5 ⟨rfl, hb⟩; have HB5 : Hid (Below wA.heap.size wA w5 ∧ World.there w5 R 0 19) := Lib.hid ⟨(HX.out.1.alloc HX.out.1.size _).trans (hb.mono (Nat.le_trans HX.out.1.size (by simp))), nthere_below (nthere_below HX.out.2.1 ((Below.refl _ _).alloc (Nat.le_refl _) _) HX.out.2.2) hb (Nat.lt_of_lt_of_le HX.out.2.2 (by simp))⟩; clear hb)
      | (refine wpList_store_mid (by rfl) _ _ _ (by rfl) R 0 ([.int .u32 0, .int .u32 st, .int .u32 pc, .int .u32 ft, .int .i64 0, .int .i64 0, .int .i64 0, .int .i64 0, .int .u32 0, .int .i64 0, .int .i64 0, .int .i64 0, .int .i64 0, .int .u32 0, .int .i64 0, .int .i64 0, .int .i64 0, .int .i64 0, .int .u32 0] : List Value).toArray (by rfl) (by rfl) HB5.out.2 infoNote (note_one _ _ _ _ _ _ _ _ _ _ _ _ _ _ _ _ _ _ _) ?_))
    have hRn : w.heap.size ≤ R := (by have := HA.out.2.2.2.1; have := HCl.out; omega)
    generalize hS : World.setCells w5 _ _ _ = wS
    have HS : Hid (Below w.heap.size w wS ∧ wS.rangeAt R 0 [.int .u32 0, .int .u32 st, .int .u32 pc, .int .u32 ft, .int .i64 0, .int .i64 0, .int .i64 0, .int .i64 0, .int .u32 0, .int .i64 0, .int .i64 0, .int .i64 0, .int .i64 0, .int .u32 0, .int .i64 0, .int .i64 0, .int .i64 0, .int .i64 0, .int .u32 0]) := Lib.hid (by rw [← hS]; exact ⟨nbelow_cells (HA.out.1.trans (HB5.out.1.mono HA.out.1.size)) hRn _ _, World.rangeAt_setCells_same w5 R 0 [.int .u32 0, .int .u32 st, .int .u32 pc, .int .u32 ft, .int .i64 0, .int .i64 0, .int .i64 0, .int .i64 0, .int .u32 0, .int .i64 0, .int .i64 0, .int .i64 0, .int .i64 0, .int .u32 0, .int .i64 0, .int .i64 0, .int .i64 0, .int .i64 0, .int .u32 0] HB5.out.2⟩)
    have hld := nload rfl HS.out.2
    refine bodyPost_ret (v := (Value.agg #[.int .u32 0, .int .u32 st, .int .u32 pc, .int .u32 ft, .int .i64 0, .int .i64 0, .int .i64 0, .int .i64 0, .int .u32 0, .int .i64 0, .int .i64 0, .int .i64 0, .int .i64 0, .int .u32 0, .int .i64 0, .int .i64 0, .int .i64 0, .int .i64 0, .int .u32 0])) (by simp [results, Tryz.results55, Act.put, asAddr, hld]) rfl ⟨rfl, HS.out.1⟩
end
end Go.Proofs.YthgjejclhdolmaaGreatDoor
namespace Go.Proofs.YthgjejclhdolmaaGreatDoor
open Go.ChangeShapes Go.WideShapes Go.ChangeAt Go.RowKit
set_option linter.unusedVariables false
set_option linter.unusedSimpArgs false
theorem answer_none (s : Nat) (vs vr : Value) (W : World) (hE : ErrsAt vs vr W) : Calls Tryz.prog 12 #[.pointer (some ⟨s, 0, none⟩), (Value.agg #[.int .i64 0, .int .i64 0, .int .i64 0, .int .i64 0, .int .u32 0]), .agg #[.int .u32 0, .int .u32 0, .int .u32 0, .int .u32 0, .int .i64 0, .int .i64 0, .int .i64 0, .int .i64 0, .int .u32 0, .int .i64 0, .int .i64 0, .int .i64 0, .int .i64 0, .int .u32 0, .int .i64 0, .int .i64 0, .int .i64 0, .int .i64 0, .int .u32 0]] W fun e w' => e = .returned (.tuple #[(Value.agg #[.int .u32 1, .int .u32 0, .int .u32 0, .int .u32 0, .int .i64 0, .int .i64 0, .int .i64 0, .int .i64 0, .int .u32 0, .int .i64 0, .int .i64 0, .int .i64 0, .int .i64 0, .int .u32 0, .int .i64 0, .int .i64 0, .int .i64 0, .int .i64 0, .int .u32 0]), .bool true]) ∧ Below W.heap.size W w' := by
  refine (oanswer (Q := fun w' => Below W.heap.size W w') (N := W.heap.size) (nt := [.int .u32 1, .int .u32 0, .int .u32 0, .int .u32 0, .int .i64 0, .int .i64 0, .int .i64 0, .int .i64 0, .int .u32 0, .int .i64 0, .int .i64 0, .int .i64 0, .int .i64 0, .int .u32 0, .int .i64 0, .int .i64 0, .int .i64 0, .int .i64 0, .int .u32 0]) rfl (by simp [Value.oneCell']) s 0 0 0 0 0 0 0 0 0 0 0 0 0 0 0 0 0 0 0 0 0 0 0 0 0 0 0 0 0 0 0 0 0 0 0 0 0 0 0 0 0 0 0 0 (by decide) (by decide) W (Nat.le_refl _) (fun w1 w2 h1 h2 => h1.trans h2) ?_ ?_ ?_ ?_ ?_).mono (fun e w' h9 => ⟨h9.1, h9.2.1⟩)
  · exact fun V hV => oseen_void s vs vr V (hE.below hV)
  · exact fun V hV => oseen_void s vs vr V (hE.below hV)
  · exact fun V hV => oseen_void s vs vr V (hE.below hV)
  · exact fun V hV => oseen_void s vs vr V (hE.below hV)
  · exact fun V hV => (oanswer_void (Lib.hid (c25_call s 0 0 0 0 0 0 0 0 0 0 0 0 0 0 0 0 0 0 0 0 0 0 0 0)) V).mono (fun e w' h9 => ⟨h9.1, hV.trans (h9.2.mono hV.size), UpT.below h9.2⟩)
/-- A note as a list of cells. -/
structure NtC (nt : List Value) (o a : Int) : Prop where
  len : nt.length = 19
  one : ∀ v, v ∈ nt → v.oneCell' = true
  c0 : nt[0]? = some (.int .u32 o)
  c1 : nt[1]? = some (.int .u32 a)
theorem answer_none2 : ∃ nt, NtC nt 1 0 ∧ ∀ (s : Nat) (vs vr : Value) (W : World), ErrsAt vs vr W → Calls Tryz.prog 12 #[.pointer (some ⟨s, 0, none⟩), (Value.agg #[.int .i64 0, .int .i64 0, .int .i64 0, .int .i64 0, .int .u32 0]), .agg #[.int .u32 0, .int .u32 0, .int .u32 0, .int .u32 0, .int .i64 0, .int .i64 0, .int .i64 0, .int .i64 0, .int .u32 0, .int .i64 0, .int .i64 0, .int .i64 0, .int .i64 0, .int .u32 0, .int .i64 0, .int .i64 0, .int .i64 0, .int .i64 0, .int .u32 0]] W fun e w' => e = .returned (.tuple #[.agg nt.toArray, .bool true]) ∧ Below W.heap.size W w' :=
  ⟨[.int .u32 1, .int .u32 0, .int .u32 0, .int .u32 0, .int .i64 0, .int .i64 0, .int .i64 0, .int .i64 0, .int .u32 0, .int .i64 0, .int .i64 0, .int .i64 0, .int .i64 0, .int .u32 0, .int .i64 0, .int .i64 0, .int .i64 0, .int .i64 0, .int .u32 0], ⟨rfl, by simp [Value.oneCell'], rfl, rfl⟩, answer_none⟩
set_option maxRecDepth 100000 in
set_option maxHeartbeats 2000000 in
theorem first22_is (vs vr : Value) (w : World) (hE : ErrsAt vs vr w) : Calls Tryz.prog 4 #[] w fun e w' => e = .returned (.bool true) ∧ Below w.heap.size w w' := by
  have HE := Lib.hid hE
  clear hE
  obtain ⟨nt, hN, hAn⟩ := answer_none2
  have HN := Lib.hid hN
  have HAn := Lib.hid hAn
  have hsz : nt.toArray.size = 19 := by simp [hN.len]
  clear hN hAn
  go_enter Tryz.func4, Tryz.ntmps4
  go_upto_region 4 with (first
    | (go_at_call 6; (with_reducible refine (script_ok _).mono ?_); rintro e w1 ⟨L, X, x, rfl, hs, -, hb⟩; have HB1 := Lib.hid hb; clear hs hb))
  have HA1 := Lib.hid (HAn.out X.s vs vr w1 (HE.out.below HB1.out))
  go_upto_region 5 with (first
    | (go_at_call 12; (with_reducible refine HA1.out.mono ?_); rintro e w2 ⟨rfl, hb⟩; have HB2 := Lib.hid (HB1.out.trans (hb.mono HB1.out.size)); clear hb)
    | (refine wpList_store_mid (by rfl) _ _ _ (by rfl) w2.heap.size 0 nt.toArray (by rfl) (by rfl) (by rw [hsz]; exact nthere_new _ _ 19 (by rfl) _) (by rw [hsz]; exact infoNote) (all_one HN.out.one) ?_))
  generalize hA : World.setCells _ w2.heap.size 0 _ = w3
  obtain ⟨Y, hY⟩ : ∃ Y, Y = w2.heap.size := ⟨_, rfl⟩
  have H3 : Hid (Below w.heap.size w w3 ∧ w3.rangeAt Y 0 nt) := Lib.hid (by rw [← hA, hY]; exact ⟨nbelow_cells (HB2.out.alloc HB2.out.size _) HB2.out.size _ _, World.rangeAt_setCells_same _ w2.heap.size 0 nt (by rw [HN.out.len]; exact nthere_new _ _ 19 (by rfl) _)⟩)
  rw [← hY]
  clear hA hY
  have q0 := CallC.cell H3.out.2 0 _ HN.out.c0
  go_wp2_with fail
  go_ret
  exact ⟨rfl, H3.out.1⟩
end Go.Proofs.YthgjejclhdolmaaGreatDoor
namespace Go.Proofs.YthgjejclhdolmaaGreatDoor
open Go.ChangeShapes Go.WideShapes Go.ChangeAt Go.RowKit
set_option linter.unusedVariables false
set_option linter.unusedSimpArgs false
end Go.Proofs.YthgjejclhdolmaaGreatDoor
namespace Go.Proofs.YthgjejclhdolmaaGreatDoor
open Go.ChangeShapes Go.WideShapes Go.ChangeAt Go.RowKit
set_option linter.unusedVariables false
set_option linter.unusedSimpArgs false
def kM (m0 m1 m2 m3 m4 : Int) : Nat → Int := fun j => if j = 0 then m0 else if j = 1 then m1 else if j = 2 then m2 else if j = 3 then m3 else m4
/-- A domain's row: a key in register r, a place, a state, a fault. -/
def fR (r : Nat) (m0 m1 m2 m3 m4 : Int) (pc st ft : Int) : Nat → Value := fun j => if j = 8 then .int .u32 pc else if j = 9 then .int .i64 st else if j = 10 then .int .i64 ft else if 11 + r * 5 ≤ j ∧ j < 11 + r * 5 + 5 then kval (j - (11 + r * 5)) (kM m0 m1 m2 m3 m4 (j - (11 + r * 5))) else zd1 j
section
variable (r : Nat) (m0 m1 m2 m3 m4 : Int) (pc st ft : Int)
theorem fR_reg : uK zd1 (11 + r * 5) m0 m1 m2 m3 m4 = fR r m0 m1 m2 m3 m4 0 1 0 := by
  funext j
  unfold uK uF fR
  by_cases e4 : j = 11 + r * 5 + 4
  · subst e4; rw [if_pos rfl, if_neg (by omega), if_neg (by omega), if_neg (by omega), if_pos (by omega)]
    rw [show 11 + r * 5 + 4 - (11 + r * 5) = 4 by omega]; rfl
  · rw [if_neg e4]
    by_cases e3 : j = 11 + r * 5 + 3
    · subst e3; rw [if_pos rfl, if_neg (by omega), if_neg (by omega), if_neg (by omega), if_pos (by omega)]
      rw [show 11 + r * 5 + 3 - (11 + r * 5) = 3 by omega]; rfl
    · rw [if_neg e3]
      by_cases e2 : j = 11 + r * 5 + 2
      · subst e2; rw [if_pos rfl, if_neg (by omega), if_neg (by omega), if_neg (by omega), if_pos (by omega)]
        rw [show 11 + r * 5 + 2 - (11 + r * 5) = 2 by omega]; rfl
      · rw [if_neg e2]
        by_cases e1 : j = 11 + r * 5 + 1
        · subst e1; rw [if_pos rfl, if_neg (by omega), if_neg (by omega), if_neg (by omega), if_pos (by omega)]
          rw [show 11 + r * 5 + 1 - (11 + r * 5) = 1 by omega]; rfl
        · rw [if_neg e1]
          by_cases e0 : j = 11 + r * 5
          · subst e0; rw [if_pos rfl, if_neg (by omega), if_neg (by omega), if_neg (by omega), if_pos (by omega)]
            rw [show 11 + r * 5 - (11 + r * 5) = 0 by omega]; rfl
          · rw [if_neg e0]
            by_cases h8 : j = 8
            · subst h8; rw [if_pos rfl]; rfl
            · by_cases h9 : j = 9
              · subst h9; rw [if_neg (by decide), if_pos rfl]; rfl
              · by_cases h10 : j = 10
                · subst h10; rw [if_neg (by decide), if_neg (by decide), if_pos rfl]; rfl
                · rw [if_neg h8, if_neg h9, if_neg h10, if_neg (by omega)]
theorem fR_pc (x : Int) : uF (fR r m0 m1 m2 m3 m4 pc st ft) 8 (.int .u32 x) = fR r m0 m1 m2 m3 m4 x st ft := by
  funext j
  unfold uF fR
  by_cases h8 : j = 8
  · rw [if_pos h8, if_pos h8]
  · rw [if_neg h8, if_neg h8, if_neg h8]
theorem fR_st (x : Int) : uF (fR r m0 m1 m2 m3 m4 pc st ft) 9 (.int .i64 x) = fR r m0 m1 m2 m3 m4 pc x ft := by
  funext j
  unfold uF fR
  by_cases h9 : j = 9
  · subst h9; rw [if_pos rfl, if_neg (by decide), if_pos rfl]
  · rw [if_neg h9, if_neg h9, if_neg h9]
theorem fR_ft (x : Int) : uF (fR r m0 m1 m2 m3 m4 pc st ft) 10 (.int .i64 x) = fR r m0 m1 m2 m3 m4 pc st x := by
  funext j
  unfold uF fR
  by_cases h : j = 10
  · subst h; rw [if_pos rfl, if_neg (by decide), if_neg (by decide), if_pos rfl]
  · rw [if_neg h, if_neg h, if_neg h]
theorem fR_106 (hr : r < 16) : fR r m0 m1 m2 m3 m4 pc st ft 106 = .int .i64 0 := by
  unfold fR
  rw [if_neg (by decide), if_neg (by decide), if_neg (by decide), if_neg (by omega)]; rfl
theorem kval_oneY (j : Nat) (x : Int) : (kval j x).oneCell' = true := by unfold kval; split <;> rfl
theorem fR_one (j : Nat) : (fR r m0 m1 m2 m3 m4 pc st ft j).oneCell' = true := by
  unfold fR
  split
  · rfl
  · split
    · rfl
    · split
      · rfl
      · split
        · exact kval_oneY _ _
        · exact zd1_one j
theorem fR_key (i : Nat) (hi : i < 5) : fR r m0 m1 m2 m3 m4 pc st ft (11 + r * 5 + i) = kval i (kM m0 m1 m2 m3 m4 i) := by
  unfold fR
  rw [if_neg (by omega), if_neg (by omega), if_neg (by omega), if_pos (by omega), show 11 + r * 5 + i - (11 + r * 5) = i by omega]
theorem fR_keys (hr : r < 16) : KeysIn (fR r m0 m1 m2 m3 m4 pc st ft) (fun q j => if q = r then kM m0 m1 m2 m3 m4 j else 0) := fun q j hq hj => by
  show _ = kval j (if q = r then kM m0 m1 m2 m3 m4 j else 0)
  by_cases e : q = r
  · subst e
    rw [if_pos rfl, ← Nat.add_assoc]
    exact fR_key q m0 m1 m2 m3 m4 pc st ft j hj
  · rw [if_neg e]
    have h := fX_keys 1 0 q j hq hj
    rw [fX_zd1] at h
    unfold fR
    rw [if_neg (by omega), if_neg (by omega), if_neg (by omega), if_neg (by omega)]
    exact h
theorem fR_right (hm : rightB m0 m1 m2 m3 m4 = true) : ∀ q, q < 19 → KRight (fun q j => if q = r then kM m0 m1 m2 m3 m4 j else 0) q := fun q hq => by
  unfold KRight
  by_cases e : q = r
  · simp only [e, if_true]; exact hm
  · simp only [e, if_false]; decide
end
end Go.Proofs.YthgjejclhdolmaaGreatDoor
namespace Go.Proofs.YthgjejclhdolmaaGreatDoor
open Go.ChangeShapes Go.WideShapes Go.ChangeAt Go.RowKit
set_option linter.unusedVariables false
set_option linter.unusedSimpArgs false
/-- One bank, one domain, its row. -/
structure DF (D : BSt) (f : Nat → Value) : Prop where
  nt : D.nt = fun _ => false
  pt : D.pt = fun _ => false
  nb : D.nb = 1
  dt : D.dt = upd (fun _ => false) 0 true
  dv : D.dv = fun _ => 0
  row : ∀ j, j < 107 → D.dW 0 j = f j
def DS (w0 W : World) (L : BLoc) (X : SLoc) (f : Nat → Value) : Prop := ∃ D, SJ w0 W L X D ∧ DF D f
section
variable {w0 w w' : World} {L : BLoc} {X : SLoc} {f g : Nat → Value}
theorem DS.below (h : DS w0 w L X f) (hb : Below w.heap.size w w') : DS w0 w' L X f := by obtain ⟨D, h1, h2⟩ := h; exact ⟨D, h1.below hb, h2⟩
theorem DS.get (h : DS w0 w L X f) (hn : 0 < L.dn) (hf : Hid (∀ j, j < 107 → (f j).oneCell' = true)) : Calls Tryz.prog 72 #[.pointer (some ⟨L.dP, 0, none⟩), .int .i64 0] w fun e w' => e = .returned (.tuple #[.agg (rowL f).toArray, .bool true]) ∧ Below w.heap.size w w' := by
  obtain ⟨D, h1, h2⟩ := h
  exact dget_ok 0 0 (Lib.hid rfl) hn (Lib.hid (by rw [h2.dt]; rfl)) f (Lib.hid h2.row) hf w h1.k.d
theorem DS.put (h : DS w0 w L X f) (hn : 0 < L.dn) (r : Nat) (hr : r < 16) (m0 m1 m2 m3 m4 : Int) (pc st ft : Int) (hm : rightB m0 m1 m2 m3 m4 = true) (s1 : 1 ≤ st) (s2 : st ≤ 4) (t1 : 0 ≤ ft) (t2 : ft ≤ 6) (vs vr : Value) (hE : ErrsAt vs vr w) :
    Calls Tryz.prog 162 #[.pointer (some ⟨L.dP, 0, none⟩), .int .i64 0, .agg (rowL (fR r m0 m1 m2 m3 m4 pc st ft)).toArray] w fun e w' => e = .returned .nilIface ∧ DS w0 w' L X (fR r m0 m1 m2 m3 m4 pc st ft) ∧ PBelow w w' L.dR L.dG := by
  obtain ⟨D, h1, h2⟩ := h
  refine (dput_ok 0 0 (Lib.hid rfl) hn (Lib.hid (by rw [h2.dt]; rfl)) (fR r m0 m1 m2 m3 m4 pc st ft) _ (Lib.hid (fun j _ => fR_one r m0 m1 m2 m3 m4 pc st ft j)) (Lib.hid (fR_keys r m0 m1 m2 m3 m4 pc st ft hr)) (Lib.hid (fR_right r m0 m1 m2 m3 m4 hm)) st ft 0 (Lib.hid ⟨rfl, rfl, fR_106 r m0 m1 m2 m3 m4 pc st ft hr⟩) s1 s2 t1 t2 (by decide) (by decide) vs vr w hE h1.k.d).mono ?_
  rintro e w' ⟨he, hd, hb⟩
  have hdm := h1.k.db
  have hT := h1.k.tt
  have hw := h1.k.tw
  refine ⟨he, ⟨_, h1.step (h1.k.doms hd hb) ⟨UpT.pb hb (T := L.T) (by omega) (by omega), fun k _ _ n1 n2 hk => hb.2.2.2.2 k hk n1 n2⟩, ⟨h2.nt, h2.pt, h2.nb, h2.dt, h2.dv, fun j hj => updS_row _ 0 j _ hj⟩⟩, hb⟩
end
end Go.Proofs.YthgjejclhdolmaaGreatDoor
namespace Go.Proofs.YthgjejclhdolmaaGreatDoor.V
open Go.ChangeShapes Go.WideShapes Go.ChangeAt Go.RowKit Go.Maps
set_option linter.unusedVariables false
set_option linter.unusedSimpArgs false
theorem own_same {w w' : World} {B E s n : Nat} {v : Value} {xs : List Value} (h : w.ownsRow B E s v n xs) (hb : ∀ g, v.ownBlock = some g → w'.heap[g]? = w.heap[g]?) : w'.ownsRow B E s v n xs := by
  refine ⟨h.1, ?_⟩
  rcases h.2 with hn | ⟨g, cap, cur, rfl, hB, hg, rest⟩
  · exact .inl hn
  · exact .inr ⟨g, cap, cur, rfl, hB, (hb g rfl).trans hg, rest⟩
abbrev U1 : Value → Option (DataW Unit × List MemPlace) := unitElem (H := Unit)
theorem lawI : Keyed Tryz.prog 3 := int_keyed Tryz.underlying3
theorem zeroU (w : World) : (zeroValue 86).run Tryz.prog w = .ok (.agg #[]) w := by kernel_rfl
theorem infoInt : (Tryz.prog.info? 3).map (fun i => (i.zero, i.size, i.bytes)) = some (some (.int .i64 0), 1, 8) := by kernel_rfl
theorem eql_map (m : Option Nat) (w : World) : (binOp .eql 89 (.map m) (.map none)).run Tryz.prog w = .ok (.bool m.isNone) w := by
  simp only [binOp]
  simp [run_equal_map_nil w 89 3 86 m Tryz.underlying89]
abbrev kI (x : Int) : Lit := .int .i64 x
def wfI (x : Int) : Prop := (Lit.int .i64 x).wf = true
theorem wfI.key {x : Int} (h : wfI x) : keyOf Tryz.prog 3 (.int .i64 x) = some (kI x) := keyOf_int_mk Tryz.underlying3 h
theorem wfI.fit {a : Int} (h : wfI a) : -9223372036854775808 ≤ a ∧ a ≤ 9223372036854775807 := by
  unfold wfI at h
  simpa [Lit.wf, IntKind.min, IntKind.max, IntKind.signed, IntKind.bits] using h
theorem wfI.mk {a : Int} (h1 : -9223372036854775808 ≤ a) (h2 : a ≤ 9223372036854775807) : wfI a := WalkArith.wf_i64 ⟨h1, h2⟩
theorem addr_ne0 (q o : Nat) : (⟨q, o, none⟩ : Addr) ≠ ⟨q, o + 1, none⟩ := by simp
theorem addr_ne1 (q o : Nat) : (⟨q, o + 1, none⟩ : Addr) ≠ ⟨q, o, none⟩ := by simp
theorem addr_ne (q : Nat) {i j : Nat} (h : j ≠ i) : (⟨q, i, none⟩ : Addr) ≠ ⟨q, j, none⟩ := by simp [Ne.symm h]
theorem cs_same {w : World} {a : Addr} {u v : Value} (h : w.cell? a = some u) : (w.setCell a v).cell? a = some v := World.cell?_setCell_same _ _ _ h
theorem cs_other {w : World} {a b : Addr} {v : Value} (h : a ≠ b) : (w.setCell a v).cell? b = w.cell? b := World.cell?_setCell_other _ _ _ _ h
theorem fz_set {w : World} {a b : Addr} {v : Value} : (w.setCell a v).frozen? b = w.frozen? b := World.frozen?_setCell _ _ _ _
/-- A queue lies at block q, from o on: the row v of its numbers l, the map at block M that has just those. -/
structure VM (w : World) (base q o b : Nat) (l : List Int) (v : Value) (M : Nat) (D : DataW Unit) : Prop where
  c0 : w.cell? ⟨q, o, none⟩ = some v
  c1 : w.cell? ⟨q, o + 1, none⟩ = some (.map (some M))
  f0 : w.frozen? ⟨q, o, none⟩ = false
  f1 : w.frozen? ⟨q, o + 1, none⟩ = false
  row : w.ownsRow base 3 1 v l.length (l.map (Value.int .i64))
  qv : v.ownBlock ≠ some q
  mp : w.ownsMap Tryz.prog 3 U1 M b D
  mb : base ≤ M
  has : ∀ x, Maps.has D (kI x) = l.contains x
  nd : l.Nodup
  vals : ∀ x ∈ l, wfI x
/-- The blocks of a queue. -/
def SM (q : Nat) (v : Value) (M : Nat) : Nat → Prop := fun k => k = q ∨ v.ownBlock = some k ∨ k = M
def SN (q : Nat) : Nat → Prop := fun k => k = q
/-- What changed is of the queue's blocks alone (of the first, its two cells alone), and so is what is the queue's now, but for what is new. -/
structure VFr (q o : Nat) (w w' : World) (S S' : Nat → Prop) : Prop where
  os : w'.os = w.os
  tape : w'.tape = w.tape
  output : w'.output = w.output
  size : w.heap.size ≤ w'.heap.size
  block : ∀ k, k < w.heap.size → ¬ S k → w'.heap[k]? = w.heap[k]? ∧ ¬ S' k
  rest : ∀ j, j ≠ o → j ≠ o + 1 → w'.cell? ⟨q, j, none⟩ = w.cell? ⟨q, j, none⟩ ∧ w'.frozen? ⟨q, j, none⟩ = w.frozen? ⟨q, j, none⟩
section
variable {w w' w'' : World} {S S' S'' : Nat → Prop} {base q o b M : Nat} {l : List Int} {v : Value} {D : DataW Unit}
theorem same_cells (h : w'.heap[q]? = w.heap[q]?) (j : Nat) : w'.cell? ⟨q, j, none⟩ = w.cell? ⟨q, j, none⟩ ∧ w'.frozen? ⟨q, j, none⟩ = w.frozen? ⟨q, j, none⟩ := ⟨World.cell?_of_block (a := ⟨q, j, none⟩) h, World.frozen?_of_block (a := ⟨q, j, none⟩) h⟩
theorem VFr.refl (w : World) (S : Nat → Prop) : VFr q o w w S S := ⟨rfl, rfl, rfl, Nat.le_refl _, fun _ _ h => ⟨rfl, h⟩, fun _ _ _ => ⟨rfl, rfl⟩⟩
theorem VFr.trans (h : VFr q o w w' S S') (h2 : VFr q o w' w'' S' S'') : VFr q o w w'' S S'' :=
  ⟨h2.os.trans h.os, h2.tape.trans h.tape, h2.output.trans h.output, Nat.le_trans h.size h2.size, fun k hk hn => by
    have a := h.block k hk hn
    have c := h2.block k (Nat.lt_of_lt_of_le hk h.size) a.2
    exact ⟨c.1.trans a.1, c.2⟩, fun j h1 h3 => ⟨(h2.rest j h1 h3).1.trans (h.rest j h1 h3).1, (h2.rest j h1 h3).2.trans (h.rest j h1 h3).2⟩⟩
theorem VFr.of_below (h : Below w.heap.size w w') (hq : q < w.heap.size) (S : Nat → Prop) : VFr q o w w' S S := ⟨h.os, h.tape, h.output, h.size, fun k hk hn => ⟨h.block k hk, hn⟩, fun j _ _ => same_cells (h.block q hq) j⟩
theorem VFr.of_grown {g : Nat} (h : w.grownBy w' (some g)) (hS : S g) (hq : q < w.heap.size) (hg : g ≠ q) : VFr q o w w' S S := ⟨h.os, h.tape, h.output, h.size, fun k hk hn => ⟨h.block k hk (fun e => hn (by injection e with e; rw [e]; exact hS)), hn⟩, fun j _ _ => same_cells (h.block q hq (fun e => hg (by injection e with e; exact e.symm))) j⟩
theorem VFr.of_grown' {r : Option Nat} (h : w.grownBy w' r) (hS : ∀ g, r = some g → S g) (hq : q < w.heap.size) (hg : r ≠ some q) : VFr q o w w' S S := ⟨h.os, h.tape, h.output, h.size, fun k hk hn => ⟨h.block k hk (fun e => hn (hS k e.symm)), hn⟩, fun j _ _ => same_cells (h.block q hq (fun e => hg e.symm)) j⟩
theorem VFr.of_set (w : World) (q o j : Nat) (u : Value) (hj : j = o ∨ j = o + 1) (S : Nat → Prop) (hS : S q) : VFr q o w (w.setCell ⟨q, j, none⟩ u) S S :=
  ⟨rfl, rfl, rfl, by simp, fun k hk hn => ⟨Below.heap_setCell _ _ _ _ (fun e => hn (by rw [show k = q from by simpa using e]; exact hS)), hn⟩, fun i h1 h2 => ⟨cs_other (addr_ne q (by omega)), fz_set⟩⟩
theorem VFr.turn (h : VFr q o w w' S S') (h2 : ∀ k, k < w.heap.size → ¬ S k → ¬ S'' k) : VFr q o w w' S S'' := ⟨h.os, h.tape, h.output, h.size, fun k hk hn => ⟨(h.block k hk hn).1, h2 k hk hn⟩, h.rest⟩
theorem VM.lt (h : VM w base q o b l v M D) : q < w.heap.size := World.block_lt_of_cell? w _ h.c0
theorem VM.mq (h : VM w base q o b l v M D) : M ≠ q := by
  intro e
  obtain ⟨es, cl, hm, _⟩ := h.mp
  have hc := h.c0
  rw [e] at hm
  simp [World.cell?, hm] at hc
theorem VM.mv (h : VM w base q o b l v M D) : v.ownBlock ≠ some M := by
  intro e
  obtain ⟨es, cl, hm, _⟩ := h.mp
  rcases h.row.2 with ⟨rfl, _⟩ | ⟨g, cap, cur, rfl, hB, hg, rest⟩
  · cases e
  · simp [Value.ownBlock] at e
    rw [e, hm] at hg
    cases hg
theorem VM.lo (h : VM w base q o b l v M D) : ∀ k, SM q v M k → k = q ∨ base ≤ k := by
  intro k hk
  rcases hk with rfl | hk | rfl
  · exact .inl rfl
  · exact .inr (h.row.lt k hk).1
  · exact .inr h.mb
theorem VM.hi (h : VM w base q o b l v M D) : ∀ k, SM q v M k → k < w.heap.size := by
  intro k hk
  rcases hk with rfl | hk | rfl
  · exact h.lt
  · exact (h.row.lt k hk).2
  · exact h.mp.lt
/-- A queue of whose cells nothing has changed. -/
theorem VM.same (h : VM w base q o b l v M D) (h0 : ∀ j, j = o ∨ j = o + 1 → w'.cell? ⟨q, j, none⟩ = w.cell? ⟨q, j, none⟩ ∧ w'.frozen? ⟨q, j, none⟩ = w.frozen? ⟨q, j, none⟩) (hb : ∀ k, SM q v M k → k ≠ q → w'.heap[k]? = w.heap[k]?) : VM w' base q o b l v M D := by
  refine ⟨(h0 o (.inl rfl)).1.trans h.c0, (h0 _ (.inr rfl)).1.trans h.c1, (h0 o (.inl rfl)).2.trans h.f0, (h0 _ (.inr rfl)).2.trans h.f1, own_same h.row (fun g hg => hb g (.inr (.inl hg)) (fun e => h.qv (by rw [← e]; exact hg))), h.qv, ?_, h.mb, h.has, h.nd, h.vals⟩
  obtain ⟨es, cl, hm, r⟩ := h.mp
  exact ⟨es, cl, (hb M (.inr (.inr rfl)) h.mq).trans hm, r⟩
theorem VM.below (h : VM w base q o b l v M D) (hb : Below w.heap.size w w') : VM w' base q o b l v M D := h.same (fun j _ => same_cells (hb.block q h.lt) j) fun k hk _ => hb.block k (h.hi k hk)
theorem VM.more (h : VM w base q o b l v M D) {b' : Nat} (hb : b ≤ b') : VM w base q o b' l v M D := ⟨h.c0, h.c1, h.f0, h.f1, h.row, h.qv, h.mp.mono hb, h.mb, h.has, h.nd, h.vals⟩
/-- An empty queue, as it is laid. -/
structure VN (w : World) (q o : Nat) : Prop where
  c0 : w.cell? ⟨q, o, none⟩ = some (.slice none 0 0)
  c1 : w.cell? ⟨q, o + 1, none⟩ = some (.map none)
  f0 : w.frozen? ⟨q, o, none⟩ = false
  f1 : w.frozen? ⟨q, o + 1, none⟩ = false
theorem VN.lt (h : VN w q o) : q < w.heap.size := World.block_lt_of_cell? w _ h.c0
theorem VN.same (h : VN w q o) (h0 : ∀ j, j = o ∨ j = o + 1 → w'.cell? ⟨q, j, none⟩ = w.cell? ⟨q, j, none⟩ ∧ w'.frozen? ⟨q, j, none⟩ = w.frozen? ⟨q, j, none⟩) : VN w' q o :=
  ⟨(h0 o (.inl rfl)).1.trans h.c0, (h0 _ (.inr rfl)).1.trans h.c1, (h0 o (.inl rfl)).2.trans h.f0, (h0 _ (.inr rfl)).2.trans h.f1⟩
theorem VM.made (w : World) (h : VN w q o) (hs : base ≤ w.heap.size) :
    VM ((w.alloc (.map #[] 0)).setCell ⟨q, o + 1, none⟩ (.map (some w.heap.size))) base q o 0 [] (.slice none 0 0) w.heap.size (.map []) ∧ VFr q o w ((w.alloc (.map #[] 0)).setCell ⟨q, o + 1, none⟩ (.map (some w.heap.size))) (SN q) (SM q (.slice none 0 0) w.heap.size) := by
  have hlt := h.lt
  have hb : Below w.heap.size w (w.alloc (.map #[] 0)) := (Below.refl _ _).alloc (Nat.le_refl _) _
  have h1 := h.same (fun j _ => same_cells (hb.block q hlt) j)
  refine ⟨⟨(cs_other (addr_ne1 q o)).trans h1.c0, cs_same h1.c1, fz_set.trans h1.f0, fz_set.trans h1.f1, World.ownsRow_nil _ _ _ _, by simp [Value.ownBlock], (World.ownsMap_made w _ _ _).setCell (by simp; omega) _, hs, fun x => by simp [Maps.has], List.nodup_nil, by simp⟩, ?_⟩
  refine ((VFr.of_below hb hlt (SN q)).trans (VFr.of_set _ q o (o + 1) _ (.inr rfl) (SN q) rfl)).turn fun k hk hn => ?_
  rintro (e | e | e)
  · exact hn e
  · cases e
  · omega
end
/-- Brought to the end, each that is not there. -/
def putAll (l ms : List Int) : List Int := ms.foldl (fun l x => if l.contains x then l else l ++ [x]) l
theorem putAll_snoc (l ms : List Int) (x : Int) : putAll l (ms ++ [x]) = if (putAll l ms).contains x then putAll l ms else putAll l ms ++ [x] := by
  unfold putAll
  rw [List.foldl_append]
  rfl
theorem putAll_len (l ms : List Int) : l.length ≤ (putAll l ms).length ∧ (putAll l ms).length ≤ l.length + ms.length := by
  induction ms generalizing l with
  | nil => exact ⟨Nat.le_refl _, Nat.le_refl _⟩
  | cons x ms ih =>
    have e : putAll l (x :: ms) = putAll (if l.contains x then l else l ++ [x]) ms := rfl
    rw [e]
    by_cases hc : l.contains x = true
    · rw [if_pos hc]
      have := ih l
      rw [List.length_cons]
      omega
    · rw [if_neg hc]
      have := ih (l ++ [x])
      rw [List.length_append] at this
      simp only [List.length_cons, List.length_nil] at this ⊢
      omega
theorem take_succ' (xs : List Int) (k : Nat) (h : k < xs.length) : xs.take (k + 1) = xs.take k ++ [xs.getD k 0] := by
  rw [List.take_succ_eq_append_getElem h]
  simp [List.getD, h]
section
variable {w w1 w2 w3 : World} {base q o b M : Nat} {l : List Int} {v v2 : Value} {D : DataW Unit}
theorem isKey (x : Int) : WideAt.IsKeyLit (kI x) := by trivial
/-- The queue's own cells, two writes apart from them on. -/
theorem VM.mid {ob : Obj} (h : VM w base q o b l v M D) (hg : w.grownBy w2 (some M)) (hg3 : (w2.alloc ob).grownBy w3 v.ownBlock) : w3.heap[q]? = w.heap[q]? := by
  have s0 := h.lt
  have s1 := hg.size
  exact (hg3.block q (by simp; omega) (fun e => h.qv e.symm)).trans ((Below.heap_alloc _ _ _ (by omega)).trans (hg.block q s0 (fun e => h.mq (by injection e with e; exact e.symm))))
/-- One more number at the end. -/
theorem VM.put (h : VM w base q o b l v M D) (x : Int) (hx : wfI x) (hin : l.contains x = false) (ob : Obj)
    (hm : w2.ownsMap Tryz.prog 3 U1 M (b + 1) (D.put (kI x) (.agg []))) (hg : w.grownBy w2 (some M))
    (hrow : w3.ownsRow base 3 1 v2 (l.length + 1) (l.map (Value.int .i64) ++ [.int .i64 x])) (hg3 : (w2.alloc ob).grownBy w3 v.ownBlock) (hloc : v2.ownBlock = v.ownBlock ∨ v2.ownBlock = some (w2.alloc ob).heap.size) :
    VM (w3.setCell ⟨q, o, none⟩ v2) base q o (b + 1) (l ++ [x]) v2 M (D.put (kI x) (.agg [])) ∧ VFr q o w (w3.setCell ⟨q, o, none⟩ v2) (SM q v M) (SM q v2 M) := by
  have s0 := h.lt
  have s1 := hg.size
  have s2 : (w2.alloc ob).heap.size = w2.heap.size + 1 := by simp
  have s3 := hg3.size
  have hmid := same_cells (h.mid hg hg3)
  have hM := hm.lt
  have hm3 : w3.ownsMap Tryz.prog 3 U1 M (b + 1) (D.put (kI x) (.agg [])) := (hm.alloc ob).kept hg3 (fun e => h.mv e.symm)
  have hv2q : v2.ownBlock ≠ some q := by
    rcases hloc with e | e
    · rw [e]; exact h.qv
    · rw [e]; intro e2; injection e2 with e2; omega
  refine ⟨⟨cs_same ((hmid o).1.trans h.c0), (cs_other (addr_ne0 q o)).trans ((hmid (o + 1)).1.trans h.c1), fz_set.trans ((hmid o).2.trans h.f0), fz_set.trans ((hmid (o + 1)).2.trans h.f1), ?_, hv2q, hm3.setCell h.mq _, h.mb, ?_, ?_, ?_⟩, ?_⟩
  · have := ownsRow_setCell_other hrow (a := ⟨q, o, none⟩) hv2q v2
    simpa using this
  · intro y
    by_cases e : y = x
    · subst e
      rw [Maps.has_put_same h.mp.isMap (isKey y)]
      simp
    · rw [Maps.has_put_other (by simpa using e), h.has y]
      simp [e]
  · rw [List.nodup_append]
    refine ⟨h.nd, by simp, fun a ha b hb => ?_⟩
    simp at hb hin
    rw [hb]
    exact fun e => hin (e ▸ ha)
  · intro y hy
    rcases List.mem_append.1 hy with hy | hy
    · exact h.vals y hy
    · simp at hy
      rw [hy]
      exact hx
  · have f1 : VFr q o w w2 (SM q v M) (SM q v M) := VFr.of_grown hg (.inr (.inr rfl)) s0 h.mq
    have f2 : VFr q o w2 (w2.alloc ob) (SM q v M) (SM q v M) := VFr.of_below ((Below.refl _ _).alloc (Nat.le_refl _) _) (by omega) _
    have f3 : VFr q o (w2.alloc ob) w3 (SM q v M) (SM q v M) := VFr.of_grown' hg3 (fun g e => .inr (.inl e)) (by omega) h.qv
    have f4 : VFr q o w3 (w3.setCell ⟨q, o, none⟩ v2) (SM q v M) (SM q v M) := VFr.of_set w3 q o o v2 (.inl rfl) _ (.inl rfl)
    refine (((f1.trans f2).trans f3).trans f4).turn fun k hk hn => ?_
    rintro (e | e | e)
    · exact hn (.inl e)
    · rcases hloc with e2 | e2
      · exact hn (.inr (.inl (e2 ▸ e)))
      · rw [e2] at e
        injection e with e
        omega
    · exact hn (.inr (.inr e))
end
end Go.Proofs.YthgjejclhdolmaaGreatDoor.V
namespace Go.Proofs.YthgjejclhdolmaaGreatDoor.V
open Go.ChangeShapes Go.WideShapes Go.ChangeAt Go.RowKit Go.Maps
set_option linter.unusedVariables false
theorem qhas_m {base q o b M : Nat} {l : List Int} {v : Value} {D : DataW Unit} (x : Int) (hx : wfI x) (t : Bool) (ht : Hid (l.contains x = t)) (w : World) (h : VM w base q o b l v M D) :
    Calls Tryz.prog 14 #[.pointer (some ⟨q, o, none⟩), .int .i64 x] w fun e w' => e = .returned (.bool t) ∧ Below w.heap.size w w' := by
  have HT : Hid (Maps.has D (kI x) = t) := Lib.hid (by rw [h.has x]; exact ht.out)
  have H := Lib.hid h
  have c1 := h.c1
  have hkey := hx.key
  clear h ht
  go_enter Tryz.func14, Tryz.ntmps14
  go_wp2_with (first | (at_lookup; refine wpList_lookup_own_unit _ rfl _ _ 89 rfl 3 86 lawI Tryz.underlying89 (zeroU _) M b D rfl H.out.mp _ _ rfl hkey ?_; rw [HT.out]))
  go_ret
  exact ⟨rfl, (Below.refl _ _).alloc (Nat.le_refl _) _⟩
theorem qhas_n {q o : Nat} (x : Int) (hx : wfI x) (w : World) (hc : w.cell? ⟨q, o + 1, none⟩ = some (.map none)) :
    Calls Tryz.prog 14 #[.pointer (some ⟨q, o, none⟩), .int .i64 x] w fun e w' => e = .returned (.bool false) ∧ Below w.heap.size w w' := by
  have hl := fun W : World => Maps.look_nil (w := W) true lawI Tryz.underlying89 (zeroU W) hx.key
  simp only [if_true] at hl
  go_enter Tryz.func14, Tryz.ntmps14
  go_wp2
  go_ret
  exact ⟨rfl, (Below.refl _ _).alloc (Nat.le_refl _) _⟩
/-- Numbers in a row, apart from a queue. -/
structure Src (w : World) (a : Option Addr) (zs : List Int) (S : Nat → Prop) : Prop where
  vals : ∀ x ∈ zs, wfI x
  src : zs ≠ [] → ∃ ad, a = some ad ∧ ad.block < w.heap.size ∧ ¬ S ad.block ∧ ∀ i, i < zs.length → w.cell? (ad.add i) = some (.int .i64 (zs.getD i 0))
theorem add_block' (ad : Addr) (n : Nat) : (ad.add n).block = ad.block := by unfold Addr.add; split <;> rfl
theorem Src.kept {q o : Nat} {w w' : World} {a : Option Addr} {zs : List Int} {S S' : Nat → Prop} (h : Src w a zs S) (hf : VFr q o w w' S S') : Src w' a zs S' := by
  refine ⟨h.vals, fun hz => ?_⟩
  obtain ⟨ad, h1, h2, h3, h4⟩ := h.src hz
  have := hf.block _ h2 h3
  exact ⟨ad, h1, Nat.lt_of_lt_of_le h2 hf.size, this.2, fun i hi => (World.cell?_of_block (by rw [add_block']; exact this.1)).trans (h4 i hi)⟩
theorem ret_i64 {a b : Int} (h : a = b) : Ending.returned (.int .i64 a) = .returned (.int .i64 b) := by rw [h]
theorem cnt_step (a b c : Nat) (h : c = a + 1) : Value.int .i64 ((a : Int) - b + 1) = .int .i64 ((c : Int) - b) := by
  rw [h]
  congr 1
  omega
theorem VM.mid3 {w w2 w3 : World} {base q o b M : Nat} {l : List Int} {v : Value} {D : DataW Unit} {ob : Obj} (h : VM w base q o b l v M D) (hg : w.grownBy w2 (some M)) (hg3 : (w2.alloc ob).grownBy w3 v.ownBlock) : w3.cell? ⟨q, o, none⟩ = some v ∧ w3.frozen? ⟨q, o, none⟩ = false :=
  ⟨(same_cells (h.mid hg hg3) o).1.trans h.c0, (same_cells (h.mid hg hg3) o).2.trans h.f0⟩
theorem owns_slice {w : World} {B E s n : Nat} {v : Value} {xs : List Value} (h : w.ownsRow B E s v n xs) (hn : 0 < n) : ∃ g c, v = .slice (some ⟨g, 0, none⟩) n c := by
  rcases h.2 with ⟨_, h0⟩ | ⟨g, cap, cur, rfl, _⟩
  · omega
  · exact ⟨g, cap, rfl⟩
/-- The round's state of Put. -/
def PutR (w : World) (base q o b m : Nat) (l zs : List Int) (v : Value) (M : Nat) (c i : Value) (wr : World) : Prop :=
  ∃ (k : Nat) (l' : List Int) (v' : Value) (D' : DataW Unit), k ≤ m ∧ i = .int .i64 k ∧ l' = putAll l (zs.take k) ∧ c = .int .i64 ((l'.length : Int) - l.length) ∧ VM wr base q o (b + k) l' v' M D' ∧ VFr q o w wr (SM q v M) (SM q v' M)
/-- A queue, empty as it is laid or not; its blocks. -/
def VI (w : World) (base q o b : Nat) (l : List Int) (S : Nat → Prop) : Prop :=
  (VN w q o ∧ l = [] ∧ S = SN q) ∨ ∃ v M D, VM w base q o b l v M D ∧ S = SM q v M
section
variable {w w' : World} {base q o b : Nat} {l : List Int} {S : Nat → Prop}
theorem VI.lo (h : VI w base q o b l S) : ∀ k, S k → k = q ∨ base ≤ k := by
  rcases h with ⟨h1, h2, rfl⟩ | ⟨v, M, D, h, rfl⟩
  · exact fun k hk => .inl hk
  · exact h.lo
theorem VI.lt (h : VI w base q o b l S) : q < w.heap.size := by
  rcases h with ⟨h1, h2, rfl⟩ | ⟨v, M, D, h, rfl⟩
  · exact h1.lt
  · exact h.lt
theorem VI.hi (h : VI w base q o b l S) : ∀ k, S k → k < w.heap.size := by
  rcases h with ⟨h1, h2, rfl⟩ | ⟨v, M, D, h, rfl⟩
  · intro k hk
    rw [show k = q from hk]
    exact h1.lt
  · exact h.hi
theorem VI.same (h : VI w base q o b l S) (h0 : ∀ j, j = o ∨ j = o + 1 → w'.cell? ⟨q, j, none⟩ = w.cell? ⟨q, j, none⟩ ∧ w'.frozen? ⟨q, j, none⟩ = w.frozen? ⟨q, j, none⟩) (hb : ∀ k, S k → k ≠ q → w'.heap[k]? = w.heap[k]?) : VI w' base q o b l S := by
  rcases h with ⟨h1, h2, rfl⟩ | ⟨v, M, D, h, rfl⟩
  · exact .inl ⟨h1.same h0, h2, rfl⟩
  · exact .inr ⟨v, M, D, h.same h0 hb, rfl⟩
theorem VI.below (h : VI w base q o b l S) (hb : Below w.heap.size w w') : VI w' base q o b l S := h.same (fun j _ => same_cells (hb.block q h.lt) j) fun k hk _ => hb.block k (h.hi k hk)
theorem VI.more {b' : Nat} (h : VI w base q o b l S) (hb : b ≤ b') : VI w base q o b' l S := by
  rcases h with ⟨h1, h2, rfl⟩ | ⟨v, M, D, h, rfl⟩
  · exact .inl ⟨h1, h2, rfl⟩
  · exact .inr ⟨v, M, D, h.more hb, rfl⟩
theorem VI.map (h : VI w base q o b l S) : ∃ mo, w.cell? ⟨q, o + 1, none⟩ = some (.map mo) ∧ ((mo = none ∧ VN w q o ∧ l = [] ∧ S = SN q) ∨ ∃ v M D, mo = some M ∧ VM w base q o b l v M D ∧ S = SM q v M) := by
  rcases h with ⟨h1, h2, rfl⟩ | ⟨v, M, D, h, rfl⟩
  · exact ⟨none, h1.c1, .inl ⟨rfl, h1, h2, rfl⟩⟩
  · exact ⟨some M, h.c1, .inr ⟨v, M, D, rfl, h, rfl⟩⟩
theorem VI.vals (h : VI w base q o b l S) : ∀ x ∈ l, wfI x := by
  rcases h with ⟨h1, rfl, rfl⟩ | ⟨v, M, D, h, rfl⟩
  · simp
  · exact h.vals
theorem VI.nd (h : VI w base q o b l S) : l.Nodup := by
  rcases h with ⟨h1, rfl, rfl⟩ | ⟨v, M, D, h, rfl⟩
  · exact List.nodup_nil
  · exact h.nd
theorem VI.row (h : VI w base q o b l S) : ∃ a c, w.cell? ⟨q, o, none⟩ = some (.slice a l.length c) ∧ w.ownsRow base 3 1 (.slice a l.length c) l.length (l.map (Value.int .i64)) ∧ (∀ ad, a = some ad → S ad.block) := by
  rcases h with ⟨h1, rfl, rfl⟩ | ⟨v, M, D, h, rfl⟩
  · exact ⟨none, 0, h1.c0, World.ownsRow_nil _ _ _ _, by simp⟩
  · have hr := h.row
    rcases h.row.2 with ⟨rfl, h0⟩ | ⟨g, cap, cur, rfl, _⟩
    · exact ⟨none, 0, by rw [h0]; exact h.c0, by rw [h0] at hr ⊢; exact hr, by simp⟩
    · exact ⟨some ⟨g, 0, none⟩, cap, h.c0, hr, fun ad e => by injection e with e; rw [← e]; exact .inr (.inl rfl)⟩
end
theorem qhas_is {base q o b : Nat} {l : List Int} {S : Nat → Prop} (x : Int) (hx : wfI x) (t : Bool) (ht : Hid (l.contains x = t)) (w : World) (h : VI w base q o b l S) :
    Calls Tryz.prog 14 #[.pointer (some ⟨q, o, none⟩), .int .i64 x] w fun e w' => e = .returned (.bool t) ∧ Below w.heap.size w w' := by
  rcases h with ⟨h1, rfl, rfl⟩ | ⟨v, M, D, h, rfl⟩
  · have e : t = false := by rw [← ht.out]; rfl
    rw [e]
    exact qhas_n x hx w h1.c1
  · exact qhas_m x hx t ht w h
set_option maxRecDepth 100000 in
set_option maxHeartbeats 8000000 in
theorem qput_is {base q o b : Nat} {l : List Int} {S : Nat → Prop} (a : Option Addr) (m c : Nat) (zs : List Int) (hm : Hid (zs.length = m)) (hz : m ≤ 100000) (hl : l.length ≤ 100000) (hb : b ≤ 100000) (r : Int) (hr : Hid (((putAll l zs).length : Int) - l.length = r)) (w : World) (h : VI w base q o b l S) (hs : Src w a zs S) (hB : base ≤ w.heap.size) :
    Calls Tryz.prog 128 #[.pointer (some ⟨q, o, none⟩), .slice a m c] w fun e w' => ∃ S', e = .returned (.int .i64 r) ∧ VI w' base q o (b + m) (putAll l zs) S' ∧ VFr q o w w' S S' := by
  obtain ⟨i0, hi, hz0, hz1, hz2⟩ := info_parts infoInt
  have HI := Lib.hid (⟨hi, hz0, hz1, hz2⟩ : Tryz.prog.info? 3 = some i0 ∧ i0.zero = some (.int .i64 0) ∧ i0.size = 1 ∧ i0.bytes = 8)
  obtain ⟨mo, c1, hcase⟩ := h.map
  have HC := Lib.hid hcase
  have HS := Lib.hid hs
  have hq : ∀ W : World, (binOp .eql 89 (.map mo) (.map none)).run Tryz.prog W = .ok (.bool mo.isNone) W := fun W => eql_map mo W
  have hmm := @run_makeMap Tryz.prog
  clear h hs hi hz0 hz1 hz2 hcase
  go_enter Tryz.func128, Tryz.ntmps128
  go_upto_if 12 with fail
  go_cut [] (fun wx => ∃ v M D, VM wx base q o b l v M D ∧ VFr q o w wx S (SM q v M))
  case first =>
    rcases HC.out with ⟨rfl, h1, rfl, rfl⟩ | ⟨v, M, D, rfl, h, rfl⟩
    · have h2 := h1.same (fun j _ => same_cells (((Below.refl w.heap.size w).alloc (Nat.le_refl _) (.map #[] 0)).block q h1.lt) j)
      have c2 := h2.c1
      have c3 := h2.f1
      have HM := Lib.hid (VM.made w h1 hB)
      clear h1 h2 c1 hq
      go_wp2_with fail
      go_meet
      exact ⟨_, _, _, HM.out.1.more (Nat.zero_le _), HM.out.2⟩
    · have H := Lib.hid h
      clear h hq
      go_wp2_with fail
      go_meet
      exact ⟨v, M, D, H.out, VFr.refl _ _⟩
  case rest =>
    obtain ⟨v, M, D, hQ0, hF0⟩ := hcut
    have H := Lib.hid hQ0
    have HF0 := Lib.hid hF0
    have HB0 := Lib.hid (show base ≤ wc.heap.size from Nat.le_trans hB hF0.size)
    have HS2 := Lib.hid (HS.out.kept hF0)
    clear hQ0 hF0 hq HS hB c1
    go_wp2_with fail
    go_loopw [5, 19] (fun c i wr => PutR wc base q o b m l zs v M c i wr) (fun _ i _ => m - (intOf i).toNat)
    case atStart => exact ⟨0, l, v, D, by omega, rfl, rfl, by simp, H.out, VFr.refl _ _⟩
    case round =>
      obtain ⟨k, l', v', D', hk, rfl, hl', rfl, hQ, hF⟩ := hrel
      have HQ := Lib.hid hQ
      have HF := Lib.hid hF
      have HL := Lib.hid hl'
      have hle : l.length ≤ l'.length ∧ l'.length ≤ l.length + k := by
        rw [hl']
        have := putAll_len l (zs.take k)
        have e : (zs.take k).length ≤ k := List.length_take_le _ _
        omega
      obtain ⟨hle1, hle2⟩ := hle
      clear hl' hQ hF
      by_cases hlt : k < m
      · have hkz : k < zs.length := by rw [hm.out]; exact hlt
        obtain ⟨ad, had, hb1, hb2, hc⟩ := (HS2.out.kept HF.out).src (by intro e; rw [e] at hkz; simp at hkz)
        have hcell := hc k hkz
        have hx : wfI (zs.getD k 0) := HS2.out.vals _ (by simp [List.getD, hkz])
        have HX : Hid (zs.take (k + 1) = zs.take k ++ [zs.getD k 0]) := Lib.hid (take_succ' zs k hkz)
        subst had
        generalize zs.getD k 0 = x at hcell hx HX
        have k0 : (0 : Int) ≤ k := by omega
        clear hc hb1 hb2 hkz
        have hx1 := hx.fit.1
        have hx2 := hx.fit.2
        cases hin : l'.contains x
        · have HIn := Lib.hid hin
          have hkey := hx.key
          clear hin
          go_wp2_with (first
            | (go_at_call 14; (with_reducible refine (qhas_m x hx false HIn _ HQ.out).mono ?_); rintro e w1 ⟨rfl, hb⟩; have HQ1 := Lib.hid (HQ.out.below hb); have HF1 := Lib.hid (HF.out.trans (VFr.of_below hb HQ.out.lt _)); have hc1 := HQ1.out.c1; clear hb)
            | (at_mapUpdate; refine wpList_mapUpdate_own _ rfl _ _ _ 89 rfl 3 86 lawI Tryz.underlying89 U1 M (b + k) D' rfl HQ1.out.mp (by unfold maxLen; omega) _ _ _ rfl rfl hkey _ [] unitElem_mk ?_; intro w2 hown1 hgrow1; have HM := Lib.hid hown1; have HG := Lib.hid hgrow1; have hc0 := (World.cell?_of_block (a := ⟨q, o, none⟩) (hgrow1.block q HQ1.out.lt (fun e => HQ1.out.mq (by injection e with e; exact e.symm)))).trans HQ1.out.c0; have HR := Lib.hid (HQ1.out.row.kept hgrow1 (.inr HQ1.out.mv)); have HB2 := Lib.hid (show base ≤ w2.heap.size from Nat.le_trans HB0.out (Nat.le_trans HF1.out.size hgrow1.size)); clear hown1 hgrow1 hc1)
            | (at_builtin; refine wpList_append_own_at _ rfl _ _ 88 rfl base 3 i0 (.int .i64 0) 1 8 Tryz.underlying88 HI.out.1 HI.out.2.1 HI.out.2.2.1 HI.out.2.2.2 rfl (by decide) v' l'.length _ rfl (HR.out.alloc _) ⟨w2.heap.size, 0, none⟩ 1 1 [.int .i64 x] rfl rfl (cell_one_new _ _ _) (ints_oneCell .i64 [x]) (by unfold maxLen; omega) (by omega) (by have := HB2.out; simp; omega) ?_; intro v2 w3 hrow hg3 hnil hloc; obtain ⟨g2, c2, hv2⟩ := owns_slice hrow (by omega); subst hv2; have HP := Lib.hid (HQ1.out.put x hx HIn.out _ HM.out HG.out hrow hg3 hloc); have hmid := HQ1.out.mid3 HG.out hg3; obtain ⟨hc3, hf3⟩ := hmid; clear hrow hg3 hnil hloc hc0))
          go_roundw
          case rel => exact ⟨k + 1, l' ++ [x], _, D'.put (kI x) (.agg []), by omega, by go_num, by rw [HX.out, putAll_snoc, ← HL.out, if_neg (by rw [HIn.out]; simp)], cnt_step _ _ _ (by simp), HP.out.1, HF1.out.trans HP.out.2⟩
          case measure => simp [intOf]; omega
        · have HIn := Lib.hid hin
          clear hin
          go_wp2_with (first
            | (go_at_call 14; (with_reducible refine (qhas_m x hx true HIn _ HQ.out).mono ?_); rintro e w1 ⟨rfl, hb⟩; have HQ1 := Lib.hid (HQ.out.below hb); have HF1 := Lib.hid (HF.out.trans (VFr.of_below hb HQ.out.lt _)); clear hb))
          go_roundw
          case rel => exact ⟨k + 1, l', v', D', by omega, by go_num, by rw [HX.out, putAll_snoc, ← HL.out, if_pos HIn.out], rfl, HQ1.out.more (by omega), HF1.out⟩
          case measure => simp [intOf]; omega
      · obtain rfl : m = k := by omega
        have hdd : decide (m < m) = false := by simp
        have HL2 : Hid (putAll l zs = l') := Lib.hid (by rw [HL.out, List.take_of_length_le (by rw [hm.out]; exact Nat.le_refl _)])
        go_wp2_with fail
        go_ret
        exact ⟨SM q v' M, ret_i64 (by rw [← HL2.out]; exact hr.out), .inr ⟨v', M, D', by rw [HL2.out]; exact HQ.out, rfl⟩, HF0.out.trans HF.out⟩
end Go.Proofs.YthgjejclhdolmaaGreatDoor.V
namespace Go.Proofs.YthgjejclhdolmaaGreatDoor.V
open Go.ChangeShapes Go.WideShapes Go.ChangeAt Go.RowKit Go.Maps
set_option linter.unusedVariables false
def over : List Value → Nat → List Value → List Value
  | xs, _, [] => xs
  | xs, o, v :: vs => over (xs.set o v) (o + 1) vs
theorem over_get (vs : List Value) : ∀ (xs : List Value) (o j : Nat), o + vs.length ≤ xs.length → (over xs o vs)[j]? = if o ≤ j ∧ j < o + vs.length then vs[j - o]? else xs[j]? := by
  induction vs with
  | nil => intro xs o j h; unfold over; rw [if_neg (by simp only [List.length_nil]; omega)]
  | cons v vs ih =>
    intro xs o j h
    simp only [List.length_cons] at h
    unfold over
    rw [ih _ _ _ (by simp; omega)]
    by_cases h1 : o + 1 ≤ j ∧ j < o + 1 + vs.length
    · rw [if_pos h1, if_pos (by simp; omega), show j - o = (j - (o + 1)) + 1 by omega]
      simp
    · rw [if_neg h1]
      by_cases h2 : j = o
      · subst h2
        rw [if_pos (by simp)]
        rw [List.getElem?_set_self (by omega)]
        simp
      · rw [if_neg (by simp; omega), List.getElem?_set_ne (by omega)]
theorem over_all (xs vs : List Value) (h : vs.length = xs.length) : over xs 0 vs = vs := by
  apply List.ext_getElem?
  intro j
  rw [over_get vs xs 0 j (by omega)]
  by_cases hj : j < vs.length
  · rw [if_pos (by omega)]
    simp
  · rw [if_neg (by omega), List.getElem?_eq_none (by omega), List.getElem?_eq_none (by omega)]
theorem own_setCells {base e g n c : Nat} (vs : List Value) : ∀ (o : Nat) (xs : List Value) (w : World), w.ownsRow base e 1 (.slice (some ⟨g, 0, none⟩) n c) n xs →
    (w.setCells g o vs).ownsRow base e 1 (.slice (some ⟨g, 0, none⟩) n c) n (over xs o vs) ∧ w.grownBy (w.setCells g o vs) (some g) := by
  induction vs with
  | nil => intro o xs w h; exact ⟨h, ⟨rfl, rfl, rfl, Nat.le_refl _, fun _ _ _ => rfl⟩⟩
  | cons v vs ih =>
    intro o xs w h
    have h1 := h.stored o v
    have h2 := ih (o + 1) _ _ h1.1
    exact ⟨h2.1, ⟨h2.2.os.trans h1.2.os, h2.2.tape.trans h1.2.tape, h2.2.output.trans h1.2.output, Nat.le_trans h1.2.size h2.2.size, fun k hk hne => (h2.2.block k (Nat.lt_of_lt_of_le hk h1.2.size) hne).trans (h1.2.block k hk hne)⟩⟩
theorem own_drewN {w : World} {base e s n : Nat} {v : Value} {xs : List Value} (h : w.ownsRow base e s v n xs) (q : Nat) : (w.drewN q).ownsRow base e s v n xs := h
theorem own_cut {w : World} {base e g n c : Nat} {xs ys : List Value} (h : w.ownsRow base e 1 (.slice (some ⟨g, 0, none⟩) n c) n xs) (m : Nat) (hm : m ≤ n) (hy : xs.take m = ys) : w.ownsRow base e 1 (.slice (some ⟨g, 0, none⟩) m c) m ys := by
  have hl := h.1
  refine ⟨by rw [← hy, List.length_take]; omega, ?_⟩
  rcases h.2 with ⟨h', _⟩ | ⟨g', cap', cur, h', hb, hg, hnc, hcm, hcs, htake⟩
  · simp at h'
  · simp only [Value.slice.injEq, Option.some.injEq, Addr.mk.injEq, and_true, true_and] at h'
    obtain ⟨rfl, rfl⟩ := h'
    refine .inr ⟨_, _, cur, rfl, hb, hg, by omega, hcm, hcs, ?_⟩
    rw [← hy, ← htake, List.take_take]
    congr 1
    omega
theorem qdel_at {base g n c k : Nat} {l : List Int} (w : World) (hrow : w.ownsRow base 3 1 (.slice (some ⟨g, 0, none⟩) n c) n (l.map (Value.int .i64))) (hn : Hid (l.length = n)) (hk : k < n) (y : Int) (hy : Hid (y = k + 1)) :
    Calls Tryz.prog 182 #[.slice (some ⟨g, 0, none⟩) n c, .int .i64 k, .int .i64 y] w fun e w' => e = .returned (.slice (some ⟨g, 0, none⟩) (n - 1) c) ∧ w'.ownsRow base 3 1 (.slice (some ⟨g, 0, none⟩) (n - 1) c) (n - 1) ((l.eraseIdx k).map (Value.int .i64)) ∧ w.grownBy w' (some g) := by
  have hc : n ≤ c ∧ c ≤ maxLen := by
    rcases hrow.2 with ⟨h', _⟩ | ⟨g', cap', cur, h', hb, hg, hnc, hcm, hcs, htake⟩
    · simp at h'
    · simp only [Value.slice.injEq, Option.some.injEq, Addr.mk.injEq, and_true, true_and] at h'
      obtain ⟨rfl, rfl⟩ := h'
      exact ⟨hnc, hcm⟩
  have hl := hn.out
  have e : y = ((k + 1 : Nat) : Int) := by rw [hy.out]; simp
  rw [e]
  refine (Tryz.slices_Delete_int_cells g 0 n c k (k + 1) l w (by omega) hc.1 (by have := hc.2; unfold maxLen at this; omega) (by omega) (by omega) (fun j hj => ?_) (fun j hj => ?_)).mono fun e w' ⟨he, q, hw⟩ => ?_
  · rw [Nat.zero_add, hrow.cellAt j (by omega)]
    simp [List.getD, hj]
  · exact hrow.frozenAt _
  · have hv : ((l.take n).take k ++ (l.take n).drop (k + 1) ++ List.replicate (k + 1 - k) 0).length = n := by simp; omega
    have h1 := own_setCells (((l.take n).take k ++ (l.take n).drop (k + 1) ++ List.replicate (k + 1 - k) 0).map (Value.int .i64)) 0 _ _ (own_drewN hrow q)
    rw [over_all _ _ (by simp; omega)] at h1
    subst hw
    refine ⟨by rw [he, show n - (k + 1 - k) = n - 1 by omega], own_cut h1.1 (n - 1) (by omega) ?_, ?_⟩
    · rw [← List.map_take]
      congr 1
      rw [List.take_of_length_le (l := l) (by omega), ← List.eraseIdx_eq_take_drop_succ, List.take_append_of_le_length (by rw [List.length_eraseIdx_of_lt (by omega)]; omega), List.take_of_length_le (by rw [List.length_eraseIdx_of_lt (by omega)]; omega)]
    · exact ⟨h1.2.os, h1.2.tape, h1.2.output, h1.2.size, h1.2.block⟩
theorem erase_has (l : List Int) (k : Nat) (hk : k < l.length) (hnd : l.Nodup) (y : Int) : (l.eraseIdx k).contains y = (l.contains y && !decide (y = l.getD k 0)) := by
  have e : l.getD k 0 = l[k] := by simp [List.getD, hk]
  have hl : l = l.take k ++ l[k] :: l.drop (k + 1) := by
    rw [← List.drop_eq_getElem_cons hk, List.take_append_drop]
  have hn : (l.take k ++ l[k] :: l.drop (k + 1)).Nodup := by rw [← hl]; exact hnd
  rw [List.nodup_append] at hn
  obtain ⟨h1, h2, h3⟩ := hn
  rw [List.nodup_cons] at h2
  have hm : y ∈ l ↔ y ∈ l.take k ∨ y = l[k] ∨ y ∈ l.drop (k + 1) := by
    conv => lhs; rw [hl]
    simp only [List.mem_append, List.mem_cons]
  rw [e, List.eraseIdx_eq_take_drop_succ, Bool.eq_iff_iff]
  simp only [List.contains_iff_mem, List.mem_append, Bool.and_eq_true, hm, Bool.not_eq_true', decide_eq_false_iff_not]
  constructor
  · rintro (h | h)
    · exact ⟨.inl h, fun e2 => h3 y h l[k] (.head _) e2⟩
    · exact ⟨.inr (.inr h), fun e2 => h2.1 (e2 ▸ h)⟩
  · rintro ⟨h | h | h, h4⟩
    · exact .inl h
    · exact absurd h h4
    · exact .inr h
/-- One number less. -/
theorem VM.drop {w w1 w2 : World} {base q o b M g n c k : Nat} {l : List Int} {D D' : DataW Unit} (h : VM w base q o b l (.slice (some ⟨g, 0, none⟩) n c) M D) (hn : l.length = n) (hk : k < n)
    (hD : D' = D.del (kI (l.getD k 0))) (hm : w1.ownsMap Tryz.prog 3 U1 M b D') (hg1 : w.grownBy w1 (some M)) (hrow : w2.ownsRow base 3 1 (.slice (some ⟨g, 0, none⟩) (n - 1) c) (n - 1) ((l.eraseIdx k).map (Value.int .i64))) (hg2 : w1.grownBy w2 (some g)) :
    VM (w2.setCell ⟨q, o, none⟩ (.slice (some ⟨g, 0, none⟩) (n - 1) c)) base q o b (l.eraseIdx k) (.slice (some ⟨g, 0, none⟩) (n - 1) c) M D' ∧ VFr q o w (w2.setCell ⟨q, o, none⟩ (.slice (some ⟨g, 0, none⟩) (n - 1) c)) (SM q (.slice (some ⟨g, 0, none⟩) n c) M) (SM q (.slice (some ⟨g, 0, none⟩) (n - 1) c) M) := by
  have s0 := h.lt
  have hgq : g ≠ q := fun e => h.qv (by rw [e]; rfl)
  have hgM : g ≠ M := fun e => h.mv (by rw [e]; rfl)
  have b1 : w1.heap[q]? = w.heap[q]? := hg1.block q s0 (fun e => h.mq (by injection e with e; exact e.symm))
  have s1 : q < w1.heap.size := Nat.lt_of_lt_of_le s0 hg1.size
  have hmid := same_cells ((hg2.block q s1 (fun e => hgq (by injection e with e; exact e.symm))).trans b1)
  have hlen : (l.eraseIdx k).length = n - 1 := by rw [List.length_eraseIdx_of_lt (by omega), hn]
  refine ⟨⟨cs_same ((hmid o).1.trans h.c0), (cs_other (addr_ne0 q o)).trans ((hmid (o + 1)).1.trans h.c1), fz_set.trans ((hmid o).2.trans h.f0), fz_set.trans ((hmid (o + 1)).2.trans h.f1), ?_, fun e => hgq (by simpa [Value.ownBlock] using e), (hm.kept hg2 (fun e => hgM (by injection e with e; exact e.symm))).setCell h.mq _, h.mb, ?_, ?_, ?_⟩, ?_⟩
  · rw [hlen]
    exact ownsRow_setCell_other hrow (a := ⟨q, o, none⟩) (fun e => hgq (by simpa [Value.ownBlock] using e)) _
  · intro y
    rw [erase_has l k (by omega) h.nd y, hD]
    by_cases e : y = l.getD k 0
    · rw [e, Maps.has_del_same]
      simp
    · rw [Maps.has_del_other (by simpa using e), h.has y, decide_eq_false e]
      simp
  · exact h.nd.sublist (List.eraseIdx_sublist _ _)
  · exact fun y hy => h.vals y (List.mem_of_mem_eraseIdx hy)
  · have f1 : VFr q o w w1 (SM q (.slice (some ⟨g, 0, none⟩) n c) M) (SM q (.slice (some ⟨g, 0, none⟩) n c) M) := VFr.of_grown hg1 (.inr (.inr rfl)) s0 h.mq
    have f2 : VFr q o w1 w2 (SM q (.slice (some ⟨g, 0, none⟩) n c) M) (SM q (.slice (some ⟨g, 0, none⟩) n c) M) := VFr.of_grown hg2 (.inr (.inl rfl)) s1 hgq
    have f3 := VFr.of_set w2 q o o (.slice (some ⟨g, 0, none⟩) (n - 1) c) (.inl rfl) (SM q (.slice (some ⟨g, 0, none⟩) n c) M) (.inl rfl)
    exact ((f1.trans f2).trans f3).turn fun k _ hk => hk
theorem VM.mid2 {w w1 w2 : World} {base q o b M g n c : Nat} {l : List Int} {D : DataW Unit} (h : VM w base q o b l (.slice (some ⟨g, 0, none⟩) n c) M D) (hg1 : w.grownBy w1 (some M)) (hg2 : w1.grownBy w2 (some g)) : w2.cell? ⟨q, o, none⟩ = some (.slice (some ⟨g, 0, none⟩) n c) ∧ w2.frozen? ⟨q, o, none⟩ = false := by
  have s0 := h.lt
  have hgq : g ≠ q := fun e => h.qv (by rw [e]; rfl)
  have b1 : w1.heap[q]? = w.heap[q]? := hg1.block q s0 (fun e => h.mq (by injection e with e; exact e.symm))
  have s1 : q < w1.heap.size := Nat.lt_of_lt_of_le s0 hg1.size
  have hmid := same_cells ((hg2.block q s1 (fun e => hgq (by injection e with e; exact e.symm))).trans b1)
  exact ⟨(hmid o).1.trans h.c0, (hmid o).2.trans h.f0⟩
set_option maxRecDepth 100000 in
set_option maxHeartbeats 4000000 in
theorem qtake_m {base q o b M g n c : Nat} {l : List Int} {D : DataW Unit} (k : Nat) (hn : Hid (l.length = n)) (hk : k < n) (hm : n ≤ 1000000) (w : World) (h : VM w base q o b l (.slice (some ⟨g, 0, none⟩) n c) M D) :
    Calls Tryz.prog 163 #[.pointer (some ⟨q, o, none⟩), .int .i64 k] w fun e w' => e = .returned (.tuple #[]) ∧ ∃ D', VM w' base q o b (l.eraseIdx k) (.slice (some ⟨g, 0, none⟩) (n - 1) c) M D' ∧ VFr q o w w' (SM q (.slice (some ⟨g, 0, none⟩) n c) M) (SM q (.slice (some ⟨g, 0, none⟩) (n - 1) c) M) := by
  have H := Lib.hid h
  have c0 := h.c0
  have c1 := h.c1
  have hrow : w.ownsRow base 3 1 (.slice (some ⟨g, 0, none⟩) n c) n (l.map (Value.int .i64)) := by have := h.row; rwa [hn.out] at this
  have HR := Lib.hid hrow
  have hk' : k < l.length := by rw [hn.out]; exact hk
  have cx : w.cell? ⟨g, k, none⟩ = some (.int .i64 (l.getD k 0)) := by
    rw [hrow.cellAt k (by omega)]
    simp [List.getD, hk']
  have hx : wfI (l.getD k 0) := h.vals _ (by simp [List.getD, hk'])
  obtain ⟨x, HX⟩ : ∃ x, Hid (l.getD k 0 = x) := ⟨_, Lib.hid rfl⟩
  rw [HX.out] at cx hx
  have hkey := hx.key
  have k0 : (0 : Int) ≤ k := by omega
  have k1 : (k : Int) < n := by omega
  clear h hrow hk' hx
  go_enter Tryz.func163, Tryz.ntmps163
  go_wp2_with fail
  go_still_tail 11, (by kernel_rfl)
  go_wp2_with (first
    | (at_delete; refine wpList_delete_own _ rfl _ _ 89 3 rfl 86 lawI Tryz.underlying89 U1 M b D rfl H.out.mp.drew _ _ rfl hkey ?_; intro w1 hown1 hturn1; have HM := Lib.hid hown1; have HG := Lib.hid (show w.grownBy w1 (some M) from ⟨hturn1.grown.os, hturn1.grown.tape, hturn1.grown.output, hturn1.grown.size, hturn1.grown.block⟩); have hc0 := (World.cell?_of_block (a := ⟨q, o, none⟩) (HG.out.block q H.out.lt (fun e => H.out.mq (by injection e with e; exact e.symm)))).trans H.out.c0; have HR1 := Lib.hid (HR.out.kept HG.out (.inr H.out.mv)); clear hown1 hturn1 c0 c1 cx)
    | (go_at_call 182; (with_reducible refine (qdel_at _ HR1.out hn hk _ (Lib.hid rfl)).mono ?_); rintro e w2 ⟨rfl, hr2, hg2⟩; have HP := Lib.hid (H.out.drop hn.out hk (by rw [HX.out]) HM.out HG.out hr2 hg2); have hmid := H.out.mid2 HG.out hg2; obtain ⟨hc2, hf2⟩ := hmid; clear hr2 hg2 hc0))
  go_end0
  exact ⟨rfl, _, HP.out⟩
theorem VI.big {w : World} {base q o b : Nat} {l : List Int} {S : Nat → Prop} (h : VI w base q o b l S) (hl : 0 < l.length) : ∃ g c M D, VM w base q o b l (.slice (some ⟨g, 0, none⟩) l.length c) M D ∧ S = SM q (.slice (some ⟨g, 0, none⟩) l.length c) M := by
  rcases h with ⟨h1, rfl, rfl⟩ | ⟨v, M, D, h, rfl⟩
  · simp at hl
  · obtain ⟨g, c, rfl⟩ := owns_slice h.row hl
    exact ⟨g, c, M, D, h, rfl⟩
/-- Those that are not x. -/
def offI (l : List Int) (x : Int) : List Int := l.filter (fun y => !decide (y = x))
theorem offI_no (l : List Int) (x : Int) (h : l.contains x = false) : offI l x = l := by
  unfold offI
  apply List.filter_eq_self.2
  intro y hy
  have : y ≠ x := fun e => by rw [e] at hy; rw [← List.contains_iff_mem] at hy; rw [h] at hy; cases hy
  simp [this]
theorem offI_at (l : List Int) (x : Int) (k : Nat) (hk : k < l.length) (hx : l.getD k 0 = x) (hnd : l.Nodup) : l.eraseIdx k = offI l x := by
  induction l generalizing k with
  | nil => simp at hk
  | cons y l ih =>
    rw [List.nodup_cons] at hnd
    cases k with
    | zero =>
      simp at hx
      subst hx
      have : offI l y = l := offI_no l y (by rw [← Bool.not_eq_true, List.contains_iff_mem]; exact hnd.1)
      unfold offI at this ⊢
      simp [this]
    | succ k =>
      simp at hk
      have hk2 : l.getD k 0 = x := by simpa [List.getD] using hx
      have hm : x ∈ l := by rw [← hk2]; simp [List.getD, hk]
      have hne : y ≠ x := fun e => hnd.1 (e ▸ hm)
      have := ih k hk hk2 hnd.2
      unfold offI at this ⊢
      simp [this, hne]
theorem getD_mem (l : List Int) (x : Int) (h : l.contains x = true) : ∃ k, k < l.length ∧ (∀ i, i < k → l.getD i 0 ≠ x) ∧ l.getD k 0 = x := by
  rcases first_in l x l.length with h1 | h1
  · rw [List.contains_iff_mem, List.mem_iff_getElem] at h
    obtain ⟨i, hi, e⟩ := h
    exact absurd (by simp [List.getD, hi, e]) (h1 i hi)
  · exact h1
theorem rn_of {w : World} {base q o b M g n c : Nat} {l : List Int} {D : DataW Unit} (h : VM w base q o b l (.slice (some ⟨g, 0, none⟩) n c) M D) (hn : l.length = n) : RN w g n l := by
  intro i hi
  have hr := h.row
  rw [hn] at hr
  rw [hr.cellAt i (by omega)]
  have : i < l.length := by omega
  simp [List.getD, this]
set_option maxRecDepth 100000 in
theorem vdrop_is {base q o b : Nat} {l : List Int} {S : Nat → Prop} (x : Int) (hx : wfI x) (hm : l.length ≤ 1000) (w : World) (h : VI w base q o b l S) :
    Calls Tryz.prog 129 #[.pointer (some ⟨q, o, none⟩), .int .i64 x] w fun e w' => ∃ t S', e = .returned (.bool t) ∧ VI w' base q o b (offI l x) S' ∧ VFr q o w w' S S' := by
  cases hin : l.contains x
  · have H := Lib.hid h
    have HIn := Lib.hid hin
    clear h hin
    go_enter Tryz.func129, Tryz.ntmps129
    go_wp2_with (first | (go_at_call 14; (with_reducible refine (qhas_is x hx false HIn _ H.out).mono ?_); rintro e w1 ⟨rfl, hb⟩; have HB := Lib.hid hb; clear hb))
    go_ret
    exact ⟨false, S, rfl, by rw [offI_no l x HIn.out]; exact H.out.below HB.out, VFr.of_below HB.out H.out.lt _⟩
  · obtain ⟨k, hk, hno, hyes⟩ := getD_mem l x hin
    obtain ⟨g, c, M, D, hQ, rfl⟩ := h.big (by omega)
    obtain ⟨n, HN⟩ : ∃ n, Hid (l.length = n) := ⟨_, Lib.hid rfl⟩
    have HIn := Lib.hid hin
    have HE := Lib.hid (offI_at l x k hk hyes hQ.nd)
    have HNo := Lib.hid hno
    have HYes := Lib.hid hyes
    rw [HN.out] at hQ hk hm ⊢
    have H := Lib.hid hQ
    clear h hin hno hyes hQ
    go_enter Tryz.func129, Tryz.ntmps129
    go_wp2_with (first
      | (go_at_call 14; (with_reducible refine (qhas_m x hx true HIn _ H.out).mono ?_); rintro e w1 ⟨rfl, hb⟩; have H1 := Lib.hid (H.out.below hb); have HB := Lib.hid hb; have c0 := H1.out.c0; have HRN := Lib.hid (rn_of H1.out HN.out); clear hb)
      | (go_at_call 164; (with_reducible refine (six_yes g n c k l x hm hk HNo HYes _ HRN.out).mono ?_); rintro e w2 ⟨rfl, rfl⟩)
      | (go_at_call 163; (with_reducible refine (qtake_m k HN hk (by omega) _ H1.out).mono ?_); rintro e w3 ⟨rfl, D', h3, f3⟩; have H3 := Lib.hid h3; have HF3 := Lib.hid f3; clear h3 f3))
    go_ret
    refine ⟨true, _, rfl, .inr ⟨_, M, D', by rw [← HE.out]; exact H3.out, rfl⟩, (VFr.of_below HB.out H.out.lt _).trans HF3.out⟩
end Go.Proofs.YthgjejclhdolmaaGreatDoor.V
namespace Go.Proofs.YthgjejclhdolmaaGreatDoor
open Go.ChangeShapes Go.WideShapes Go.ChangeAt Go.RowKit
set_option linter.unusedVariables false
set_option linter.unusedSimpArgs false
/-- Only blocks from N to M, and from T on, change. -/
def Fr (N M T : Nat) (w1 w2 : World) : Prop := Below N w1 w2 ∧ ∀ k, M ≤ k → k < T → w2.heap[k]? = w1.heap[k]?
/-- What is kept stays so; what has no block from N to M has none from N to less. -/
structure QF (N : Nat) (Q : Nat → Nat → World → Prop) : Prop where
  fr : ∀ M T w1 w2, Q M T w1 → Fr N M T w1 w2 → Q M T w2
  mono : ∀ M M' T T' w, Q M T w → M' ≤ M → T ≤ T' → Q M' T' w
theorem heap_cells (k R : Nat) (h : k ≠ R) : ∀ (l : List Value) (w : World) (o : Nat), (w.setCells R o l).heap[k]? = w.heap[k]?
  | [], w, o => by simp [World.setCells]
  | v :: l, w, o => by
    simp only [World.setCells]
    rw [heap_cells k R h l _ _]
    exact Below.heap_setCell _ _ _ _ h
theorem Fr.fresh {N M T K : Nat} {w1 w2 : World} (h : Below K w1 w2) (hN : N ≤ K) (hT : T ≤ K) : Fr N M T w1 w2 := ⟨h.mono hN, fun k _ h2 => h.block k (Nat.lt_of_lt_of_le h2 hT)⟩
theorem Fr.cells {N M T R : Nat} (w : World) (l : List Value) (hN : N ≤ R) (hM : R < M) : Fr N M T w (w.setCells R 0 l) := ⟨nbelow_cells (Below.refl _ _) hN _ _, fun k h1 _ => heap_cells k R (by omega) l w 0⟩
theorem QF.keep {N K M T : Nat} {Q : Nat → Nat → World → Prop} (h : QF N Q) {w1 w2 : World} (hq : Q M T w1) (hb : Below K w1 w2) (hN : N ≤ K) (hT : T ≤ K) : Q M T w2 := h.fr _ _ _ _ hq (Fr.fresh hb hN hT)
/-- The answer is stored in a block that was there ahead. -/
theorem QF.store {N M T R M0 T0 : Nat} {Q : Nat → Nat → World → Prop} (h : QF N Q) {w : World} (hq : Q M T w) (l : List Value) (hN : N ≤ R) (hM : R < M) (h0 : M0 ≤ M) (hT : T ≤ T0) : Q M0 T0 (w.setCells R 0 l) := h.mono _ _ _ _ _ (h.fr _ _ _ _ hq (Fr.cells w l hN hM)) h0 hT
/-- Where the factories and the queue lie. -/
def FL (X : SLoc) : Prop := X.fP < X.q ∧ X.fp < X.q ∧ X.fR < X.q ∧ X.fG < X.q ∧ X.q < X.s
section
variable {w0 w w' : World} {L : BLoc} {X : SLoc} {D : BSt} {f g : Nat → Value} {l : List Int} {S S' : Nat → Prop} {N M T B : Nat} {A : List Nat}
theorem BW.high3 (h : BW w0 w L D) (hb : Below L.T w w') : BW w0 w' L D := by
  have h1 := h.md
  have h2 := h.dl
  have h3 := h.tt
  have h4 := h.db
  exact h.keep (hb.mono (by omega)) (hb.block _ (by omega)) (hb.block _ (by omega)) (hb.block _ (by omega)) (hb.block _ (by omega)) (hb.block _ (by omega)) (fun k _ hk => hb.block k hk)
/-- What else but the queue lies in the system stays. -/
theorem SJ.rest (h : SJ w0 w L X D) (hX : FL X) (hos : w'.os = w.os) (ht : w'.tape = w.tape) (ho : w'.output = w.output) (hs : w.heap.size ≤ w'.heap.size) (hk : ∀ k, k < w.heap.size → k ≠ X.q → k ≤ X.s → w'.heap[k]? = w.heap[k]?) : SJ w0 w' L X D := by
  have hl := h.lo
  unfold FL at hX
  have hb : Below L.T w w' := ⟨hos, ht, ho, hs, fun k hk2 => hk k (by have := h.k.tw; omega) (by omega) (by omega)⟩
  have ht := h.t.low2
  have hf3 := h.f.ar.lt.2
  have hf4 := (h.f.row.lt _ rfl).2
  have htt := h.k.tt
  exact ⟨h.k.high3 hb, h.t.same hs (hk _ ht.2.2.2.2.1 (by omega) (by omega)) (hk _ ht.2.2.2.2.2.1 (by omega) (by omega)) (hk _ ht.2.2.2.2.2.2.1 (by omega) (by omega)) (hk _ ht.2.2.2.2.2.2.2 (by omega) (by omega)), h.f.same hs (hk _ h.f.pl (by omega) (by omega)) (hk _ h.f.ar.pl (by omega) (by omega)) (hk _ hf3 (by omega) (by omega)) (hk _ hf4 (by omega) (by omega)), h.b.same hs (hk _ h.b.lt (by omega) (by omega)), hl⟩
theorem SJ.queue (h : SJ w0 w L X D) (hX : FL X) (hv : V.VFr X.q 0 w w' S S') (hS : ∀ k, S k → k = X.q ∨ X.s + 1 ≤ k) : SJ w0 w' L X D :=
  h.rest hX hv.os hv.tape hv.output hv.size (fun k h1 h2 h3 => (hv.block k h1 (fun hs => by have := hS k hs; omega)).1)
theorem SJ.low (h : SJ w0 w L X D) (hX : FL X) (hb : Below N w w') (hN : X.s < N) : SJ w0 w' L X D :=
  h.rest hX hb.os hb.tape hb.output hb.size (fun k _ _ h3 => hb.block k (by omega))
/-- The system, its domain's row, those ready; where the queue lies not. -/
def DQ (N M T : Nat) (w0 W : World) (L : BLoc) (X : SLoc) (B : Nat) (A : List Nat) (f : Nat → Value) (l : List Int) : Prop := DS w0 W L X f ∧ X.s < N ∧ ∃ b S, b ≤ B ∧ V.VI W (X.s + 1) X.q 0 b l S ∧ ∀ k, S k → (k < N ∨ M ≤ k) ∧ k < T ∧ k ∉ A
def DA (w0 W : World) (L : BLoc) (X : SLoc) (B : Nat) (A : List Nat) (f : Nat → Value) (l : List Int) : Prop := DQ W.heap.size W.heap.size W.heap.size w0 W L X B A f l
def KA (A : List Nat) (w W : World) : Prop := ∀ k ∈ A, W.heap[k]? = w.heap[k]?
theorem DQ.fr (h : DQ N M T w0 w L X B A f l) (hX : FL X) (hf : Fr N M T w w') : DQ N M T w0 w' L X B A f l := by
  obtain ⟨⟨D, h1, hd⟩, hN, b, S, h2, h3, h4⟩ := h
  unfold FL at hX
  refine ⟨⟨D, h1.low hX hf.1 hN, hd⟩, hN, b, S, h2, h3.same (fun j _ => V.same_cells (hf.1.block X.q (by omega)) j) (fun k hk _ => ?_), h4⟩
  rcases h4 k hk with ⟨h5 | h5, h6, _⟩
  · exact hf.1.block k h5
  · exact hf.2 k h5 h6
theorem DQ.mono {M' T' : Nat} (h : DQ N M T w0 w L X B A f l) (hM : M' ≤ M) (hT : T ≤ T') : DQ N M' T' w0 w L X B A f l := by
  obtain ⟨h1, hN, b, S, h2, h3, h4⟩ := h
  exact ⟨h1, hN, b, S, h2, h3, fun k hk => by have := h4 k hk; exact ⟨by omega, by omega, this.2.2⟩⟩
theorem qfD (hX : FL X) (hA : ∀ k ∈ A, k < N) : QF N (fun M T W => DQ N M T w0 W L X B A f l ∧ KA A w W) :=
  ⟨fun M T w1 w2 h hf => ⟨h.1.fr hX hf, fun k hk => (hf.1.block k (hA k hk)).trans (h.2 k hk)⟩, fun M M' T T' W h h1 h2 => ⟨h.1.mono h1 h2, h.2⟩⟩
theorem DA.start (h : DA w0 w L X B A f l) (hX : FL X) (hb : Below w.heap.size w w') : DQ w.heap.size w.heap.size w.heap.size w0 w' L X B A f l := h.fr hX ⟨hb, fun k h1 h2 => by omega⟩
theorem DQ.any {N T2 : Nat} (h : DQ N N N w0 w L X B A f l) (M2 : Nat) (hT : N ≤ T2) : DQ N M2 T2 w0 w L X B A f l := by
  obtain ⟨h1, hN, b, S, h2, h3, h4⟩ := h
  exact ⟨h1, hN, b, S, h2, h3, fun k hk => by have := h4 k hk; exact ⟨by omega, by omega, this.2.2⟩⟩
theorem DQ.done (h : DQ N M T w0 w L X B A f l) : DA w0 w L X B A f l := by
  obtain ⟨⟨D, h1, hd⟩, hN, b, S, h2, h3, h4⟩ := h
  exact ⟨⟨D, h1, hd⟩, h1.b.lt, b, S, h2, h3, fun k hk => ⟨.inl (h3.hi k hk), h3.hi k hk, (h4 k hk).2.2⟩⟩
theorem DA.below (h : DA w0 w L X B A f l) (hX : FL X) (hb : Below w.heap.size w w') : DA w0 w' L X B A f l := (h.start hX hb).done
/-- A block that came behind is none of the queue's. -/
theorem DA.more (h : DA w0 w L X B A f l) (hX : FL X) (hb : Below w.heap.size w w') (k : Nat) (hk : w.heap.size ≤ k) : DA w0 w' L X B (k :: A) f l := by
  obtain ⟨h1, hN, b, S, h2, h3, h4⟩ := h.start hX hb
  refine DQ.done (M := w.heap.size) (T := w.heap.size) ⟨h1, hN, b, S, h2, h3, fun j hj => ?_⟩
  have := h4 j hj
  refine ⟨this.1, this.2.1, ?_⟩
  intro hm
  rcases List.mem_cons.1 hm with rfl | hm
  · omega
  · exact this.2.2 hm
theorem DQ.low (h : DQ N M T w0 w L X B A f l) : w0.heap.size ≤ L.dR ∧ w0.heap.size ≤ L.dG ∧ L.dR < X.s ∧ L.dG < X.s := by
  obtain ⟨⟨D, h1, _⟩, _⟩ := h
  have hl := h1.lo
  have hdb := h1.k.db
  have htt := h1.k.tt
  have h2 := h1.k.d.pl.ar.lt.1
  have h3 := (h1.k.d.pl.row.lt L.dG rfl).1
  have hb := h1.k.bel.size
  have hn := h1.k.m.n0
  have hm := h1.k.md
  have ht := h1.t.low2
  omega
/-- A domain's row is put. -/
theorem DQ.put (hX : FL X) (hA0 : ∀ k ∈ A, k < N ∧ ((k < L.dR ∧ k < L.dG) ∨ X.s < k)) (h : DQ N M T w0 w' L X B A f l ∧ KA A w w') (hNw : N ≤ w'.heap.size) (hn : 0 < L.dn) (r : Nat) (hr : r < 16) (m0 m1 m2 m3 m4 : Int) (pc st ft : Int) (hm : rightB m0 m1 m2 m3 m4 = true) (s1 : 1 ≤ st) (s2 : st ≤ 4) (t1 : 0 ≤ ft) (t2 : ft ≤ 6) (vs vr : Value) (hE : ErrsAt vs vr w') :
    Calls Tryz.prog 162 #[.pointer (some ⟨L.dP, 0, none⟩), .int .i64 0, .agg (rowL (fR r m0 m1 m2 m3 m4 pc st ft)).toArray] w' fun e w2 => e = .returned .nilIface ∧ (DQ N M T w0 w2 L X B A (fR r m0 m1 m2 m3 m4 pc st ft) l ∧ KA A w w2) ∧ UpT N w' w2 := by
  have hlow := h.1.low
  obtain ⟨⟨h1, hN, b, S, h2, h3, h4⟩, hK⟩ := h
  unfold FL at hX
  refine (h1.put hn r hr m0 m1 m2 m3 m4 pc st ft hm s1 s2 t1 t2 vs vr hE).mono ?_
  rintro e w2 ⟨he, hd, hb⟩
  obtain ⟨D, hj, _⟩ := h1
  have hl := hj.lo
  have hdb := hj.k.db
  have htt := hj.k.tt
  refine ⟨he, ⟨⟨hd, hN, b, S, h2, h3.same (fun j _ => V.same_cells (hb.2.2.2.2 X.q h3.lt (by omega) (by omega)) j) (fun k hk hne => hb.2.2.2.2 k (h3.hi k hk) ?_ ?_), h4⟩, fun k hk => (hb.2.2.2.2 k ?_ ?_ ?_).trans (hK k hk)⟩, UpT.pb hb (by omega) (by omega)⟩
  · have := h3.lo k hk; omega
  · have := h3.lo k hk; omega
  · have := hA0 k hk; omega
  · have := hA0 k hk; omega
  · have := hA0 k hk; omega
theorem DA.has (h : DA w0 w L X B A f l) (t : Bool) (ht : Hid (l.contains 0 = t)) : Calls Tryz.prog 14 #[.pointer (some ⟨X.q, 0, none⟩), .int .i64 0] w fun e w' => e = .returned (.bool t) ∧ Below w.heap.size w w' := by
  obtain ⟨_, _, b, S, _, h3, _⟩ := h
  exact V.qhas_is 0 (V.wfI.mk (by decide) (by decide)) t ht w h3
/-- What a queue's call leaves. -/
theorem DQ.turn {b' : Nat} {l' : List Int} (hX : FL X) (hA0 : ∀ k ∈ A, k < N ∧ ((k < L.dR ∧ k < L.dG) ∨ X.s < k)) (h1 : DS w0 w' L X f) (hK : KA A w w') (hN : X.s < N) (hNw : N ≤ w'.heap.size) (hS0 : ∀ k, S k → (k = X.q ∨ X.s + 1 ≤ k) ∧ k < N ∧ k ∉ A) {w2 : World} (hb : b' ≤ B) (hv : V.VI w2 (X.s + 1) X.q 0 b' l' S') (hf : V.VFr X.q 0 w' w2 S S') :
    (DQ N w'.heap.size w2.heap.size w0 w2 L X B A f l' ∧ KA A w w2) ∧ UpT N w' w2 := by
  obtain ⟨D, hj, hd⟩ := h1
  have hq := hj.k.bel
  refine ⟨⟨⟨⟨D, hj.queue hX hf (fun k hk => (hS0 k hk).1), hd⟩, hN, b', S', hb, hv, fun k hk => ?_⟩, fun k hk => ?_⟩, hf.size, fun k h1 h2 => (hf.block k h2 (fun hs => by have := hS0 k hs; omega)).1⟩
  · by_cases hlt : k < w'.heap.size
    · have : S k := by
        by_cases hs : S k
        · exact hs
        · exact absurd hk (hf.block k hlt hs).2
      exact ⟨.inl (hS0 k this).2.1, hv.hi k hk, (hS0 k this).2.2⟩
    · refine ⟨.inr (by omega), hv.hi k hk, fun hm => ?_⟩
      have := (hA0 k hm).1
      omega
  · exact (hf.block k (by have := (hA0 k hk).1; omega) (fun hs => (hS0 k hs).2.2 hk)).1.trans (hK k hk)
theorem DQ.drop (hX : FL X) (hA0 : ∀ k ∈ A, k < N ∧ ((k < L.dR ∧ k < L.dG) ∨ X.s < k)) (h : DQ N N N w0 w' L X B A f l) (hK : KA A w w') (hNw : N ≤ w'.heap.size) (hl : l.length ≤ 1000) : Calls Tryz.prog 129 #[.pointer (some ⟨X.q, 0, none⟩), .int .i64 0] w' fun e w2 => (∃ rv, e = .returned rv) ∧ (DQ N w'.heap.size w2.heap.size w0 w2 L X B A f (V.offI l 0) ∧ KA A w w2) ∧ UpT N w' w2 := by
  obtain ⟨h1, hN, b, S, h2, h3, h4⟩ := h
  refine (V.vdrop_is 0 (V.wfI.mk (by decide) (by decide)) hl w' h3).mono ?_
  rintro e w2 ⟨t, S', rfl, hv, hf⟩
  exact ⟨⟨_, rfl⟩, DQ.turn hX hA0 h1 hK hN hNw (fun k hk => ⟨h3.lo k hk, (h4 k hk).2⟩) h2 hv hf⟩
theorem DQ.qput (hX : FL X) (hA0 : ∀ k ∈ A, k < N ∧ ((k < L.dR ∧ k < L.dG) ∨ X.s < k)) (h : DQ N N N w0 w' L X B A f []) (hK : KA A w w') (hNw : N ≤ w'.heap.size) (hB : B ≤ 1000) : Calls Tryz.prog 128 #[.pointer (some ⟨X.q, 0, none⟩), .slice (some ⟨w'.heap.size, 0, none⟩) 1 1] (w'.alloc (.cells #[.int .i64 0] 3)) fun e w2 => (∃ rv, e = .returned rv) ∧ (DQ N w'.heap.size w2.heap.size w0 w2 L X (B + 1) A f [0] ∧ KA A w w2) ∧ UpT N w' w2 := by
  have hb : Below w'.heap.size w' (w'.alloc (.cells #[.int .i64 0] 3)) := (Below.refl _ _).alloc (Nat.le_refl _) _
  have hz : (w'.alloc (.cells #[.int .i64 0] 3)).heap.size = w'.heap.size + 1 := by simp
  obtain ⟨h1, hN, b, S, h2, h3, h4⟩ := h
  obtain ⟨D, hj, hd⟩ := h1
  have hK2 : KA A w (w'.alloc (.cells #[.int .i64 0] 3)) := fun k hk => (hb.block k (by have := (hA0 k hk).1; omega)).trans (hK k hk)
  refine (V.qput_is (some ⟨w'.heap.size, 0, none⟩) 1 1 [0] (Lib.hid rfl) (by decide) (by simp) (by omega) 1 (Lib.hid (by decide)) _ (h3.below hb) ⟨by simp [V.wfI.mk], fun _ => ⟨_, rfl, by simp, fun hs => by have := (h4 _ hs).2.1; simp at this; omega, fun i hi => by
    have : i = 0 := by simp at hi; omega
    subst this; simp [Addr.add]⟩⟩ (by rw [hz]; omega)).mono ?_
  rintro e w2 ⟨S', rfl, hv, hf⟩
  have ht := DQ.turn hX (N := N) (A := A) (B := B + 1) (f := f) (w := w) (w' := w'.alloc (.cells #[.int .i64 0] 3)) hA0 ⟨D, hj.low hX (hb.mono hNw) hN, hd⟩ hK2 hN (by rw [hz]; omega) (fun k hk => ⟨h3.lo k hk, (h4 k hk).2⟩) (show b + 1 ≤ B + 1 by omega) hv hf
  exact ⟨⟨_, rfl⟩, ⟨ht.1.1.mono (by rw [hz]; omega) (Nat.le_refl _), ht.1.2⟩, (UpT.below hb).trans ht.2⟩
end
end Go.Proofs.YthgjejclhdolmaaGreatDoor
