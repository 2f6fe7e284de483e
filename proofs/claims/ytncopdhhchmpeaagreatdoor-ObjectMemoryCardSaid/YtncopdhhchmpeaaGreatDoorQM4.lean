/-
  Rv, Rw, Rx, Ry, Rz, Cb, Cb2, Mx, Fg, Fd, Fe, My, Mz, Za, Oi, Om, On, Si, Ke, Kf, Zb, Zc: what ObjectMemory reaches of them.
-/
import Derived.Test.YtncopdhhchmpeaaGreatDoorQM3
namespace Go.Proofs.YtncopdhhchmpeaaGreatDoor
open Go.ChangeShapes Go.WideShapes Go.ChangeAt Go.RowKit
set_option linter.unusedVariables false
set_option linter.unusedSimpArgs false
section
variable {cs nt : List Value} {s mb S N : Nat} {k0 k1 k2 k3 k4 o x y : Int} {Q : World → Prop}
set_option maxRecDepth 100000 in
set_option maxHeartbeats 1000000 in
theorem cnode_1 (hnl : nt.length = 19) (hn1 : ∀ v, v ∈ nt → v.oneCell' = true) (m0 m1 m2 m3 m4 : Int) (n0 n1 n2 n3 n4 : Int) (r0 r1 r2 r3 r4 : Int) (q0 q1 q2 q3 q4 : Int) (hc : Hid (CallC cs s k0 k1 k2 k3 k4 1 x)) (hj : Hid (CallJ cs s 1 m0 m1 m2 m3 m4 n0 n1 n2 n3 n4)) (x0 : 0 ≤ x) (x1 : x ≤ 4294967295) (ev : Value) (w : World) (hN : N ≤ w.heap.size)
    (hs : w.cell? ⟨s, 0, none⟩ = some (.pointer (some ⟨mb, 0, none⟩)))
    (hQ : ∀ w1 w2, Q w1 → Below N w1 w2 → Q w2) (hQc : ∀ W, Q W → W.cell? ⟨s, 0, none⟩ = some (.pointer (some ⟨mb, 0, none⟩)))
    (hP : ∀ W, Below w.heap.size w W → Calls Tryz.prog 138 #[.pointer (some ⟨mb, 0, none⟩), (Value.agg #[.int .i64 k0, .int .i64 k1, .int .i64 k2, .int .i64 k3, .int .u32 k4]), .int .i64 x, (Value.agg #[.int .i64 m0, .int .i64 m1, .int .i64 m2, .int .i64 m3, .int .u32 m4])] W fun e w' => e = .returned (.tuple #[(Value.agg #[.int .i64 r0, .int .i64 r1, .int .i64 r2, .int .i64 r3, .int .u32 r4]), ev]) ∧ Q w' ∧ UpT N W w')
    (hZ : ∀ W, Q W → Calls Tryz.prog 23 #[.pointer (some ⟨s, 0, none⟩), (Value.agg #[.int .i64 r0, .int .i64 r1, .int .i64 r2, .int .i64 r3, .int .u32 r4])] W fun e w' => e = .returned (Value.agg #[.int .i64 q0, .int .i64 q1, .int .i64 q2, .int .i64 q3, .int .u32 q4]) ∧ Below W.heap.size W w')
    (hT : ∀ W, Q W → Calls Tryz.prog 136 #[(Value.agg #[.int .u32 0, .int .u32 0, .int .u32 0, .int .u32 0, .int .i64 q0, .int .i64 q1, .int .i64 q2, .int .i64 q3, .int .u32 q4, .int .i64 0, .int .i64 0, .int .i64 0, .int .i64 0, .int .u32 0, .int .i64 0, .int .i64 0, .int .i64 0, .int .i64 0, .int .u32 0]), ev] W fun e w' => e = .returned (.agg nt.toArray) ∧ Below W.heap.size W w') :
    Calls Tryz.prog 113 #[(.agg cs.toArray)] w fun e w' => e = .returned (.agg nt.toArray) ∧ Q w' ∧ UpT N w w' := by
  have HPk := Lib.hid hP
  have HTo := Lib.hid hT
  have HZo := Lib.hid hZ
  have HQ := Lib.hid hQ
  have HQc := Lib.hid hQc
  have HL := Lib.hid (⟨cell_lt hs, hs⟩ : s < w.heap.size ∧ w.cell? ⟨s, 0, none⟩ = some (.pointer (some ⟨mb, 0, none⟩)))
  have hsz : nt.toArray.size = 19 := by simp [hnl]
  clear hP hT hZ hs hQ hQc
  go_enter Tryz.func113, Tryz.ntmps113; go_upto_region 1 with fail; generalize hA : World.alloc w _ = wK; obtain ⟨C, hC⟩ : ∃ C, C = w.heap.size := ⟨_, rfl⟩; have HK : Hid (Below w.heap.size w wK ∧ wK.rangeAt C 0 cs ∧ wK.heap.size = C + 1) := Lib.hid (by rw [← hA, hC]; exact ⟨(Below.refl _ _).alloc (Nat.le_refl _) _, cbox _ _ _, by simp⟩); have HCl : Hid (w.heap.size ≤ C) := Lib.hid (by rw [hC]; exact Nat.le_refl _); rw [← hC]; clear hA hC; generalize hA : World.alloc wK _ = wA; obtain ⟨R, hR⟩ : ∃ R, R = C + 1 := ⟨_, rfl⟩; have HA : Hid (Below w.heap.size w wA ∧ wA.rangeAt C 0 cs ∧ World.there wA R 0 19 ∧ C < R ∧ R < wA.heap.size) := Lib.hid (by rw [← hA, hR, ← HK.out.2.2]; exact ⟨HK.out.1.alloc HK.out.1.size _, range_below HK.out.2.1 ((Below.refl _ _).alloc (Nat.le_refl _) _) (by have := HK.out.2.2; omega), nthere_new _ _ 19 (by rfl) _, by have := HK.out.2.2; omega, by simp⟩); rw [← hR]; clear hA hR
  have q6 := CallC.cell HA.out.2.1 6 _ hc.out.c6
  have HKc : Hid (∀ W, W.rangeAt C 0 cs → World.cell? W ⟨C, 0, none⟩ = some (.pointer (some ⟨s, 0, none⟩)) ∧ (World.cell? W ⟨C, 1, none⟩ = some (.int .i64 k0) ∧ World.cell? W ⟨C, 2, none⟩ = some (.int .i64 k1) ∧ World.cell? W ⟨C, 3, none⟩ = some (.int .i64 k2) ∧ World.cell? W ⟨C, 4, none⟩ = some (.int .i64 k3) ∧ World.cell? W ⟨C, 5, none⟩ = some (.int .u32 k4))) := Lib.hid (fun W hr => ⟨CallC.cell hr 0 _ hc.out.c0, ⟨CallC.cell hr 1 _ hc.out.c1, CallC.cell hr 2 _ hc.out.c2, CallC.cell hr 3 _ hc.out.c3, CallC.cell hr 4 _ hc.out.c4, CallC.cell hr 5 _ hc.out.c5⟩⟩)
  have HSC : Hid (∀ W, Below wA.heap.size wA W → (World.cell? W ⟨C, 0, none⟩ = some (.pointer (some ⟨s, 0, none⟩)) ∧ World.cell? W ⟨s, 0, none⟩ = some (.pointer (some ⟨mb, 0, none⟩)) ∧ (World.cell? W ⟨C, 1, none⟩ = some (.int .i64 k0) ∧ World.cell? W ⟨C, 2, none⟩ = some (.int .i64 k1) ∧ World.cell? W ⟨C, 3, none⟩ = some (.int .i64 k2) ∧ World.cell? W ⟨C, 4, none⟩ = some (.int .i64 k3) ∧ World.cell? W ⟨C, 5, none⟩ = some (.int .u32 k4)) ∧ World.rangeAt W C 0 cs)) := Lib.hid (fun W hW => by
    have hr := range_below HA.out.2.1 hW (Nat.lt_trans HA.out.2.2.2.1 HA.out.2.2.2.2)
    have hb := HA.out.1.trans (hW.mono HA.out.1.size)
    have hk := HKc.out W hr
    exact ⟨hk.1, (hb.cell (p := ⟨s, 0, none⟩) HL.out.1).trans HL.out.2, hk.2, hr⟩)
  go_upto_region 6 with fail
  have HCs : Hid (C < wA.heap.size ∧ N ≤ C ∧ N ≤ R ∧ R < wA.heap.size ∧ N ≤ wA.heap.size) := Lib.hid (by have := HA.out.2.2.2.1; have := HA.out.2.2.2.2; have := HCl.out; omega)
  obtain ⟨wD, hwD⟩ : ∃ wD, wD = wA.drew := ⟨_, rfl⟩
  have HBd : Hid (Below wA.heap.size wA wD) := Lib.hid (by rw [hwD]; exact (Below.refl _ _).drew)
  refine wp_region_noPanic ?_
  refine wp_region_held_drew (S := fun W => (World.cell? W ⟨C, 0, none⟩ = some (.pointer (some ⟨s, 0, none⟩)) ∧ World.cell? W ⟨s, 0, none⟩ = some (.pointer (some ⟨mb, 0, none⟩)) ∧ (World.cell? W ⟨C, 1, none⟩ = some (.int .i64 k0) ∧ World.cell? W ⟨C, 2, none⟩ = some (.int .i64 k1) ∧ World.cell? W ⟨C, 3, none⟩ = some (.int .i64 k2) ∧ World.cell? W ⟨C, 4, none⟩ = some (.int .i64 k3) ∧ World.cell? W ⟨C, 5, none⟩ = some (.int .u32 k4)) ∧ World.rangeAt W C 0 cs)) (by kernel_rfl) (by rw [← hwD]; exact HSC.out _ HBd.out) (fun hHeld => ?_)
  rw [← hwD] at hHeld ⊢
  clear hwD q6
  have HSQ : Hid (∀ W, Q W → W.rangeAt C 0 cs → (World.cell? W ⟨C, 0, none⟩ = some (.pointer (some ⟨s, 0, none⟩)) ∧ World.cell? W ⟨s, 0, none⟩ = some (.pointer (some ⟨mb, 0, none⟩)) ∧ (World.cell? W ⟨C, 1, none⟩ = some (.int .i64 k0) ∧ World.cell? W ⟨C, 2, none⟩ = some (.int .i64 k1) ∧ World.cell? W ⟨C, 3, none⟩ = some (.int .i64 k2) ∧ World.cell? W ⟨C, 4, none⟩ = some (.int .i64 k3) ∧ World.cell? W ⟨C, 5, none⟩ = some (.int .u32 k4)) ∧ World.rangeAt W C 0 cs)) := Lib.hid (fun W hq hr => ⟨(HKc.out W hr).1, HQc.out W hq, (HKc.out W hr).2, hr⟩)
  refine wpAnyH_take (i := 0) (v := ?_) (by rfl) (by kernel_rfl) (by kernel_rfl) (by kernel_rfl) (fun _ _ _ h => h) (Or.inl ⟨by kernel_rfl, ?_⟩) (by assumption) ?_; rotate_left 1; (focus (intro w hSw; (try dsimp only at hSw); simp only [List.getElem_toArray, List.getElem_cons_succ, List.getElem_cons_zero]; all_goals go_simp; all_goals (try with_reducible rfl))); (try simp only [Act.put, List.getElem_toArray, List.getElem_cons_succ, List.getElem_cons_zero, List.setIfInBounds_toArray, List.set_cons_zero, List.set_cons_succ])
  refine wpAnyH_take (i := 1) (v := ?_) (by rfl) (by kernel_rfl) (by kernel_rfl) (by kernel_rfl) (fun _ _ _ h => h) (Or.inl ⟨by kernel_rfl, ?_⟩) (by assumption) ?_; rotate_left 1; (focus (intro w hSw; (try dsimp only at hSw); simp only [List.getElem_toArray, List.getElem_cons_succ, List.getElem_cons_zero]; all_goals go_simp; all_goals (try with_reducible rfl))); (try simp only [Act.put, List.getElem_toArray, List.getElem_cons_succ, List.getElem_cons_zero, List.setIfInBounds_toArray, List.set_cons_zero, List.set_cons_succ])
  refine wpAnyH_take (i := 2) (v := ?_) (by rfl) (by kernel_rfl) (by kernel_rfl) (by kernel_rfl) (fun _ _ _ h => h) (Or.inl ⟨by kernel_rfl, ?_⟩) (by assumption) ?_; rotate_left 1; (focus (intro w hSw; (try dsimp only at hSw); simp only [List.getElem_toArray, List.getElem_cons_succ, List.getElem_cons_zero]; all_goals go_simp; all_goals (try with_reducible rfl))); (try simp only [Act.put, List.getElem_toArray, List.getElem_cons_succ, List.getElem_cons_zero, List.setIfInBounds_toArray, List.set_cons_zero, List.set_cons_succ])
  refine wpAnyH_take (i := 3) (v := ?_) (by rfl) (by kernel_rfl) (by kernel_rfl) (by kernel_rfl) (fun _ _ _ h => h) (Or.inl ⟨by kernel_rfl, ?_⟩) (by assumption) ?_; rotate_left 1; (focus (intro w hSw; (try dsimp only at hSw); simp only [List.getElem_toArray, List.getElem_cons_succ, List.getElem_cons_zero]; all_goals go_simp; all_goals (try with_reducible rfl))); (try simp only [Act.put, List.getElem_toArray, List.getElem_cons_succ, List.getElem_cons_zero, List.setIfInBounds_toArray, List.set_cons_zero, List.set_cons_succ])
  refine wpAnyH_take (i := 4) (v := ?_) (by rfl) (by kernel_rfl) (by kernel_rfl) (by kernel_rfl) (fun _ _ _ h => h) (Or.inl ⟨by kernel_rfl, ?_⟩) (by assumption) ?_; rotate_left 1; (focus (intro w hSw; (try dsimp only at hSw); simp only [List.getElem_toArray, List.getElem_cons_succ, List.getElem_cons_zero]; all_goals go_simp; all_goals (try with_reducible rfl))); (try simp only [Act.put, List.getElem_toArray, List.getElem_cons_succ, List.getElem_cons_zero, List.setIfInBounds_toArray, List.set_cons_zero, List.set_cons_succ])
  refine wpAnyH_take (i := 5) (v := ?_) (by rfl) (by kernel_rfl) (by kernel_rfl) (by kernel_rfl) (fun _ _ _ h => h) (Or.inl ⟨by kernel_rfl, ?_⟩) (by assumption) ?_; rotate_left 1; (focus (intro w hSw; (try dsimp only at hSw); simp only [List.getElem_toArray, List.getElem_cons_succ, List.getElem_cons_zero]; all_goals go_simp; all_goals (try with_reducible rfl))); (try simp only [Act.put, List.getElem_toArray, List.getElem_cons_succ, List.getElem_cons_zero, List.setIfInBounds_toArray, List.set_cons_zero, List.set_cons_succ])
  refine wpAnyH_take (i := 6) (v := ?_) (by rfl) (by kernel_rfl) (by kernel_rfl) (by kernel_rfl) (fun _ _ _ h => h) (Or.inl ⟨by kernel_rfl, ?_⟩) (by assumption) ?_; rotate_left 1; (focus (intro w hSw; (try dsimp only at hSw); simp only [List.getElem_toArray, List.getElem_cons_succ, List.getElem_cons_zero]; all_goals go_simp; all_goals (try with_reducible rfl))); (try simp only [Act.put, List.getElem_toArray, List.getElem_cons_succ, List.getElem_cons_zero, List.setIfInBounds_toArray, List.set_cons_zero, List.set_cons_succ])
  refine wpAnyH_take (i := 7) (v := .agg cs.toArray) (by rfl) (by kernel_rfl) (by kernel_rfl) (by kernel_rfl) (fun _ _ _ h => h) (Or.inl ⟨by kernel_rfl, (fun w hSw => cload_exec (Operand.tmp 1) (by rfl) (by rfl) hc.out.len hSw.2.2.2)⟩) (by assumption) ?_; (try simp only [Act.put, List.getElem_toArray, List.getElem_cons_succ, List.getElem_cons_zero, List.setIfInBounds_toArray, List.set_cons_zero, List.set_cons_succ])
  refine wpAnyH_take (i := 9) (v := .agg cs.toArray) (by rfl) (by kernel_rfl) (by kernel_rfl) (by kernel_rfl) (fun _ _ _ h => h) (Or.inl ⟨by kernel_rfl, (fun w hSw => cload_exec (Operand.tmp 1) (by rfl) (by rfl) hc.out.len hSw.2.2.2)⟩) (by assumption) ?_; (try simp only [Act.put, List.getElem_toArray, List.getElem_cons_succ, List.getElem_cons_zero, List.setIfInBounds_toArray, List.set_cons_zero, List.set_cons_succ])
  refine wpAnyH_ready (rs := [8, 15]) (by kernel_rfl) (by simp) ?_
  refine AllReadyH.cons (by rfl) (fun K hK => ?_) (AllReadyH.cons (by rfl) (fun K hK => ?_) AllReadyH.nil)
  · rw [if_pos (by kernel_rfl)]; simp only [List.getElem_toArray, List.getElem_cons_succ, List.getElem_cons_zero]
    go_wp2_with (first | (go_at_call 135; (with_reducible refine (oplace_is hc x0 x1 _).mono ?_); rintro e w2 ⟨rfl, hb⟩; have HB2 := Lib.hid ((HBd.out).trans (hb.mono (HBd.out).size)); have hb2 := Lib.hid hb; clear hb)); refine hK.out _ _ (HSC.out _ HB2.out) (fun hHeld => ?_); clear hK K; (try simp only [Act.put, List.getElem_toArray, List.getElem_cons_succ, List.getElem_cons_zero, List.setIfInBounds_toArray, List.set_cons_zero, List.set_cons_succ])
    refine wpAnyH_ready (rs := [10, 15]) (by kernel_rfl) (by simp) ?_
    refine AllReadyH.cons (by rfl) (fun K hK => ?_) (AllReadyH.cons (by rfl) (fun K hK => ?_) AllReadyH.nil)
    · rw [if_pos (by kernel_rfl)]; simp only [List.getElem_toArray, List.getElem_cons_succ, List.getElem_cons_zero]
      go_wp2_with (first | (go_at_call 139; (with_reducible refine (osent_is hj _).mono ?_); rintro e w3 ⟨rfl, hb⟩; have HB3 := Lib.hid ((HB2.out).trans (hb.mono (HB2.out).size)); have hb3 := Lib.hid hb; clear hb)); refine hK.out _ _ (HSC.out _ HB3.out) (fun hHeld => ?_); clear hK K; (try simp only [Act.put, List.getElem_toArray, List.getElem_cons_succ, List.getElem_cons_zero, List.setIfInBounds_toArray, List.set_cons_zero, List.set_cons_succ])
      refine wpAnyH_ready (rs := [11, 15]) (by kernel_rfl) (by simp) ?_
      refine AllReadyH.cons (by rfl) (fun K hK => ?_) (AllReadyH.cons (by rfl) (fun K hK => ?_) AllReadyH.nil)
      · rw [if_pos (by kernel_rfl)]; simp only [List.getElem_toArray, List.getElem_cons_succ, List.getElem_cons_zero]
        go_wp2_with (first | (go_at_call 138; (with_reducible refine (HPk.out _ (HA.out.1.trans ((HB3.out).mono HA.out.1.size))).mono ?_); rintro e w4 ⟨rfl, hq, hu⟩; have H4 : Hid (Q w4 ∧ UpT N wA w4) := Lib.hid ⟨hq, (UpT.below HB3.out).trans hu⟩; have hu4 := Lib.hid hu; clear hq hu)); have HR4 : Hid (w4.rangeAt C 0 cs ∧ World.there w4 R 0 19) := Lib.hid ⟨range_same HA.out.2.1 (H4.out.2.2 C HCs.out.2.1 HCs.out.1), nthere_same HA.out.2.2.1 (H4.out.2.2 R HCs.out.2.2.1 HCs.out.2.2.2.1)⟩; refine hK.out _ _ (HSQ.out _ H4.out.1 HR4.out.1) (fun hHeld => ?_); clear hK K; (try simp only [Act.put, List.getElem_toArray, List.getElem_cons_succ, List.getElem_cons_zero, List.setIfInBounds_toArray, List.set_cons_zero, List.set_cons_succ])
        refine wpAnyH_take (i := 12) (v := ?_) (by rfl) (by kernel_rfl) (by kernel_rfl) (by kernel_rfl) (fun _ _ _ h => h) (Or.inl ⟨by kernel_rfl, ?_⟩) (by assumption) ?_; rotate_left 1; (focus (intro w hSw; (try dsimp only at hSw); simp only [List.getElem_toArray, List.getElem_cons_succ, List.getElem_cons_zero]; all_goals go_simp; all_goals (try with_reducible rfl))); (try simp only [Act.put, List.getElem_toArray, List.getElem_cons_succ, List.getElem_cons_zero, List.setIfInBounds_toArray, List.set_cons_zero, List.set_cons_succ])
        refine wpAnyH_take (i := 13) (v := ?_) (by rfl) (by kernel_rfl) (by kernel_rfl) (by kernel_rfl) (fun _ _ _ h => h) (Or.inl ⟨by kernel_rfl, ?_⟩) (by assumption) ?_; rotate_left 1; (focus (intro w hSw; (try dsimp only at hSw); simp only [List.getElem_toArray, List.getElem_cons_succ, List.getElem_cons_zero]; all_goals go_simp; all_goals (try with_reducible rfl))); (try simp only [Act.put, List.getElem_toArray, List.getElem_cons_succ, List.getElem_cons_zero, List.setIfInBounds_toArray, List.set_cons_zero, List.set_cons_succ])
        refine wpAnyH_take (i := 14) (v := ?_) (by rfl) (by kernel_rfl) (by kernel_rfl) (by kernel_rfl) (fun _ _ _ h => h) (Or.inl ⟨by kernel_rfl, ?_⟩) (by assumption) ?_; rotate_left 1; (focus (intro w hSw; (try dsimp only at hSw); simp only [List.getElem_toArray, List.getElem_cons_succ, List.getElem_cons_zero]; all_goals go_simp; all_goals (try with_reducible rfl))); (try simp only [Act.put, List.getElem_toArray, List.getElem_cons_succ, List.getElem_cons_zero, List.setIfInBounds_toArray, List.set_cons_zero, List.set_cons_succ])
        refine wpAnyH_ready (rs := [15]) (by kernel_rfl) (by simp) ?_; refine AllReadyH.cons (by rfl) (fun K hK => ?_) AllReadyH.nil; rw [if_pos (by kernel_rfl)]; simp only [List.getElem_toArray, List.getElem_cons_succ, List.getElem_cons_zero]
        go_wp2_with fail
        generalize hE : World.alloc w4 _ = wE
        obtain ⟨J, hJ⟩ : ∃ J, J = w4.heap.size := ⟨_, rfl⟩
        have HV : Hid ((Q wE ∧ UpT N wA wE ∧ World.rangeAt wE C 0 cs ∧ World.there wE R 0 19 ∧ World.there wE J 0 5 ∧ wA.heap.size ≤ J ∧ J < (World.heap wE).size)) := Lib.hid (by
          have hb : Below w4.heap.size w4 wE := by rw [← hE]; exact (Below.refl _ _).alloc (Nat.le_refl _) _
          have hz : w4.heap.size < wE.heap.size := by rw [← hE]; simp
          have hs := H4.out.2.1
          exact ⟨HQ.out _ _ H4.out.1 (hb.mono (Nat.le_trans HCs.out.2.2.2.2 hs)), H4.out.2.trans (UpT.below hb), range_below HR4.out.1 hb (Nat.lt_of_lt_of_le HCs.out.1 hs), nthere_below HR4.out.2 hb (Nat.lt_of_lt_of_le HCs.out.2.2.2.1 hs), by rw [hJ, ← hE]; exact nthere_new _ _ 5 (by rfl) _, by rw [hJ]; exact hs, by rw [hJ]; exact hz⟩)
        rw [← hJ]
        clear hE hJ
        refine hK.out _ _ (HSQ.out _ HV.out.1 HV.out.2.2.1) (fun hHeld => ?_)
        clear hK K
        (try simp only [Act.put, List.getElem_toArray, List.getElem_cons_succ, List.getElem_cons_zero, List.setIfInBounds_toArray, List.set_cons_zero, List.set_cons_succ])
        refine wpAnyH_ready (rs := [16]) (by kernel_rfl) (by simp) ?_; refine AllReadyH.cons (by rfl) (fun K hK => ?_) AllReadyH.nil; rw [if_pos (by kernel_rfl)]; simp only [List.getElem_toArray, List.getElem_cons_succ, List.getElem_cons_zero]; refine wp_store_mid 42 (Operand.tmp 5) (Operand.tmp 51) (by rfl) J 0 ([.int .i64 r0, .int .i64 r1, .int .i64 r2, .int .i64 r3, .int .u32 r4] : List Value).toArray (by rfl) (by rfl) HV.out.2.2.2.2.1 infoKeyM (all_one (key_one r0 r1 r2 r3 r4)) ?_; generalize hW : World.setCells wE _ _ _ = wF; have HX : Hid (Below wA.heap.size wE wF ∧ World.rangeAt wF J 0 ([.int .i64 r0, .int .i64 r1, .int .i64 r2, .int .i64 r3, .int .u32 r4] : List Value) ∧ World.rangeAt wF C 0 cs) := Lib.hid (by rw [← hW]; exact ⟨nbelow_cells (Below.refl _ _) HV.out.2.2.2.2.2.1 _ _, World.rangeAt_setCells_same wE J 0 ([.int .i64 r0, .int .i64 r1, .int .i64 r2, .int .i64 r3, .int .u32 r4] : List Value) HV.out.2.2.2.2.1, World.rangeAt_setCells_apart HV.out.2.2.1 J 0 _ (.inl (Nat.ne_of_lt (Nat.lt_of_lt_of_le HCs.out.1 HV.out.2.2.2.2.2.1)))⟩); clear hW; have HF : Hid (Q wF ∧ UpT N wA wF ∧ World.rangeAt wF C 0 cs ∧ World.there wF R 0 19 ∧ World.rangeAt wF J 0 ([.int .i64 r0, .int .i64 r1, .int .i64 r2, .int .i64 r3, .int .u32 r4] : List Value)) := Lib.hid (by have hu := HV.out.2.1.low HX.out.1 (Nat.le_refl _); exact ⟨HQ.out _ _ HV.out.1 (HX.out.1.mono HCs.out.2.2.2.2), hu, HX.out.2.2, nthere_same HA.out.2.2.1 (hu.2 R HCs.out.2.2.1 HCs.out.2.2.2.1), HX.out.2.1⟩); refine hK.out _ _ (HSQ.out _ HF.out.1 HF.out.2.2.1) (fun hHeld => ?_); clear hK K; (try simp only [Act.put, List.getElem_toArray, List.getElem_cons_succ, List.getElem_cons_zero, List.setIfInBounds_toArray, List.set_cons_zero, List.set_cons_succ]); refine wpAnyH_take (i := 17) (v := ?_) (by rfl) (by kernel_rfl) (by kernel_rfl) (by kernel_rfl) (fun _ _ _ h => h) (Or.inl ⟨by kernel_rfl, ?_⟩) (by assumption) ?_; rotate_left 1; (focus (intro w hSw; (try dsimp only at hSw); simp only [List.getElem_toArray, List.getElem_cons_succ, List.getElem_cons_zero]; all_goals go_simp; all_goals (try with_reducible rfl))); (try simp only [Act.put, List.getElem_toArray, List.getElem_cons_succ, List.getElem_cons_zero, List.setIfInBounds_toArray, List.set_cons_zero, List.set_cons_succ]); refine wpAnyH_done (by kernel_rfl) ?_ _; refine NoPanic.normal ?_
        have j0 := CallC.cell HF.out.2.2.2.2 0 _ rfl; have j1 := CallC.cell HF.out.2.2.2.2 1 _ rfl; have j2 := CallC.cell HF.out.2.2.2.2 2 _ rfl; have j3 := CallC.cell HF.out.2.2.2.2 3 _ rfl; have j4 := CallC.cell HF.out.2.2.2.2 4 _ rfl; have jc := (HSQ.out _ HF.out.1 HF.out.2.2.1).1; have HNF : Hid (N ≤ wF.heap.size) := Lib.hid (Nat.le_trans HCs.out.2.2.2.2 HF.out.2.1.1); go_wp2_with (first | (go_at_call 23; (with_reducible refine (HZo.out _ HF.out.1).mono ?_); rintro e w5 ⟨rfl, hb⟩; have HB5 : Hid (Below wF.heap.size wF w5) := Lib.hid hb; clear hb) | (go_at_call 137; (with_reducible refine (okeyed_is q0 q1 q2 q3 q4 _).mono ?_); rintro e w6 ⟨rfl, hb⟩; have HB6 : Hid (Below wF.heap.size wF w6) := Lib.hid (HB5.out.trans (hb.mono HB5.out.size)); have HQ6 := Lib.hid (HQ.out _ _ HF.out.1 (HB6.out.mono HNF.out)); clear hb) | (go_at_call 136; (with_reducible refine (HTo.out _ HQ6.out).mono ?_); rintro e w7 ⟨rfl, hb⟩; have HB7 : Hid (Below wF.heap.size wF w7) := Lib.hid (HB6.out.trans (hb.mono HB6.out.size)); have HT7 : Hid (World.there w7 R 0 19) := Lib.hid (nthere_below HF.out.2.2.2.1 HB7.out (Nat.lt_of_lt_of_le HCs.out.2.2.2.1 HF.out.2.1.1)); have HQ7 := Lib.hid (HQ.out _ _ HF.out.1 (HB7.out.mono HNF.out)); clear hb) | (refine wpList_store_mid (by rfl) _ _ _ (by rfl) R 0 nt.toArray (by rfl) (by rfl) (by rw [hsz]; exact HT7.out) (by rw [hsz]; exact infoNote) (all_one hn1) ?_)); have hRn : w.heap.size ≤ R := Nat.le_trans HCl.out (Nat.le_of_lt HA.out.2.2.2.1); have HS : Hid (Below w.heap.size w7 (w7.setCells R 0 nt.toArray.toList) ∧ (w7.setCells R 0 nt.toArray.toList).rangeAt R 0 nt) := Lib.hid ⟨nbelow_cells (Below.refl _ _) hRn _ _, World.rangeAt_setCells_same w7 R 0 nt (by rw [hnl]; exact HT7.out)⟩; have hld := nload hnl HS.out.2; refine bodyPost_ret (v := (.agg nt.toArray)) (by simp [results, Tryz.results113, Act.put, asAddr, hld]) rfl ⟨rfl, HQ.out _ _ HQ7.out (HS.out.1.mono hN), ((UpT.below HA.out.1).trans (HF.out.2.1.trans (UpT.below HB7.out))).low HS.out.1 (Nat.le_refl _)⟩
      · rw [if_pos (by kernel_rfl)]; simp only [List.getElem_toArray, List.getElem_cons_succ, List.getElem_cons_zero]
        go_wp2_with fail
        generalize hE : World.alloc w3 _ = wE; obtain ⟨J, hJ⟩ : ∃ J, J = w3.heap.size := ⟨_, rfl⟩; have HE : Hid (Below wA.heap.size wA wE ∧ World.there wE J 0 5 ∧ wA.heap.size ≤ J ∧ J < wE.heap.size) := Lib.hid (by rw [← hE, hJ]; exact ⟨(HB3.out).alloc (HB3.out).size _, nthere_new _ _ 5 (by rfl) _, (HB3.out).size, by simp⟩); rw [← hJ]; clear hE hJ; refine hK.out _ _ (HSC.out _ HE.out.1) (fun hHeld => ?_)
        clear hK K
        (try simp only [Act.put, List.getElem_toArray, List.getElem_cons_succ, List.getElem_cons_zero, List.setIfInBounds_toArray, List.set_cons_zero, List.set_cons_succ])
        refine wpAnyH_ready (rs := [11]) (by kernel_rfl) (by simp) ?_; refine AllReadyH.cons (by rfl) (fun K hK => ?_) AllReadyH.nil; rw [if_pos (by kernel_rfl)]; simp only [List.getElem_toArray, List.getElem_cons_succ, List.getElem_cons_zero]
        go_wp2_with (first | (go_at_call 138; (with_reducible refine (HPk.out _ (HA.out.1.trans ((HE.out.1).mono HA.out.1.size))).mono ?_); rintro e w4 ⟨rfl, hq, hu⟩; have H4 : Hid (Q w4 ∧ UpT N wA w4) := Lib.hid ⟨hq, (UpT.below HE.out.1).trans hu⟩; have hu4 := Lib.hid hu; clear hq hu)); have HR4 : Hid (w4.rangeAt C 0 cs ∧ World.there w4 R 0 19) := Lib.hid ⟨range_same HA.out.2.1 (H4.out.2.2 C HCs.out.2.1 HCs.out.1), nthere_same HA.out.2.2.1 (H4.out.2.2 R HCs.out.2.2.1 HCs.out.2.2.2.1)⟩; refine hK.out _ _ (HSQ.out _ H4.out.1 HR4.out.1) (fun hHeld => ?_); clear hK K; (try simp only [Act.put, List.getElem_toArray, List.getElem_cons_succ, List.getElem_cons_zero, List.setIfInBounds_toArray, List.set_cons_zero, List.set_cons_succ])
        have HT4 := Lib.hid HE.out
        have HV : Hid ((Q w4 ∧ UpT N wA w4 ∧ World.rangeAt w4 C 0 cs ∧ World.there w4 R 0 19 ∧ World.there w4 J 0 5 ∧ wA.heap.size ≤ J ∧ J < (World.heap w4).size)) := Lib.hid ⟨H4.out.1, H4.out.2, HR4.out.1, HR4.out.2, nthere_same HT4.out.2.1 (hu4.out.2 J (Nat.le_trans HCs.out.2.2.2.2 HT4.out.2.2.1) HT4.out.2.2.2), HT4.out.2.2.1, Nat.lt_of_lt_of_le HT4.out.2.2.2 hu4.out.1⟩; refine wpAnyH_take (i := 12) (v := ?_) (by rfl) (by kernel_rfl) (by kernel_rfl) (by kernel_rfl) (fun _ _ _ h => h) (Or.inl ⟨by kernel_rfl, ?_⟩) (by assumption) ?_; rotate_left 1; (focus (intro w hSw; (try dsimp only at hSw); simp only [List.getElem_toArray, List.getElem_cons_succ, List.getElem_cons_zero]; all_goals go_simp; all_goals (try with_reducible rfl))); (try simp only [Act.put, List.getElem_toArray, List.getElem_cons_succ, List.getElem_cons_zero, List.setIfInBounds_toArray, List.set_cons_zero, List.set_cons_succ]); refine wpAnyH_take (i := 13) (v := ?_) (by rfl) (by kernel_rfl) (by kernel_rfl) (by kernel_rfl) (fun _ _ _ h => h) (Or.inl ⟨by kernel_rfl, ?_⟩) (by assumption) ?_; rotate_left 1; (focus (intro w hSw; (try dsimp only at hSw); simp only [List.getElem_toArray, List.getElem_cons_succ, List.getElem_cons_zero]; all_goals go_simp; all_goals (try with_reducible rfl))); (try simp only [Act.put, List.getElem_toArray, List.getElem_cons_succ, List.getElem_cons_zero, List.setIfInBounds_toArray, List.set_cons_zero, List.set_cons_succ]); refine wpAnyH_take (i := 14) (v := ?_) (by rfl) (by kernel_rfl) (by kernel_rfl) (by kernel_rfl) (fun _ _ _ h => h) (Or.inl ⟨by kernel_rfl, ?_⟩) (by assumption) ?_; rotate_left 1; (focus (intro w hSw; (try dsimp only at hSw); simp only [List.getElem_toArray, List.getElem_cons_succ, List.getElem_cons_zero]; all_goals go_simp; all_goals (try with_reducible rfl))); (try simp only [Act.put, List.getElem_toArray, List.getElem_cons_succ, List.getElem_cons_zero, List.setIfInBounds_toArray, List.set_cons_zero, List.set_cons_succ]); refine wpAnyH_ready (rs := [16]) (by kernel_rfl) (by simp) ?_; refine AllReadyH.cons (by rfl) (fun K hK => ?_) AllReadyH.nil; rw [if_pos (by kernel_rfl)]; simp only [List.getElem_toArray, List.getElem_cons_succ, List.getElem_cons_zero]; refine wp_store_mid 42 (Operand.tmp 5) (Operand.tmp 51) (by rfl) J 0 ([.int .i64 r0, .int .i64 r1, .int .i64 r2, .int .i64 r3, .int .u32 r4] : List Value).toArray (by rfl) (by rfl) HV.out.2.2.2.2.1 infoKeyM (all_one (key_one r0 r1 r2 r3 r4)) ?_; generalize hW : World.setCells w4 _ _ _ = wF; have HX : Hid (Below wA.heap.size w4 wF ∧ World.rangeAt wF J 0 ([.int .i64 r0, .int .i64 r1, .int .i64 r2, .int .i64 r3, .int .u32 r4] : List Value) ∧ World.rangeAt wF C 0 cs) := Lib.hid (by rw [← hW]; exact ⟨nbelow_cells (Below.refl _ _) HV.out.2.2.2.2.2.1 _ _, World.rangeAt_setCells_same w4 J 0 ([.int .i64 r0, .int .i64 r1, .int .i64 r2, .int .i64 r3, .int .u32 r4] : List Value) HV.out.2.2.2.2.1, World.rangeAt_setCells_apart HV.out.2.2.1 J 0 _ (.inl (Nat.ne_of_lt (Nat.lt_of_lt_of_le HCs.out.1 HV.out.2.2.2.2.2.1)))⟩); clear hW; have HF : Hid (Q wF ∧ UpT N wA wF ∧ World.rangeAt wF C 0 cs ∧ World.there wF R 0 19 ∧ World.rangeAt wF J 0 ([.int .i64 r0, .int .i64 r1, .int .i64 r2, .int .i64 r3, .int .u32 r4] : List Value)) := Lib.hid (by have hu := HV.out.2.1.low HX.out.1 (Nat.le_refl _); exact ⟨HQ.out _ _ HV.out.1 (HX.out.1.mono HCs.out.2.2.2.2), hu, HX.out.2.2, nthere_same HA.out.2.2.1 (hu.2 R HCs.out.2.2.1 HCs.out.2.2.2.1), HX.out.2.1⟩); refine hK.out _ _ (HSQ.out _ HF.out.1 HF.out.2.2.1) (fun hHeld => ?_); clear hK K; (try simp only [Act.put, List.getElem_toArray, List.getElem_cons_succ, List.getElem_cons_zero, List.setIfInBounds_toArray, List.set_cons_zero, List.set_cons_succ]); refine wpAnyH_take (i := 17) (v := ?_) (by rfl) (by kernel_rfl) (by kernel_rfl) (by kernel_rfl) (fun _ _ _ h => h) (Or.inl ⟨by kernel_rfl, ?_⟩) (by assumption) ?_; rotate_left 1; (focus (intro w hSw; (try dsimp only at hSw); simp only [List.getElem_toArray, List.getElem_cons_succ, List.getElem_cons_zero]; all_goals go_simp; all_goals (try with_reducible rfl))); (try simp only [Act.put, List.getElem_toArray, List.getElem_cons_succ, List.getElem_cons_zero, List.setIfInBounds_toArray, List.set_cons_zero, List.set_cons_succ]); refine wpAnyH_done (by kernel_rfl) ?_ _; refine NoPanic.normal ?_; have j0 := CallC.cell HF.out.2.2.2.2 0 _ rfl; have j1 := CallC.cell HF.out.2.2.2.2 1 _ rfl; have j2 := CallC.cell HF.out.2.2.2.2 2 _ rfl; have j3 := CallC.cell HF.out.2.2.2.2 3 _ rfl; have j4 := CallC.cell HF.out.2.2.2.2 4 _ rfl; have jc := (HSQ.out _ HF.out.1 HF.out.2.2.1).1; have HNF : Hid (N ≤ wF.heap.size) := Lib.hid (Nat.le_trans HCs.out.2.2.2.2 HF.out.2.1.1); go_wp2_with (first | (go_at_call 23; (with_reducible refine (HZo.out _ HF.out.1).mono ?_); rintro e w5 ⟨rfl, hb⟩; have HB5 : Hid (Below wF.heap.size wF w5) := Lib.hid hb; clear hb) | (go_at_call 137; (with_reducible refine (okeyed_is q0 q1 q2 q3 q4 _).mono ?_); rintro e w6 ⟨rfl, hb⟩; have HB6 : Hid (Below wF.heap.size wF w6) := Lib.hid (HB5.out.trans (hb.mono HB5.out.size)); have HQ6 := Lib.hid (HQ.out _ _ HF.out.1 (HB6.out.mono HNF.out)); clear hb) | (go_at_call 136; (with_reducible refine (HTo.out _ HQ6.out).mono ?_); rintro e w7 ⟨rfl, hb⟩; have HB7 : Hid (Below wF.heap.size wF w7) := Lib.hid (HB6.out.trans (hb.mono HB6.out.size)); have HT7 : Hid (World.there w7 R 0 19) := Lib.hid (nthere_below HF.out.2.2.2.1 HB7.out (Nat.lt_of_lt_of_le HCs.out.2.2.2.1 HF.out.2.1.1)); have HQ7 := Lib.hid (HQ.out _ _ HF.out.1 (HB7.out.mono HNF.out)); clear hb) | (refine wpList_store_mid (by rfl) _ _ _ (by rfl) R 0 nt.toArray (by rfl) (by rfl) (by rw [hsz]; exact HT7.out) (by rw [hsz]; exact infoNote) (all_one hn1) ?_)); have hRn : w.heap.size ≤ R := Nat.le_trans HCl.out (Nat.le_of_lt HA.out.2.2.2.1); have HS : Hid (Below w.heap.size w7 (w7.setCells R 0 nt.toArray.toList) ∧ (w7.setCells R 0 nt.toArray.toList).rangeAt R 0 nt) := Lib.hid ⟨nbelow_cells (Below.refl _ _) hRn _ _, World.rangeAt_setCells_same w7 R 0 nt (by rw [hnl]; exact HT7.out)⟩; have hld := nload hnl HS.out.2; refine bodyPost_ret (v := (.agg nt.toArray)) (by simp [results, Tryz.results113, Act.put, asAddr, hld]) rfl ⟨rfl, HQ.out _ _ HQ7.out (HS.out.1.mono hN), ((UpT.below HA.out.1).trans (HF.out.2.1.trans (UpT.below HB7.out))).low HS.out.1 (Nat.le_refl _)⟩
    · rw [if_pos (by kernel_rfl)]; simp only [List.getElem_toArray, List.getElem_cons_succ, List.getElem_cons_zero]
      go_wp2_with fail
      generalize hE : World.alloc w2 _ = wE; obtain ⟨J, hJ⟩ : ∃ J, J = w2.heap.size := ⟨_, rfl⟩; have HE : Hid (Below wA.heap.size wA wE ∧ World.there wE J 0 5 ∧ wA.heap.size ≤ J ∧ J < wE.heap.size) := Lib.hid (by rw [← hE, hJ]; exact ⟨(HB2.out).alloc (HB2.out).size _, nthere_new _ _ 5 (by rfl) _, (HB2.out).size, by simp⟩); rw [← hJ]; clear hE hJ; refine hK.out _ _ (HSC.out _ HE.out.1) (fun hHeld => ?_)
      clear hK K
      (try simp only [Act.put, List.getElem_toArray, List.getElem_cons_succ, List.getElem_cons_zero, List.setIfInBounds_toArray, List.set_cons_zero, List.set_cons_succ])
      refine wpAnyH_ready (rs := [10]) (by kernel_rfl) (by simp) ?_; refine AllReadyH.cons (by rfl) (fun K hK => ?_) AllReadyH.nil; rw [if_pos (by kernel_rfl)]; simp only [List.getElem_toArray, List.getElem_cons_succ, List.getElem_cons_zero]
      go_wp2_with (first | (go_at_call 139; (with_reducible refine (osent_is hj _).mono ?_); rintro e w3 ⟨rfl, hb⟩; have HB3 := Lib.hid ((HE.out.1).trans (hb.mono (HE.out.1).size)); have hb3 := Lib.hid hb; clear hb)); refine hK.out _ _ (HSC.out _ HB3.out) (fun hHeld => ?_); clear hK K; (try simp only [Act.put, List.getElem_toArray, List.getElem_cons_succ, List.getElem_cons_zero, List.setIfInBounds_toArray, List.set_cons_zero, List.set_cons_succ])
      have HT4 : Hid ((Below wA.heap.size wA w3 ∧ World.there w3 J 0 5 ∧ wA.heap.size ≤ J ∧ J < (World.heap w3).size)) := Lib.hid ⟨HB3.out, nthere_below HE.out.2.1 hb3.out HE.out.2.2.2, HE.out.2.2.1, Nat.lt_of_lt_of_le HE.out.2.2.2 hb3.out.size⟩
      refine wpAnyH_ready (rs := [11]) (by kernel_rfl) (by simp) ?_; refine AllReadyH.cons (by rfl) (fun K hK => ?_) AllReadyH.nil; rw [if_pos (by kernel_rfl)]; simp only [List.getElem_toArray, List.getElem_cons_succ, List.getElem_cons_zero]
      go_wp2_with (first | (go_at_call 138; (with_reducible refine (HPk.out _ (HA.out.1.trans ((HB3.out).mono HA.out.1.size))).mono ?_); rintro e w4 ⟨rfl, hq, hu⟩; have H4 : Hid (Q w4 ∧ UpT N wA w4) := Lib.hid ⟨hq, (UpT.below HB3.out).trans hu⟩; have hu4 := Lib.hid hu; clear hq hu)); have HR4 : Hid (w4.rangeAt C 0 cs ∧ World.there w4 R 0 19) := Lib.hid ⟨range_same HA.out.2.1 (H4.out.2.2 C HCs.out.2.1 HCs.out.1), nthere_same HA.out.2.2.1 (H4.out.2.2 R HCs.out.2.2.1 HCs.out.2.2.2.1)⟩; refine hK.out _ _ (HSQ.out _ H4.out.1 HR4.out.1) (fun hHeld => ?_); clear hK K; (try simp only [Act.put, List.getElem_toArray, List.getElem_cons_succ, List.getElem_cons_zero, List.setIfInBounds_toArray, List.set_cons_zero, List.set_cons_succ])
      have HV : Hid ((Q w4 ∧ UpT N wA w4 ∧ World.rangeAt w4 C 0 cs ∧ World.there w4 R 0 19 ∧ World.there w4 J 0 5 ∧ wA.heap.size ≤ J ∧ J < (World.heap w4).size)) := Lib.hid ⟨H4.out.1, H4.out.2, HR4.out.1, HR4.out.2, nthere_same HT4.out.2.1 (hu4.out.2 J (Nat.le_trans HCs.out.2.2.2.2 HT4.out.2.2.1) HT4.out.2.2.2), HT4.out.2.2.1, Nat.lt_of_lt_of_le HT4.out.2.2.2 hu4.out.1⟩; refine wpAnyH_take (i := 12) (v := ?_) (by rfl) (by kernel_rfl) (by kernel_rfl) (by kernel_rfl) (fun _ _ _ h => h) (Or.inl ⟨by kernel_rfl, ?_⟩) (by assumption) ?_; rotate_left 1; (focus (intro w hSw; (try dsimp only at hSw); simp only [List.getElem_toArray, List.getElem_cons_succ, List.getElem_cons_zero]; all_goals go_simp; all_goals (try with_reducible rfl))); (try simp only [Act.put, List.getElem_toArray, List.getElem_cons_succ, List.getElem_cons_zero, List.setIfInBounds_toArray, List.set_cons_zero, List.set_cons_succ]); refine wpAnyH_take (i := 13) (v := ?_) (by rfl) (by kernel_rfl) (by kernel_rfl) (by kernel_rfl) (fun _ _ _ h => h) (Or.inl ⟨by kernel_rfl, ?_⟩) (by assumption) ?_; rotate_left 1; (focus (intro w hSw; (try dsimp only at hSw); simp only [List.getElem_toArray, List.getElem_cons_succ, List.getElem_cons_zero]; all_goals go_simp; all_goals (try with_reducible rfl))); (try simp only [Act.put, List.getElem_toArray, List.getElem_cons_succ, List.getElem_cons_zero, List.setIfInBounds_toArray, List.set_cons_zero, List.set_cons_succ]); refine wpAnyH_take (i := 14) (v := ?_) (by rfl) (by kernel_rfl) (by kernel_rfl) (by kernel_rfl) (fun _ _ _ h => h) (Or.inl ⟨by kernel_rfl, ?_⟩) (by assumption) ?_; rotate_left 1; (focus (intro w hSw; (try dsimp only at hSw); simp only [List.getElem_toArray, List.getElem_cons_succ, List.getElem_cons_zero]; all_goals go_simp; all_goals (try with_reducible rfl))); (try simp only [Act.put, List.getElem_toArray, List.getElem_cons_succ, List.getElem_cons_zero, List.setIfInBounds_toArray, List.set_cons_zero, List.set_cons_succ]); refine wpAnyH_ready (rs := [16]) (by kernel_rfl) (by simp) ?_; refine AllReadyH.cons (by rfl) (fun K hK => ?_) AllReadyH.nil; rw [if_pos (by kernel_rfl)]; simp only [List.getElem_toArray, List.getElem_cons_succ, List.getElem_cons_zero]; refine wp_store_mid 42 (Operand.tmp 5) (Operand.tmp 51) (by rfl) J 0 ([.int .i64 r0, .int .i64 r1, .int .i64 r2, .int .i64 r3, .int .u32 r4] : List Value).toArray (by rfl) (by rfl) HV.out.2.2.2.2.1 infoKeyM (all_one (key_one r0 r1 r2 r3 r4)) ?_; generalize hW : World.setCells w4 _ _ _ = wF; have HX : Hid (Below wA.heap.size w4 wF ∧ World.rangeAt wF J 0 ([.int .i64 r0, .int .i64 r1, .int .i64 r2, .int .i64 r3, .int .u32 r4] : List Value) ∧ World.rangeAt wF C 0 cs) := Lib.hid (by rw [← hW]; exact ⟨nbelow_cells (Below.refl _ _) HV.out.2.2.2.2.2.1 _ _, World.rangeAt_setCells_same w4 J 0 ([.int .i64 r0, .int .i64 r1, .int .i64 r2, .int .i64 r3, .int .u32 r4] : List Value) HV.out.2.2.2.2.1, World.rangeAt_setCells_apart HV.out.2.2.1 J 0 _ (.inl (Nat.ne_of_lt (Nat.lt_of_lt_of_le HCs.out.1 HV.out.2.2.2.2.2.1)))⟩); clear hW; have HF : Hid (Q wF ∧ UpT N wA wF ∧ World.rangeAt wF C 0 cs ∧ World.there wF R 0 19 ∧ World.rangeAt wF J 0 ([.int .i64 r0, .int .i64 r1, .int .i64 r2, .int .i64 r3, .int .u32 r4] : List Value)) := Lib.hid (by have hu := HV.out.2.1.low HX.out.1 (Nat.le_refl _); exact ⟨HQ.out _ _ HV.out.1 (HX.out.1.mono HCs.out.2.2.2.2), hu, HX.out.2.2, nthere_same HA.out.2.2.1 (hu.2 R HCs.out.2.2.1 HCs.out.2.2.2.1), HX.out.2.1⟩); refine hK.out _ _ (HSQ.out _ HF.out.1 HF.out.2.2.1) (fun hHeld => ?_); clear hK K; (try simp only [Act.put, List.getElem_toArray, List.getElem_cons_succ, List.getElem_cons_zero, List.setIfInBounds_toArray, List.set_cons_zero, List.set_cons_succ]); refine wpAnyH_take (i := 17) (v := ?_) (by rfl) (by kernel_rfl) (by kernel_rfl) (by kernel_rfl) (fun _ _ _ h => h) (Or.inl ⟨by kernel_rfl, ?_⟩) (by assumption) ?_; rotate_left 1; (focus (intro w hSw; (try dsimp only at hSw); simp only [List.getElem_toArray, List.getElem_cons_succ, List.getElem_cons_zero]; all_goals go_simp; all_goals (try with_reducible rfl))); (try simp only [Act.put, List.getElem_toArray, List.getElem_cons_succ, List.getElem_cons_zero, List.setIfInBounds_toArray, List.set_cons_zero, List.set_cons_succ]); refine wpAnyH_done (by kernel_rfl) ?_ _; refine NoPanic.normal ?_; have j0 := CallC.cell HF.out.2.2.2.2 0 _ rfl; have j1 := CallC.cell HF.out.2.2.2.2 1 _ rfl; have j2 := CallC.cell HF.out.2.2.2.2 2 _ rfl; have j3 := CallC.cell HF.out.2.2.2.2 3 _ rfl; have j4 := CallC.cell HF.out.2.2.2.2 4 _ rfl; have jc := (HSQ.out _ HF.out.1 HF.out.2.2.1).1; have HNF : Hid (N ≤ wF.heap.size) := Lib.hid (Nat.le_trans HCs.out.2.2.2.2 HF.out.2.1.1); go_wp2_with (first | (go_at_call 23; (with_reducible refine (HZo.out _ HF.out.1).mono ?_); rintro e w5 ⟨rfl, hb⟩; have HB5 : Hid (Below wF.heap.size wF w5) := Lib.hid hb; clear hb) | (go_at_call 137; (with_reducible refine (okeyed_is q0 q1 q2 q3 q4 _).mono ?_); rintro e w6 ⟨rfl, hb⟩; have HB6 : Hid (Below wF.heap.size wF w6) := Lib.hid (HB5.out.trans (hb.mono HB5.out.size)); have HQ6 := Lib.hid (HQ.out _ _ HF.out.1 (HB6.out.mono HNF.out)); clear hb) | (go_at_call 136; (with_reducible refine (HTo.out _ HQ6.out).mono ?_); rintro e w7 ⟨rfl, hb⟩; have HB7 : Hid (Below wF.heap.size wF w7) := Lib.hid (HB6.out.trans (hb.mono HB6.out.size)); have HT7 : Hid (World.there w7 R 0 19) := Lib.hid (nthere_below HF.out.2.2.2.1 HB7.out (Nat.lt_of_lt_of_le HCs.out.2.2.2.1 HF.out.2.1.1)); have HQ7 := Lib.hid (HQ.out _ _ HF.out.1 (HB7.out.mono HNF.out)); clear hb) | (refine wpList_store_mid (by rfl) _ _ _ (by rfl) R 0 nt.toArray (by rfl) (by rfl) (by rw [hsz]; exact HT7.out) (by rw [hsz]; exact infoNote) (all_one hn1) ?_)); have hRn : w.heap.size ≤ R := Nat.le_trans HCl.out (Nat.le_of_lt HA.out.2.2.2.1); have HS : Hid (Below w.heap.size w7 (w7.setCells R 0 nt.toArray.toList) ∧ (w7.setCells R 0 nt.toArray.toList).rangeAt R 0 nt) := Lib.hid ⟨nbelow_cells (Below.refl _ _) hRn _ _, World.rangeAt_setCells_same w7 R 0 nt (by rw [hnl]; exact HT7.out)⟩; have hld := nload hnl HS.out.2; refine bodyPost_ret (v := (.agg nt.toArray)) (by simp [results, Tryz.results113, Act.put, asAddr, hld]) rfl ⟨rfl, HQ.out _ _ HQ7.out (HS.out.1.mono hN), ((UpT.below HA.out.1).trans (HF.out.2.1.trans (UpT.below HB7.out))).low HS.out.1 (Nat.le_refl _)⟩
  · rw [if_pos (by kernel_rfl)]; simp only [List.getElem_toArray, List.getElem_cons_succ, List.getElem_cons_zero]
    go_wp2_with fail
    generalize hE : World.alloc wD _ = wE; obtain ⟨J, hJ⟩ : ∃ J, J = wD.heap.size := ⟨_, rfl⟩; have HE : Hid (Below wA.heap.size wA wE ∧ World.there wE J 0 5 ∧ wA.heap.size ≤ J ∧ J < wE.heap.size) := Lib.hid (by rw [← hE, hJ]; exact ⟨(HBd.out).alloc (HBd.out).size _, nthere_new _ _ 5 (by rfl) _, (HBd.out).size, by simp⟩); rw [← hJ]; clear hE hJ; refine hK.out _ _ (HSC.out _ HE.out.1) (fun hHeld => ?_)
    clear hK K
    (try simp only [Act.put, List.getElem_toArray, List.getElem_cons_succ, List.getElem_cons_zero, List.setIfInBounds_toArray, List.set_cons_zero, List.set_cons_succ])
    refine wpAnyH_ready (rs := [8]) (by kernel_rfl) (by simp) ?_; refine AllReadyH.cons (by rfl) (fun K hK => ?_) AllReadyH.nil; rw [if_pos (by kernel_rfl)]; simp only [List.getElem_toArray, List.getElem_cons_succ, List.getElem_cons_zero]
    go_wp2_with (first | (go_at_call 135; (with_reducible refine (oplace_is hc x0 x1 _).mono ?_); rintro e w2 ⟨rfl, hb⟩; have HB2 := Lib.hid ((HE.out.1).trans (hb.mono (HE.out.1).size)); have hb2 := Lib.hid hb; clear hb)); refine hK.out _ _ (HSC.out _ HB2.out) (fun hHeld => ?_); clear hK K; (try simp only [Act.put, List.getElem_toArray, List.getElem_cons_succ, List.getElem_cons_zero, List.setIfInBounds_toArray, List.set_cons_zero, List.set_cons_succ])
    refine wpAnyH_ready (rs := [10]) (by kernel_rfl) (by simp) ?_; refine AllReadyH.cons (by rfl) (fun K hK => ?_) AllReadyH.nil; rw [if_pos (by kernel_rfl)]; simp only [List.getElem_toArray, List.getElem_cons_succ, List.getElem_cons_zero]
    go_wp2_with (first | (go_at_call 139; (with_reducible refine (osent_is hj _).mono ?_); rintro e w3 ⟨rfl, hb⟩; have HB3 := Lib.hid ((HB2.out).trans (hb.mono (HB2.out).size)); have hb3 := Lib.hid hb; clear hb)); refine hK.out _ _ (HSC.out _ HB3.out) (fun hHeld => ?_); clear hK K; (try simp only [Act.put, List.getElem_toArray, List.getElem_cons_succ, List.getElem_cons_zero, List.setIfInBounds_toArray, List.set_cons_zero, List.set_cons_succ])
    have HT4 : Hid ((Below wA.heap.size wA w3 ∧ World.there w3 J 0 5 ∧ wA.heap.size ≤ J ∧ J < (World.heap w3).size)) := Lib.hid ⟨HB3.out, nthere_below (nthere_below HE.out.2.1 hb2.out HE.out.2.2.2) hb3.out (Nat.lt_of_lt_of_le HE.out.2.2.2 hb2.out.size), HE.out.2.2.1, Nat.lt_of_lt_of_le HE.out.2.2.2 (Nat.le_trans hb2.out.size hb3.out.size)⟩
    refine wpAnyH_ready (rs := [11]) (by kernel_rfl) (by simp) ?_; refine AllReadyH.cons (by rfl) (fun K hK => ?_) AllReadyH.nil; rw [if_pos (by kernel_rfl)]; simp only [List.getElem_toArray, List.getElem_cons_succ, List.getElem_cons_zero]
    go_wp2_with (first | (go_at_call 138; (with_reducible refine (HPk.out _ (HA.out.1.trans ((HB3.out).mono HA.out.1.size))).mono ?_); rintro e w4 ⟨rfl, hq, hu⟩; have H4 : Hid (Q w4 ∧ UpT N wA w4) := Lib.hid ⟨hq, (UpT.below HB3.out).trans hu⟩; have hu4 := Lib.hid hu; clear hq hu)); have HR4 : Hid (w4.rangeAt C 0 cs ∧ World.there w4 R 0 19) := Lib.hid ⟨range_same HA.out.2.1 (H4.out.2.2 C HCs.out.2.1 HCs.out.1), nthere_same HA.out.2.2.1 (H4.out.2.2 R HCs.out.2.2.1 HCs.out.2.2.2.1)⟩; refine hK.out _ _ (HSQ.out _ H4.out.1 HR4.out.1) (fun hHeld => ?_); clear hK K; (try simp only [Act.put, List.getElem_toArray, List.getElem_cons_succ, List.getElem_cons_zero, List.setIfInBounds_toArray, List.set_cons_zero, List.set_cons_succ])
    have HV : Hid ((Q w4 ∧ UpT N wA w4 ∧ World.rangeAt w4 C 0 cs ∧ World.there w4 R 0 19 ∧ World.there w4 J 0 5 ∧ wA.heap.size ≤ J ∧ J < (World.heap w4).size)) := Lib.hid ⟨H4.out.1, H4.out.2, HR4.out.1, HR4.out.2, nthere_same HT4.out.2.1 (hu4.out.2 J (Nat.le_trans HCs.out.2.2.2.2 HT4.out.2.2.1) HT4.out.2.2.2), HT4.out.2.2.1, Nat.lt_of_lt_of_le HT4.out.2.2.2 hu4.out.1⟩; refine wpAnyH_take (i := 12) (v := ?_) (by rfl) (by kernel_rfl) (by kernel_rfl) (by kernel_rfl) (fun _ _ _ h => h) (Or.inl ⟨by kernel_rfl, ?_⟩) (by assumption) ?_; rotate_left 1; (focus (intro w hSw; (try dsimp only at hSw); simp only [List.getElem_toArray, List.getElem_cons_succ, List.getElem_cons_zero]; all_goals go_simp; all_goals (try with_reducible rfl))); (try simp only [Act.put, List.getElem_toArray, List.getElem_cons_succ, List.getElem_cons_zero, List.setIfInBounds_toArray, List.set_cons_zero, List.set_cons_succ]); refine wpAnyH_take (i := 13) (v := ?_) (by rfl) (by kernel_rfl) (by kernel_rfl) (by kernel_rfl) (fun _ _ _ h => h) (Or.inl ⟨by kernel_rfl, ?_⟩) (by assumption) ?_; rotate_left 1; (focus (intro w hSw; (try dsimp only at hSw); simp only [List.getElem_toArray, List.getElem_cons_succ, List.getElem_cons_zero]; all_goals go_simp; all_goals (try with_reducible rfl))); (try simp only [Act.put, List.getElem_toArray, List.getElem_cons_succ, List.getElem_cons_zero, List.setIfInBounds_toArray, List.set_cons_zero, List.set_cons_succ]); refine wpAnyH_take (i := 14) (v := ?_) (by rfl) (by kernel_rfl) (by kernel_rfl) (by kernel_rfl) (fun _ _ _ h => h) (Or.inl ⟨by kernel_rfl, ?_⟩) (by assumption) ?_; rotate_left 1; (focus (intro w hSw; (try dsimp only at hSw); simp only [List.getElem_toArray, List.getElem_cons_succ, List.getElem_cons_zero]; all_goals go_simp; all_goals (try with_reducible rfl))); (try simp only [Act.put, List.getElem_toArray, List.getElem_cons_succ, List.getElem_cons_zero, List.setIfInBounds_toArray, List.set_cons_zero, List.set_cons_succ]); refine wpAnyH_ready (rs := [16]) (by kernel_rfl) (by simp) ?_; refine AllReadyH.cons (by rfl) (fun K hK => ?_) AllReadyH.nil; rw [if_pos (by kernel_rfl)]; simp only [List.getElem_toArray, List.getElem_cons_succ, List.getElem_cons_zero]; refine wp_store_mid 42 (Operand.tmp 5) (Operand.tmp 51) (by rfl) J 0 ([.int .i64 r0, .int .i64 r1, .int .i64 r2, .int .i64 r3, .int .u32 r4] : List Value).toArray (by rfl) (by rfl) HV.out.2.2.2.2.1 infoKeyM (all_one (key_one r0 r1 r2 r3 r4)) ?_; generalize hW : World.setCells w4 _ _ _ = wF; have HX : Hid (Below wA.heap.size w4 wF ∧ World.rangeAt wF J 0 ([.int .i64 r0, .int .i64 r1, .int .i64 r2, .int .i64 r3, .int .u32 r4] : List Value) ∧ World.rangeAt wF C 0 cs) := Lib.hid (by rw [← hW]; exact ⟨nbelow_cells (Below.refl _ _) HV.out.2.2.2.2.2.1 _ _, World.rangeAt_setCells_same w4 J 0 ([.int .i64 r0, .int .i64 r1, .int .i64 r2, .int .i64 r3, .int .u32 r4] : List Value) HV.out.2.2.2.2.1, World.rangeAt_setCells_apart HV.out.2.2.1 J 0 _ (.inl (Nat.ne_of_lt (Nat.lt_of_lt_of_le HCs.out.1 HV.out.2.2.2.2.2.1)))⟩); clear hW; have HF : Hid (Q wF ∧ UpT N wA wF ∧ World.rangeAt wF C 0 cs ∧ World.there wF R 0 19 ∧ World.rangeAt wF J 0 ([.int .i64 r0, .int .i64 r1, .int .i64 r2, .int .i64 r3, .int .u32 r4] : List Value)) := Lib.hid (by have hu := HV.out.2.1.low HX.out.1 (Nat.le_refl _); exact ⟨HQ.out _ _ HV.out.1 (HX.out.1.mono HCs.out.2.2.2.2), hu, HX.out.2.2, nthere_same HA.out.2.2.1 (hu.2 R HCs.out.2.2.1 HCs.out.2.2.2.1), HX.out.2.1⟩); refine hK.out _ _ (HSQ.out _ HF.out.1 HF.out.2.2.1) (fun hHeld => ?_); clear hK K; (try simp only [Act.put, List.getElem_toArray, List.getElem_cons_succ, List.getElem_cons_zero, List.setIfInBounds_toArray, List.set_cons_zero, List.set_cons_succ]); refine wpAnyH_take (i := 17) (v := ?_) (by rfl) (by kernel_rfl) (by kernel_rfl) (by kernel_rfl) (fun _ _ _ h => h) (Or.inl ⟨by kernel_rfl, ?_⟩) (by assumption) ?_; rotate_left 1; (focus (intro w hSw; (try dsimp only at hSw); simp only [List.getElem_toArray, List.getElem_cons_succ, List.getElem_cons_zero]; all_goals go_simp; all_goals (try with_reducible rfl))); (try simp only [Act.put, List.getElem_toArray, List.getElem_cons_succ, List.getElem_cons_zero, List.setIfInBounds_toArray, List.set_cons_zero, List.set_cons_succ]); refine wpAnyH_done (by kernel_rfl) ?_ _; refine NoPanic.normal ?_; have j0 := CallC.cell HF.out.2.2.2.2 0 _ rfl; have j1 := CallC.cell HF.out.2.2.2.2 1 _ rfl; have j2 := CallC.cell HF.out.2.2.2.2 2 _ rfl; have j3 := CallC.cell HF.out.2.2.2.2 3 _ rfl; have j4 := CallC.cell HF.out.2.2.2.2 4 _ rfl; have jc := (HSQ.out _ HF.out.1 HF.out.2.2.1).1; have HNF : Hid (N ≤ wF.heap.size) := Lib.hid (Nat.le_trans HCs.out.2.2.2.2 HF.out.2.1.1); go_wp2_with (first | (go_at_call 23; (with_reducible refine (HZo.out _ HF.out.1).mono ?_); rintro e w5 ⟨rfl, hb⟩; have HB5 : Hid (Below wF.heap.size wF w5) := Lib.hid hb; clear hb) | (go_at_call 137; (with_reducible refine (okeyed_is q0 q1 q2 q3 q4 _).mono ?_); rintro e w6 ⟨rfl, hb⟩; have HB6 : Hid (Below wF.heap.size wF w6) := Lib.hid (HB5.out.trans (hb.mono HB5.out.size)); have HQ6 := Lib.hid (HQ.out _ _ HF.out.1 (HB6.out.mono HNF.out)); clear hb) | (go_at_call 136; (with_reducible refine (HTo.out _ HQ6.out).mono ?_); rintro e w7 ⟨rfl, hb⟩; have HB7 : Hid (Below wF.heap.size wF w7) := Lib.hid (HB6.out.trans (hb.mono HB6.out.size)); have HT7 : Hid (World.there w7 R 0 19) := Lib.hid (nthere_below HF.out.2.2.2.1 HB7.out (Nat.lt_of_lt_of_le HCs.out.2.2.2.1 HF.out.2.1.1)); have HQ7 := Lib.hid (HQ.out _ _ HF.out.1 (HB7.out.mono HNF.out)); clear hb) | (refine wpList_store_mid (by rfl) _ _ _ (by rfl) R 0 nt.toArray (by rfl) (by rfl) (by rw [hsz]; exact HT7.out) (by rw [hsz]; exact infoNote) (all_one hn1) ?_)); have hRn : w.heap.size ≤ R := Nat.le_trans HCl.out (Nat.le_of_lt HA.out.2.2.2.1); have HS : Hid (Below w.heap.size w7 (w7.setCells R 0 nt.toArray.toList) ∧ (w7.setCells R 0 nt.toArray.toList).rangeAt R 0 nt) := Lib.hid ⟨nbelow_cells (Below.refl _ _) hRn _ _, World.rangeAt_setCells_same w7 R 0 nt (by rw [hnl]; exact HT7.out)⟩; have hld := nload hnl HS.out.2; refine bodyPost_ret (v := (.agg nt.toArray)) (by simp [results, Tryz.results113, Act.put, asAddr, hld]) rfl ⟨rfl, HQ.out _ _ HQ7.out (HS.out.1.mono hN), ((UpT.below HA.out.1).trans (HF.out.2.1.trans (UpT.below HB7.out))).low HS.out.1 (Nat.le_refl _)⟩
end
end Go.Proofs.YtncopdhhchmpeaaGreatDoor
namespace Go.Proofs.YtncopdhhchmpeaaGreatDoor
open Go.ChangeShapes Go.WideShapes Go.ChangeAt Go.RowKit
set_option linter.unusedVariables false
set_option linter.unusedSimpArgs false
set_option maxRecDepth 100000 in
set_option maxHeartbeats 1000000 in
theorem mswap_bad (mb S : Nat) (k0 k1 k2 k3 k4 : Int) (x0 x1 x2 x3 x4 : Int) (sl : Int) (z : Addr) (w : World) (hm : w.cell? ⟨mb, 0, none⟩ = some (.pointer (some ⟨S, 0, none⟩)))
    (hP : ∀ W, Below w.heap.size w W → Calls Tryz.prog 175 #[.pointer (some ⟨S, 0, none⟩), (Value.agg #[.int .i64 k0, .int .i64 k1, .int .i64 k2, .int .i64 k3, .int .u32 k4]), .int .i64 sl, (Value.agg #[.int .i64 x0, .int .i64 x1, .int .i64 x2, .int .i64 x3, .int .u32 x4])] W fun e w' => e = .returned (.tuple #[(Value.agg #[.int .i64 0, .int .i64 0, .int .i64 0, .int .i64 0, .int .u32 0]), eV z]) ∧ Below W.heap.size W w') :
    Calls Tryz.prog 138 #[.pointer (some ⟨mb, 0, none⟩), (Value.agg #[.int .i64 k0, .int .i64 k1, .int .i64 k2, .int .i64 k3, .int .u32 k4]), .int .i64 sl, (Value.agg #[.int .i64 x0, .int .i64 x1, .int .i64 x2, .int .i64 x3, .int .u32 x4])] w fun e w' => e = .returned (.tuple #[(Value.agg #[.int .i64 0, .int .i64 0, .int .i64 0, .int .i64 0, .int .u32 0]), eV z]) ∧ Below w.heap.size w w' := by
  have HPk := Lib.hid hP
  have HL := Lib.hid (⟨cell_lt hm, hm⟩ : mb < w.heap.size ∧ w.cell? ⟨mb, 0, none⟩ = some (.pointer (some ⟨S, 0, none⟩)))
  clear hP hm
  go_enter Tryz.func138, Tryz.ntmps138
  go_upto_region 1 with fail
  obtain ⟨wB, hwB⟩ : ∃ wB, wB = (((w.alloc (.cells #[.int .i64 k0, .int .i64 k1, .int .i64 k2, .int .i64 k3, .int .u32 k4] 42 (0, 0))).alloc (.cells #[.int .i64 x0, .int .i64 x1, .int .i64 x2, .int .i64 x3, .int .u32 x4] 42 (0, 0))).alloc (.cells #[.int .i64 0, .int .i64 0, .int .i64 0, .int .i64 0, .int .u32 0] 42 (0, 0))) := ⟨_, rfl⟩
  rw [← hwB]
  have HB0 : Hid (Below w.heap.size w wB) := Lib.hid (by rw [hwB]; exact ((((Below.refl _ _).alloc (Nat.le_refl _) _ : Below w.heap.size w _).alloc (by simp) _).alloc (by simp; omega) _))
  have HT0 : Hid (KeyC wB w.heap.size k0 k1 k2 k3 k4 ∧ KeyC wB (w.heap.size + 1) x0 x1 x2 x3 x4 ∧ KeyC wB (w.heap.size + 1 + 1) 0 0 0 0 0) := Lib.hid (by rw [hwB]; exact KeyC.three (Below.refl _ _))
  obtain ⟨kb, hkb⟩ : ∃ kb, Hid (w.heap.size = kb) := ⟨_, Lib.hid rfl⟩
  obtain ⟨xb, hxb⟩ : ∃ xb, Hid (w.heap.size + 1 = xb) := ⟨_, Lib.hid rfl⟩
  obtain ⟨rb, hrb⟩ : ∃ rb, Hid (w.heap.size + 1 + 1 = rb) := ⟨_, Lib.hid rfl⟩
  have HRb : Hid (w.heap.size ≤ rb) := Lib.hid (by have := hrb.out; omega)
  rw [hrb.out, hxb.out, hkb.out] at HT0
  rw [hrb.out, hxb.out, hkb.out]
  clear hwB
  have HSC : Hid (∀ W, Below wB.heap.size wB W → (World.cell? W ⟨mb, 0, none⟩ = some (.pointer (some ⟨S, 0, none⟩)) ∧ (World.cell? W ⟨kb, 0, none⟩ = some (.int .i64 k0) ∧ World.cell? W ⟨kb, 1, none⟩ = some (.int .i64 k1) ∧ World.cell? W ⟨kb, 2, none⟩ = some (.int .i64 k2) ∧ World.cell? W ⟨kb, 3, none⟩ = some (.int .i64 k3) ∧ World.cell? W ⟨kb, 4, none⟩ = some (.int .u32 k4)) ∧ World.cell? W ⟨xb, 0, none⟩ = some (.int .i64 x0) ∧ World.cell? W ⟨xb, 1, none⟩ = some (.int .i64 x1) ∧ World.cell? W ⟨xb, 2, none⟩ = some (.int .i64 x2) ∧ World.cell? W ⟨xb, 3, none⟩ = some (.int .i64 x3) ∧ World.cell? W ⟨xb, 4, none⟩ = some (.int .u32 x4))) := Lib.hid (fun W hW => ⟨((HB0.out.trans (hW.mono HB0.out.size)).cell (p := ⟨mb, 0, none⟩) HL.out.1).trans HL.out.2, by have t := HT0.out.1.below hW; exact ⟨t.c0, t.c1, t.c2, t.c3, t.c4⟩, by have t := HT0.out.2.1.below hW; exact ⟨t.c0, t.c1, t.c2, t.c3, t.c4⟩⟩)
  go_cut [10, 11] (fun bv ev wx => ∃ bb, bv = .pointer (some ⟨bb, 0, none⟩) ∧ ev = eV z ∧ Below wB.heap.size wB wx ∧ World.rangeAt wx bb 0 [.int .i64 0, .int .i64 0, .int .i64 0, .int .i64 0, .int .u32 0])
  case first =>
    obtain ⟨wD, hwD⟩ : ∃ wD, wD = wB.drew := ⟨_, rfl⟩
    have HBd : Hid (Below wB.heap.size wB wD) := Lib.hid (by rw [hwD]; exact (Below.refl _ _).drew)
    refine wp_region_noPanic ?_
    refine wp_region_held_drew (S := fun W => (World.cell? W ⟨mb, 0, none⟩ = some (.pointer (some ⟨S, 0, none⟩)) ∧ (World.cell? W ⟨kb, 0, none⟩ = some (.int .i64 k0) ∧ World.cell? W ⟨kb, 1, none⟩ = some (.int .i64 k1) ∧ World.cell? W ⟨kb, 2, none⟩ = some (.int .i64 k2) ∧ World.cell? W ⟨kb, 3, none⟩ = some (.int .i64 k3) ∧ World.cell? W ⟨kb, 4, none⟩ = some (.int .u32 k4)) ∧ World.cell? W ⟨xb, 0, none⟩ = some (.int .i64 x0) ∧ World.cell? W ⟨xb, 1, none⟩ = some (.int .i64 x1) ∧ World.cell? W ⟨xb, 2, none⟩ = some (.int .i64 x2) ∧ World.cell? W ⟨xb, 3, none⟩ = some (.int .i64 x3) ∧ World.cell? W ⟨xb, 4, none⟩ = some (.int .u32 x4))) (by kernel_rfl) (by rw [← hwD]; exact HSC.out _ HBd.out) (fun hHeld => ?_)
    rw [← hwD] at hHeld ⊢
    clear hwD
    refine wpAnyH_take (i := 0) (v := ?_) (by rfl) (by kernel_rfl) (by kernel_rfl) (by kernel_rfl) (fun _ _ _ h => h) (Or.inl ⟨by kernel_rfl, ?_⟩) (by assumption) ?_; rotate_left 1; (focus (intro w hSw; (try dsimp only at hSw); simp only [List.getElem_toArray, List.getElem_cons_succ, List.getElem_cons_zero]; all_goals go_simp; all_goals (try with_reducible rfl))); (try simp only [Act.put, List.getElem_toArray, List.getElem_cons_succ, List.getElem_cons_zero, List.setIfInBounds_toArray, List.set_cons_zero, List.set_cons_succ])
    refine wpAnyH_take (i := 1) (v := ?_) (by rfl) (by kernel_rfl) (by kernel_rfl) (by kernel_rfl) (fun _ _ _ h => h) (Or.inl ⟨by kernel_rfl, ?_⟩) (by assumption) ?_; rotate_left 1; (focus (intro w hSw; (try dsimp only at hSw); simp only [List.getElem_toArray, List.getElem_cons_succ, List.getElem_cons_zero]; all_goals go_simp; all_goals (try with_reducible rfl))); (try simp only [Act.put, List.getElem_toArray, List.getElem_cons_succ, List.getElem_cons_zero, List.setIfInBounds_toArray, List.set_cons_zero, List.set_cons_succ])
    refine wpAnyH_take (i := 2) (v := ?_) (by rfl) (by kernel_rfl) (by kernel_rfl) (by kernel_rfl) (fun _ _ _ h => h) (Or.inl ⟨by kernel_rfl, ?_⟩) (by assumption) ?_; rotate_left 1; (focus (intro w hSw; (try dsimp only at hSw); simp only [List.getElem_toArray, List.getElem_cons_succ, List.getElem_cons_zero]; all_goals go_simp; all_goals (try with_reducible rfl))); (try simp only [Act.put, List.getElem_toArray, List.getElem_cons_succ, List.getElem_cons_zero, List.setIfInBounds_toArray, List.set_cons_zero, List.set_cons_succ])
    refine wpAnyH_take (i := 3) (v := ?_) (by rfl) (by kernel_rfl) (by kernel_rfl) (by kernel_rfl) (fun _ _ _ h => h) (Or.inl ⟨by kernel_rfl, ?_⟩) (by assumption) ?_; rotate_left 1; (focus (intro w hSw; (try dsimp only at hSw); simp only [List.getElem_toArray, List.getElem_cons_succ, List.getElem_cons_zero]; all_goals go_simp; all_goals (try with_reducible rfl))); (try simp only [Act.put, List.getElem_toArray, List.getElem_cons_succ, List.getElem_cons_zero, List.setIfInBounds_toArray, List.set_cons_zero, List.set_cons_succ])
    refine wpAnyH_take (i := 4) (v := ?_) (by rfl) (by kernel_rfl) (by kernel_rfl) (by kernel_rfl) (fun _ _ _ h => h) (Or.inl ⟨by kernel_rfl, ?_⟩) (by assumption) ?_; rotate_left 1; (focus (intro w hSw; (try dsimp only at hSw); simp only [List.getElem_toArray, List.getElem_cons_succ, List.getElem_cons_zero]; all_goals go_simp; all_goals (try with_reducible rfl))); (try simp only [Act.put, List.getElem_toArray, List.getElem_cons_succ, List.getElem_cons_zero, List.setIfInBounds_toArray, List.set_cons_zero, List.set_cons_succ])
    refine wpAnyH_take (i := 5) (v := ?_) (by rfl) (by kernel_rfl) (by kernel_rfl) (by kernel_rfl) (fun _ _ _ h => h) (Or.inl ⟨by kernel_rfl, ?_⟩) (by assumption) ?_; rotate_left 1; (focus (intro w hSw; (try dsimp only at hSw); simp only [List.getElem_toArray, List.getElem_cons_succ, List.getElem_cons_zero]; all_goals go_simp; all_goals (try with_reducible rfl))); (try simp only [Act.put, List.getElem_toArray, List.getElem_cons_succ, List.getElem_cons_zero, List.setIfInBounds_toArray, List.set_cons_zero, List.set_cons_succ])
    refine wpAnyH_take (i := 6) (v := ?_) (by rfl) (by kernel_rfl) (by kernel_rfl) (by kernel_rfl) (fun _ _ _ h => h) (Or.inl ⟨by kernel_rfl, ?_⟩) (by assumption) ?_; rotate_left 1; (focus (intro w hSw; (try dsimp only at hSw); simp only [List.getElem_toArray, List.getElem_cons_succ, List.getElem_cons_zero]; all_goals go_simp; all_goals (try with_reducible rfl))); (try simp only [Act.put, List.getElem_toArray, List.getElem_cons_succ, List.getElem_cons_zero, List.setIfInBounds_toArray, List.set_cons_zero, List.set_cons_succ])
    refine wpAnyH_ready (rs := [7, 11]) (by kernel_rfl) (by simp) ?_
    refine AllReadyH.cons (by rfl) (fun K hK => ?_) (AllReadyH.cons (by rfl) (fun K hK => ?_) AllReadyH.nil)
    · rw [if_pos (by kernel_rfl)]; simp only [List.getElem_toArray, List.getElem_cons_succ, List.getElem_cons_zero]
      go_wp2_with (first | (go_at_call 175; (with_reducible refine (HPk.out _ (HB0.out.trans ((HBd.out).mono HB0.out.size))).mono ?_); rintro e w2 ⟨rfl, hb⟩; have HB2 := Lib.hid ((HBd.out).trans (hb.mono (HBd.out).size)); have hb2 := Lib.hid hb; clear hb)); refine hK.out _ _ (HSC.out _ HB2.out) (fun hHeld => ?_); clear hK K; (try simp only [Act.put, List.getElem_toArray, List.getElem_cons_succ, List.getElem_cons_zero, List.setIfInBounds_toArray, List.set_cons_zero, List.set_cons_succ])
      refine wpAnyH_take (i := 8) (v := ?_) (by rfl) (by kernel_rfl) (by kernel_rfl) (by kernel_rfl) (fun _ _ _ h => h) (Or.inl ⟨by kernel_rfl, ?_⟩) (by assumption) ?_; rotate_left 1; (focus (intro w hSw; (try dsimp only at hSw); simp only [List.getElem_toArray, List.getElem_cons_succ, List.getElem_cons_zero]; all_goals go_simp; all_goals (try with_reducible rfl))); (try simp only [Act.put, List.getElem_toArray, List.getElem_cons_succ, List.getElem_cons_zero, List.setIfInBounds_toArray, List.set_cons_zero, List.set_cons_succ])
      refine wpAnyH_take (i := 9) (v := ?_) (by rfl) (by kernel_rfl) (by kernel_rfl) (by kernel_rfl) (fun _ _ _ h => h) (Or.inl ⟨by kernel_rfl, ?_⟩) (by assumption) ?_; rotate_left 1; (focus (intro w hSw; (try dsimp only at hSw); simp only [List.getElem_toArray, List.getElem_cons_succ, List.getElem_cons_zero]; all_goals go_simp; all_goals (try with_reducible rfl))); (try simp only [Act.put, List.getElem_toArray, List.getElem_cons_succ, List.getElem_cons_zero, List.setIfInBounds_toArray, List.set_cons_zero, List.set_cons_succ])
      refine wpAnyH_take (i := 10) (v := ?_) (by rfl) (by kernel_rfl) (by kernel_rfl) (by kernel_rfl) (fun _ _ _ h => h) (Or.inl ⟨by kernel_rfl, ?_⟩) (by assumption) ?_; rotate_left 1; (focus (intro w hSw; (try dsimp only at hSw); simp only [List.getElem_toArray, List.getElem_cons_succ, List.getElem_cons_zero]; all_goals go_simp; all_goals (try with_reducible rfl))); (try simp only [Act.put, List.getElem_toArray, List.getElem_cons_succ, List.getElem_cons_zero, List.setIfInBounds_toArray, List.set_cons_zero, List.set_cons_succ])
      refine wpAnyH_ready (rs := [11]) (by kernel_rfl) (by simp) ?_; refine AllReadyH.cons (by rfl) (fun K hK => ?_) AllReadyH.nil; rw [if_pos (by kernel_rfl)]; simp only [List.getElem_toArray, List.getElem_cons_succ, List.getElem_cons_zero]
      go_wp2_with fail
      generalize hE : World.alloc w2 _ = wE; obtain ⟨J, hJ⟩ : ∃ J, J = w2.heap.size := ⟨_, rfl⟩; have HE : Hid (Below wB.heap.size wB wE ∧ World.there wE J 0 5 ∧ wB.heap.size ≤ J ∧ J < wE.heap.size) := Lib.hid (by rw [← hE, hJ]; exact ⟨(HB2.out).alloc (HB2.out).size _, nthere_new _ _ 5 (by rfl) _, (HB2.out).size, by simp⟩); rw [← hJ]; clear hE hJ; refine hK.out _ _ (HSC.out _ HE.out.1) (fun hHeld => ?_)
      clear hK K
      (try simp only [Act.put, List.getElem_toArray, List.getElem_cons_succ, List.getElem_cons_zero, List.setIfInBounds_toArray, List.set_cons_zero, List.set_cons_succ])
      refine wpAnyH_ready (rs := [12]) (by kernel_rfl) (by simp) ?_; refine AllReadyH.cons (by rfl) (fun K hK => ?_) AllReadyH.nil; rw [if_pos (by kernel_rfl)]; simp only [List.getElem_toArray, List.getElem_cons_succ, List.getElem_cons_zero]; refine wp_store_mid 42 (Operand.tmp 10) (Operand.tmp 21) (by rfl) J 0 ([.int .i64 0, .int .i64 0, .int .i64 0, .int .i64 0, .int .u32 0] : List Value).toArray (by rfl) (by rfl) HE.out.2.1 infoKeyM (all_one (key_one 0 0 0 0 0)) ?_; generalize hW : World.setCells wE _ _ _ = wF; have HF9 : Hid (Below wB.heap.size wB wF ∧ World.rangeAt wF J 0 ([.int .i64 0, .int .i64 0, .int .i64 0, .int .i64 0, .int .u32 0] : List Value)) := Lib.hid (by rw [← hW]; exact ⟨nbelow_cells HE.out.1 (HE.out.2.2).1 _ _, World.rangeAt_setCells_same wE J 0 ([.int .i64 0, .int .i64 0, .int .i64 0, .int .i64 0, .int .u32 0] : List Value) HE.out.2.1⟩); clear hW; refine hK.out _ _ (HSC.out _ HF9.out.1) (fun hHeld => ?_); clear hK K; (try simp only [Act.put, List.getElem_toArray, List.getElem_cons_succ, List.getElem_cons_zero, List.setIfInBounds_toArray, List.set_cons_zero, List.set_cons_succ]); refine wpAnyH_take (i := 13) (v := ?_) (by rfl) (by kernel_rfl) (by kernel_rfl) (by kernel_rfl) (fun _ _ _ h => h) (Or.inl ⟨by kernel_rfl, ?_⟩) (by assumption) ?_; rotate_left 1; (focus (intro w hSw; (try dsimp only at hSw); simp only [List.getElem_toArray, List.getElem_cons_succ, List.getElem_cons_zero]; all_goals go_simp; all_goals (try with_reducible rfl))); (try simp only [Act.put, List.getElem_toArray, List.getElem_cons_succ, List.getElem_cons_zero, List.setIfInBounds_toArray, List.set_cons_zero, List.set_cons_succ]); refine wpAnyH_done (by kernel_rfl) ?_ _; refine NoPanic.normal ?_; go_wp2_with fail; go_meet; exact ⟨J, rfl, rfl, HF9.out.1, HF9.out.2⟩
    · rw [if_pos (by kernel_rfl)]; simp only [List.getElem_toArray, List.getElem_cons_succ, List.getElem_cons_zero]
      go_wp2_with fail
      generalize hE : World.alloc wD _ = wE; obtain ⟨J, hJ⟩ : ∃ J, J = wD.heap.size := ⟨_, rfl⟩; have HE : Hid (Below wB.heap.size wB wE ∧ World.there wE J 0 5 ∧ wB.heap.size ≤ J ∧ J < wE.heap.size) := Lib.hid (by rw [← hE, hJ]; exact ⟨(HBd.out).alloc (HBd.out).size _, nthere_new _ _ 5 (by rfl) _, (HBd.out).size, by simp⟩); rw [← hJ]; clear hE hJ; refine hK.out _ _ (HSC.out _ HE.out.1) (fun hHeld => ?_)
      clear hK K
      (try simp only [Act.put, List.getElem_toArray, List.getElem_cons_succ, List.getElem_cons_zero, List.setIfInBounds_toArray, List.set_cons_zero, List.set_cons_succ])
      refine wpAnyH_ready (rs := [7]) (by kernel_rfl) (by simp) ?_; refine AllReadyH.cons (by rfl) (fun K hK => ?_) AllReadyH.nil; rw [if_pos (by kernel_rfl)]; simp only [List.getElem_toArray, List.getElem_cons_succ, List.getElem_cons_zero]
      go_wp2_with (first | (go_at_call 175; (with_reducible refine (HPk.out _ (HB0.out.trans ((HE.out.1).mono HB0.out.size))).mono ?_); rintro e w2 ⟨rfl, hb⟩; have HB2 := Lib.hid ((HE.out.1).trans (hb.mono (HE.out.1).size)); have hb2 := Lib.hid hb; clear hb)); refine hK.out _ _ (HSC.out _ HB2.out) (fun hHeld => ?_); clear hK K; (try simp only [Act.put, List.getElem_toArray, List.getElem_cons_succ, List.getElem_cons_zero, List.setIfInBounds_toArray, List.set_cons_zero, List.set_cons_succ])
      have HT2 : Hid (World.there w2 J 0 5) := Lib.hid (nthere_below HE.out.2.1 hb2.out HE.out.2.2.2)
      refine wpAnyH_take (i := 8) (v := ?_) (by rfl) (by kernel_rfl) (by kernel_rfl) (by kernel_rfl) (fun _ _ _ h => h) (Or.inl ⟨by kernel_rfl, ?_⟩) (by assumption) ?_; rotate_left 1; (focus (intro w hSw; (try dsimp only at hSw); simp only [List.getElem_toArray, List.getElem_cons_succ, List.getElem_cons_zero]; all_goals go_simp; all_goals (try with_reducible rfl))); (try simp only [Act.put, List.getElem_toArray, List.getElem_cons_succ, List.getElem_cons_zero, List.setIfInBounds_toArray, List.set_cons_zero, List.set_cons_succ])
      refine wpAnyH_take (i := 9) (v := ?_) (by rfl) (by kernel_rfl) (by kernel_rfl) (by kernel_rfl) (fun _ _ _ h => h) (Or.inl ⟨by kernel_rfl, ?_⟩) (by assumption) ?_; rotate_left 1; (focus (intro w hSw; (try dsimp only at hSw); simp only [List.getElem_toArray, List.getElem_cons_succ, List.getElem_cons_zero]; all_goals go_simp; all_goals (try with_reducible rfl))); (try simp only [Act.put, List.getElem_toArray, List.getElem_cons_succ, List.getElem_cons_zero, List.setIfInBounds_toArray, List.set_cons_zero, List.set_cons_succ])
      refine wpAnyH_take (i := 10) (v := ?_) (by rfl) (by kernel_rfl) (by kernel_rfl) (by kernel_rfl) (fun _ _ _ h => h) (Or.inl ⟨by kernel_rfl, ?_⟩) (by assumption) ?_; rotate_left 1; (focus (intro w hSw; (try dsimp only at hSw); simp only [List.getElem_toArray, List.getElem_cons_succ, List.getElem_cons_zero]; all_goals go_simp; all_goals (try with_reducible rfl))); (try simp only [Act.put, List.getElem_toArray, List.getElem_cons_succ, List.getElem_cons_zero, List.setIfInBounds_toArray, List.set_cons_zero, List.set_cons_succ])
      refine wpAnyH_ready (rs := [12]) (by kernel_rfl) (by simp) ?_; refine AllReadyH.cons (by rfl) (fun K hK => ?_) AllReadyH.nil; rw [if_pos (by kernel_rfl)]; simp only [List.getElem_toArray, List.getElem_cons_succ, List.getElem_cons_zero]; refine wp_store_mid 42 (Operand.tmp 10) (Operand.tmp 21) (by rfl) J 0 ([.int .i64 0, .int .i64 0, .int .i64 0, .int .i64 0, .int .u32 0] : List Value).toArray (by rfl) (by rfl) HT2.out infoKeyM (all_one (key_one 0 0 0 0 0)) ?_; generalize hW : World.setCells w2 _ _ _ = wF; have HF9 : Hid (Below wB.heap.size wB wF ∧ World.rangeAt wF J 0 ([.int .i64 0, .int .i64 0, .int .i64 0, .int .i64 0, .int .u32 0] : List Value)) := Lib.hid (by rw [← hW]; exact ⟨nbelow_cells HB2.out (HE.out.2.2).1 _ _, World.rangeAt_setCells_same w2 J 0 ([.int .i64 0, .int .i64 0, .int .i64 0, .int .i64 0, .int .u32 0] : List Value) HT2.out⟩); clear hW; refine hK.out _ _ (HSC.out _ HF9.out.1) (fun hHeld => ?_); clear hK K; (try simp only [Act.put, List.getElem_toArray, List.getElem_cons_succ, List.getElem_cons_zero, List.setIfInBounds_toArray, List.set_cons_zero, List.set_cons_succ]); refine wpAnyH_take (i := 13) (v := ?_) (by rfl) (by kernel_rfl) (by kernel_rfl) (by kernel_rfl) (fun _ _ _ h => h) (Or.inl ⟨by kernel_rfl, ?_⟩) (by assumption) ?_; rotate_left 1; (focus (intro w hSw; (try dsimp only at hSw); simp only [List.getElem_toArray, List.getElem_cons_succ, List.getElem_cons_zero]; all_goals go_simp; all_goals (try with_reducible rfl))); (try simp only [Act.put, List.getElem_toArray, List.getElem_cons_succ, List.getElem_cons_zero, List.setIfInBounds_toArray, List.set_cons_zero, List.set_cons_succ]); refine wpAnyH_done (by kernel_rfl) ?_ _; refine NoPanic.normal ?_; go_wp2_with fail; go_meet; exact ⟨J, rfl, rfl, HF9.out.1, HF9.out.2⟩
  case rest =>
    obtain ⟨bb, rfl, rfl, hB, hR⟩ := hcut
    have b0 := CallC.cell hR 0 _ rfl
    have b1 := CallC.cell hR 1 _ rfl
    have b2 := CallC.cell hR 2 _ rfl
    have b3 := CallC.cell hR 3 _ rfl
    have b4 := CallC.cell hR 4 _ rfl
    have HB := Lib.hid hB
    have hr := HT0.out.2.2.below hB
    have r0 := hr.c0
    have r1 := hr.c1
    have r2 := hr.c2
    have r3 := hr.c3
    have r4 := hr.c4
    have f0 := hr.fr 0
    have f1 := hr.fr 1
    have f2 := hr.fr 2
    have f3 := hr.fr 3
    have f4 := hr.fr 4
    clear hB
    go_wp2_with fail
    have t := hr.set 0 0 0 0 0
    have t0 := t.c0
    have t1 := t.c1
    have t2 := t.c2
    have t3 := t.c3
    have t4 := t.c4
    have hx := HRb.out
    refine bodyPost_ret (v := .tuple #[(Value.agg #[.int .i64 0, .int .i64 0, .int .i64 0, .int .i64 0, .int .u32 0]), eV z]) (by simp [results, Tryz.results138, go_sem, t0, t1, t2, t3, t4]) rfl ⟨rfl, (((((HB0.out.trans (HB.out.mono HB0.out.size)).setCell hx _).setCell hx _).setCell hx _).setCell hx _).setCell hx _⟩
end Go.Proofs.YtncopdhhchmpeaaGreatDoor
namespace Go.Proofs.YtncopdhhchmpeaaGreatDoor
open Go.ChangeShapes Go.WideShapes Go.ChangeAt Go.RowKit
set_option linter.unusedVariables false
set_option linter.unusedSimpArgs false
set_option maxRecDepth 100000 in
set_option maxHeartbeats 1000000 in
theorem oask5 {Q : World → Prop} {nt : List Value} (hnl : nt.length = 19) (hn1 : ∀ v, v ∈ nt → v.oneCell' = true) (k0 k1 k2 k3 k4 : Int) (m0 m1 m2 m3 m4 : Int) (o x y : Int) (s sb N : Nat) (w : World) (hN : N ≤ w.heap.size) (hs : w.cell? ⟨sb, 0, none⟩ = some (.pointer (some ⟨s, 0, none⟩)))
    (hQ : ∀ w1 w2, Q w1 → Below N w1 w2 → Q w2)
    (hA : ∀ W, Below w.heap.size w W → Calls Tryz.prog 32 #[.pointer (some ⟨s, 0, none⟩), (Value.agg #[.int .i64 k0, .int .i64 k1, .int .i64 k2, .int .i64 k3, .int .u32 k4]), (Value.agg #[.int .u32 o, .int .u32 x, .int .u32 y, .int .u32 0, .int .i64 m0, .int .i64 m1, .int .i64 m2, .int .i64 m3, .int .u32 m4, .int .i64 0, .int .i64 0, .int .i64 0, .int .i64 0, .int .u32 0, .int .i64 0, .int .i64 0, .int .i64 0, .int .i64 0, .int .u32 0])] W fun e w' => e = .returned (.tuple #[.agg nt.toArray, .bool true]) ∧ Q w' ∧ UpT N W w') :
    Calls Tryz.prog 35 #[(Value.agg #[.int .i64 k0, .int .i64 k1, .int .i64 k2, .int .i64 k3, .int .u32 k4]), .int .u32 o, .int .u32 x, .int .u32 y, (Value.agg #[.int .i64 m0, .int .i64 m1, .int .i64 m2, .int .i64 m3, .int .u32 m4]), .pointer (some ⟨sb, 0, none⟩)] w fun e w' => e = .returned (.agg nt.toArray) ∧ Q w' ∧ UpT N w w' := by
  have HQ := Lib.hid hQ
  have HAn := Lib.hid hA
  have hsl : sb < w.heap.size := cell_lt hs
  have hsz : nt.toArray.size = 19 := by simp [hnl]
  clear hQ hA
  go_enter Tryz.func35, Tryz.ntmps35
  go_upto_region 1 with fail
  generalize hA : World.alloc w _ = wa
  obtain ⟨KB, hKB⟩ : ∃ KB, KB = w.heap.size := ⟨_, rfl⟩
  have HK : Hid (Below w.heap.size w wa ∧ KeyC wa KB k0 k1 k2 k3 k4 ∧ wa.heap.size = KB + 1 ∧ w.heap.size ≤ KB) := Lib.hid (by rw [← hA, hKB]; exact ⟨(Below.refl _ _).alloc (Nat.le_refl _) _, KeyC.new w k0 k1 k2 k3 k4 _, by simp, Nat.le_refl _⟩)
  rw [← hKB]
  clear hA hKB
  generalize hA : World.alloc wa _ = wb
  obtain ⟨XB, hXB⟩ : ∃ XB, XB = KB + 1 := ⟨_, rfl⟩
  have HX : Hid (Below w.heap.size w wb ∧ KeyC wb KB k0 k1 k2 k3 k4 ∧ KeyC wb XB m0 m1 m2 m3 m4 ∧ wb.heap.size = XB + 1) := Lib.hid (by rw [← hA, hXB, ← HK.out.2.2.1]; exact ⟨HK.out.1.alloc HK.out.1.size _, HK.out.2.1.below ((Below.refl _ _).alloc (Nat.le_refl _) _), KeyC.new wa m0 m1 m2 m3 m4 _, by simp⟩)
  rw [← hXB]
  clear hA hXB
  generalize hA : World.alloc wb _ = wd
  obtain ⟨R, hR⟩ : ∃ R, R = XB + 1 := ⟨_, rfl⟩
  have HR : Hid (Below w.heap.size w wd ∧ KeyC wd KB k0 k1 k2 k3 k4 ∧ World.there wd R 0 19 ∧ R < wd.heap.size ∧ w.heap.size ≤ R ∧ KeyC wd XB m0 m1 m2 m3 m4) := Lib.hid (by rw [← hA, hR, ← HX.out.2.2.2]; exact ⟨HX.out.1.alloc HX.out.1.size _, HX.out.2.1.below ((Below.refl _ _).alloc (Nat.le_refl _) _), nthere_new _ _ 19 (by rfl) _, by simp, HX.out.1.size, HX.out.2.2.1.below ((Below.refl _ _).alloc (Nat.le_refl _) _)⟩)
  rw [← hR]
  clear hA hR
  have sc := (HR.out.1.cell (p := ⟨sb, 0, none⟩) hsl).trans hs
  obtain ⟨q0, q1, q2, q3, q4⟩ := ofive HR.out.2.1
  obtain ⟨e0, e1, e2, e3, e4⟩ := ofive HR.out.2.2.2.2.2
  go_upto_region 2 with (first
    | (go_at_call 32; (with_reducible refine (HAn.out _ HR.out.1).mono ?_); rintro e w1 ⟨rfl, hq, hu⟩; have H1 := Lib.hid hq; have HU1 := Lib.hid hu; have HT1 : Hid (World.there w1 R 0 19 ∧ R < w1.heap.size) := (Lib.hid ⟨nthere_same HR.out.2.2.1 (hu.2 R (Nat.le_trans hN HR.out.2.2.2.2.1) HR.out.2.2.2.1), Nat.lt_of_lt_of_le HR.out.2.2.2.1 hu.1⟩); clear hq hu)
    | (refine wpList_store_mid (by rfl) _ _ _ (by rfl) w1.heap.size 0 nt.toArray (by rfl) (by rfl) (by rw [hsz]; exact nthere_new _ _ 19 (by rfl) _) (by rw [hsz]; exact infoNote) (all_one hn1) ?_))
  generalize hA : World.setCells _ w1.heap.size 0 _ = w2
  obtain ⟨Y, hY⟩ : ∃ Y, Y = w1.heap.size := ⟨_, rfl⟩
  have hwz : w.heap.size ≤ w1.heap.size := Nat.le_trans HR.out.1.size HU1.out.1
  have H2 : Hid (Below w1.heap.size w1 w2 ∧ w2.rangeAt Y 0 nt ∧ World.there w2 R 0 19) := Lib.hid (by
    have hb : Below w1.heap.size w1 w2 := by rw [← hA]; exact nbelow_cells ((Below.refl w1.heap.size w1).alloc (Nat.le_refl _) _) (Nat.le_refl _) _ _
    refine ⟨hb, ?_, nthere_below HT1.out.1 hb HT1.out.2⟩
    rw [← hA, hY]
    exact World.rangeAt_setCells_same _ w1.heap.size 0 nt (by rw [hnl]; exact nthere_new _ _ 19 (by rfl) _))
  rw [← hY]
  clear hA hY
  go_wp2_with (first
    | (refine wpList_load_mid (by rfl) _ _ (by rfl) Y 0 (by rfl) nt _ H2.out.2.1 Tryz.underlying64 rfl (by rw [hnl]; exact infoNote) ?_)
    | (refine wpList_store_mid (by rfl) _ _ _ (by rfl) R 0 nt.toArray (by rfl) (by rfl) (by rw [hsz]; exact H2.out.2.2) (by rw [hsz]; exact infoNote) (all_one hn1) ?_))
  have HS : Hid (Below w.heap.size w1 (w2.setCells R 0 nt.toArray.toList) ∧ (w2.setCells R 0 nt.toArray.toList).rangeAt R 0 nt) := Lib.hid ⟨nbelow_cells (H2.out.1.mono hwz) HR.out.2.2.2.2.1 _ _, World.rangeAt_setCells_same w2 R 0 nt (by rw [hnl]; exact H2.out.2.2)⟩
  have hld := nload hnl HS.out.2
  refine bodyPost_ret (v := (.agg nt.toArray)) (by simp [results, Tryz.results35, Act.put, asAddr, hld]) rfl ⟨rfl, HQ.out _ _ H1.out (HS.out.1.mono hN), ((UpT.below HR.out.1).trans HU1.out).low HS.out.1 (Nat.le_refl _)⟩
theorem row_none {w : World} {N : Nat} {T : TypeId} {n : Nat} {v : Value} {xs : List Value} (h : w.ownsRow N T n v 0 xs) (hv : v.ownBlock = none) : v = .slice none 0 0 := by
  rcases h.2 with h' | ⟨g, cap, cur, e, _⟩
  · exact h'.1
  · rw [e] at hv; simp [Value.ownBlock] at hv
/-- The memory of a system, as far as nodes and pages are asked; all of it lies below N9. -/
structure SM (w0 w : World) (L : BLoc) (s sb N9 : Nat) (D : BSt) : Prop where
  m : MMD w0 w L D
  c : w.cell? ⟨s, 0, none⟩ = some (.pointer (some ⟨L.mb, 0, none⟩))
  lo : L.mb < N9 ∧ L.cb < N9 ∧ L.N ≤ N9 ∧ s < N9 ∧ L.N ≤ s ∧ s ≠ L.cb ∧ N9 ≤ w.heap.size
  p : w.cell? ⟨sb, 0, none⟩ = some (.pointer (some ⟨s, 0, none⟩))
  lp : sb < N9 ∧ L.N ≤ sb ∧ sb ≠ L.cb
section
variable {w0 w w' : World} {L : BLoc} {s sb N9 : Nat} {D : BSt}
theorem SM.low (h : SM w0 w L s sb N9 D) (hb : Below N9 w w') : SM w0 w' L s sb N9 D :=
  ⟨h.m.low hb h.lo.1 h.lo.2.1 h.lo.2.2.1, (World.cell?_of_block (a := ⟨s, 0, none⟩) (hb.block s h.lo.2.2.2.1)).trans h.c, by have := h.lo; have := hb.size; omega, (World.cell?_of_block (a := ⟨sb, 0, none⟩) (hb.block sb h.lp.1)).trans h.p, h.lp⟩
theorem SM.below (h : SM w0 w L s sb N9 D) (hb : Below w.heap.size w w') : SM w0 w' L s sb N9 D := h.low (hb.mono h.lo.2.2.2.2.2.2)
theorem SM.poke (h : SM w0 w L s sb N9 D) {pW' : Nat → Nat → Int} (hP : PgAt w' L.b.b L.b.P L.b.p L.b.B L.b.G L.b.n L.b.c D.pt D.pv pW') (hb : PBelow w w' L.b.B L.b.G) : SM w0 w' L s sb N9 { D with pW := pW' } ∧ UpT N9 w w' := by
  have hl := h.m.lo.p
  have h2 := h.lo
  have hz := hb.2.2.2.1
  have hp := h.lp
  exact ⟨⟨MemAt.page h.m hP hb ways_nil, (World.cell?_of_block (a := ⟨s, 0, none⟩) (hb.2.2.2.2 s (by omega) (by omega) (by omega))).trans h.c, by omega, (World.cell?_of_block (a := ⟨sb, 0, none⟩) (hb.2.2.2.2 sb (by omega) (by omega) (by omega))).trans h.p, hp⟩, UpT.pb hb (by omega) (by omega)⟩
theorem SM.swap (h : SM w0 w L s sb N9 D) {nW' : Nat → Nat → Value} {v' : Value} (hm : MemAt w0 w' L.mb L.S L.a L.b L.N L.cb L.z D.nt D.nv nW' D.pt D.pv D.pW 0 v' []) (hk : KeepM w w' L.N L.cb (.slice none 0 0)) (hv : v'.ownBlock = none) : SM w0 w' L s sb N9 { D with nW := nW' } ∧ UpT N9 w w' := by
  have h2 := h.lo
  have hz := hk.1
  have hp := h.lp
  obtain rfl := row_none (T := 253) hm.ca.row hv
  exact ⟨⟨hm, (World.cell?_of_block (a := ⟨s, 0, none⟩) (hk.2 s (by omega) (by omega) (by omega) (by simp [Value.ownBlock]))).trans h.c, by omega, (World.cell?_of_block (a := ⟨sb, 0, none⟩) (hk.2 sb (by omega) (by omega) (by omega) (by simp [Value.ownBlock]))).trans h.p, hp⟩, hz, fun k h3 h4 => hk.2 k (by omega) h4 (by omega) (by simp [Value.ownBlock])⟩
/-- Seen of a node's or a page's key that lives. -/
theorem SM.seen (h : SM w0 w L s sb N9 D) (k0 k1 k2 k3 k4 : Int) (hk : k0 = 2 ∨ k0 = 3) (hr : Hid (rightB k0 k1 k2 k3 k4 = true)) (hl : Hid (liveB L.a L.b D.nt D.nv D.pt D.pv k0 k1 k2 = true)) (vs vr : Value) (hE : ErrsAt vs vr w) :
    Calls Tryz.prog 23 #[.pointer (some ⟨s, 0, none⟩), (Value.agg #[.int .i64 k0, .int .i64 k1, .int .i64 k2, .int .i64 k3, .int .u32 k4])] w fun e w' => e = .returned (Value.agg #[.int .i64 k0, .int .i64 k1, .int .i64 k2, .int .i64 k3, .int .u32 k4]) ∧ Below w.heap.size w w' :=
  oseen_live k0 k1 k2 k3 k4 w (fun W hW => nvalid_ok k0 k1 k2 k3 k4 hr vs vr W (hE.below hW)) (fun W hW => slive_mem s L.mb k0 k1 k2 k3 k4 hk true hl W (h.below hW).c (h.below hW).m.m0 (h.below hW).m.sv.st)
end
end Go.Proofs.YtncopdhhchmpeaaGreatDoor
namespace Go.Proofs.YtncopdhhchmpeaaGreatDoor
open Go.ChangeShapes Go.WideShapes Go.ChangeAt Go.RowKit
set_option linter.unusedVariables false
set_option linter.unusedSimpArgs false
section
variable {w0 : World} {L : BLoc} {s sb N9 N : Nat} {D : BSt} {Q : World → Prop} {nt : List Value}
set_option maxHeartbeats 1000000 in
theorem ask_page (hnl : nt.length = 19) (hn1 : ∀ v, v ∈ nt → v.oneCell' = true) (k1 k2 k3 k4 : Int) (m0 m1 m2 m3 m4 : Int) (o x y : Int) (vs vr : Value) (w : World) (hE : ErrsAt vs vr w) (h : SM w0 w L s sb N9 D) (hN : N ≤ w.heap.size) (hr : Hid (rightB 3 k1 k2 k3 k4 = true)) (hl : Hid (liveB L.a L.b D.nt D.nv D.pt D.pv 3 k1 k2 = true)) (hm : ∀ W, Below w.heap.size w W → Calls Tryz.prog 23 #[.pointer (some ⟨s, 0, none⟩), (Value.agg #[.int .i64 m0, .int .i64 m1, .int .i64 m2, .int .i64 m3, .int .u32 m4])] W fun e w' => e = .returned (Value.agg #[.int .i64 m0, .int .i64 m1, .int .i64 m2, .int .i64 m3, .int .u32 m4]) ∧ Below W.heap.size W w') (hQ : ∀ w1 w2, Q w1 → Below N w1 w2 → Q w2) (hX : ∀ cs, Hid (CallM cs s 3 k1 k2 k3 k4 o x y) → Hid (CallJ cs s o m0 m1 m2 m3 m4 0 0 0 0 0) → ∀ W, Below w.heap.size w W → Calls Tryz.prog 114 #[(.agg cs.toArray)] W fun e w' => e = .returned (.agg nt.toArray) ∧ Q w' ∧ UpT N W w') : Calls Tryz.prog 35 #[(Value.agg #[.int .i64 3, .int .i64 k1, .int .i64 k2, .int .i64 k3, .int .u32 k4]), .int .u32 o, .int .u32 x, .int .u32 y, (Value.agg #[.int .i64 m0, .int .i64 m1, .int .i64 m2, .int .i64 m3, .int .u32 m4]), .pointer (some ⟨sb, 0, none⟩)] w fun e w' => e = .returned (.agg nt.toArray) ∧ Q w' ∧ UpT N w w' := by refine oask5 hnl hn1 3 k1 k2 k3 k4 m0 m1 m2 m3 m4 o x y s sb N w hN h.p hQ (fun W hW => ?_); refine oanswer hnl hn1 s 3 k1 k2 k3 k4 3 k1 k2 k3 k4 o x y 0 m0 m1 m2 m3 m4 0 0 0 0 0 0 0 0 0 0 m0 m1 m2 m3 m4 0 0 0 0 0 0 0 0 0 0 (by decide) (by decide) W (Nat.le_trans hN hW.size) hQ (fun V hV => (h.below (hW.trans (hV.mono hW.size))).seen 3 k1 k2 k3 k4 (by decide) hr hl vs vr (hE.below (hW.trans (hV.mono hW.size)))) (fun V hV => hm V (hW.trans (hV.mono hW.size))) (fun V hV => oseen_void s vs vr V (hE.below (hW.trans (hV.mono hW.size)))) (fun V hV => oseen_void s vs vr V (hE.below (hW.trans (hV.mono hW.size)))) (fun V hV => ?_); have hWV := hW.trans (hV.mono hW.size); exact oanswer_page hnl hn1 (Lib.hid (c25_call s 3 k1 k2 k3 k4 o x y 0 m0 m1 m2 m3 m4 0 0 0 0 0 0 0 0 0 0)) V (Nat.le_trans hN hWV.size) hQ (fun U hU => hX _ (Lib.hid (c25_m s 3 k1 k2 k3 k4 o x y 0 m0 m1 m2 m3 m4 0 0 0 0 0 0 0 0 0 0)) (Lib.hid (c25_j s 3 k1 k2 k3 k4 o x y 0 m0 m1 m2 m3 m4 0 0 0 0 0 0 0 0 0 0)) U (hWV.trans (hU.mono hWV.size)))
set_option maxHeartbeats 1000000 in
theorem ask_node (hnl : nt.length = 19) (hn1 : ∀ v, v ∈ nt → v.oneCell' = true) (k1 k2 k3 k4 : Int) (m0 m1 m2 m3 m4 : Int) (o x y : Int) (vs vr : Value) (w : World) (hE : ErrsAt vs vr w) (h : SM w0 w L s sb N9 D) (hN : N ≤ w.heap.size) (hr : Hid (rightB 2 k1 k2 k3 k4 = true)) (hl : Hid (liveB L.a L.b D.nt D.nv D.pt D.pv 2 k1 k2 = true)) (hm : ∀ W, Below w.heap.size w W → Calls Tryz.prog 23 #[.pointer (some ⟨s, 0, none⟩), (Value.agg #[.int .i64 m0, .int .i64 m1, .int .i64 m2, .int .i64 m3, .int .u32 m4])] W fun e w' => e = .returned (Value.agg #[.int .i64 m0, .int .i64 m1, .int .i64 m2, .int .i64 m3, .int .u32 m4]) ∧ Below W.heap.size W w') (hQ : ∀ w1 w2, Q w1 → Below N w1 w2 → Q w2) (hX : ∀ cs, Hid (CallM cs s 2 k1 k2 k3 k4 o x y) → Hid (CallJ cs s o m0 m1 m2 m3 m4 0 0 0 0 0) → ∀ W, Below w.heap.size w W → Calls Tryz.prog 113 #[(.agg cs.toArray)] W fun e w' => e = .returned (.agg nt.toArray) ∧ Q w' ∧ UpT N W w') : Calls Tryz.prog 35 #[(Value.agg #[.int .i64 2, .int .i64 k1, .int .i64 k2, .int .i64 k3, .int .u32 k4]), .int .u32 o, .int .u32 x, .int .u32 y, (Value.agg #[.int .i64 m0, .int .i64 m1, .int .i64 m2, .int .i64 m3, .int .u32 m4]), .pointer (some ⟨sb, 0, none⟩)] w fun e w' => e = .returned (.agg nt.toArray) ∧ Q w' ∧ UpT N w w' := by refine oask5 hnl hn1 2 k1 k2 k3 k4 m0 m1 m2 m3 m4 o x y s sb N w hN h.p hQ (fun W hW => ?_); refine oanswer hnl hn1 s 2 k1 k2 k3 k4 2 k1 k2 k3 k4 o x y 0 m0 m1 m2 m3 m4 0 0 0 0 0 0 0 0 0 0 m0 m1 m2 m3 m4 0 0 0 0 0 0 0 0 0 0 (by decide) (by decide) W (Nat.le_trans hN hW.size) hQ (fun V hV => (h.below (hW.trans (hV.mono hW.size))).seen 2 k1 k2 k3 k4 (by decide) hr hl vs vr (hE.below (hW.trans (hV.mono hW.size)))) (fun V hV => hm V (hW.trans (hV.mono hW.size))) (fun V hV => oseen_void s vs vr V (hE.below (hW.trans (hV.mono hW.size)))) (fun V hV => oseen_void s vs vr V (hE.below (hW.trans (hV.mono hW.size)))) (fun V hV => ?_); have hWV := hW.trans (hV.mono hW.size); exact oanswer_node hnl hn1 (Lib.hid (c25_call s 2 k1 k2 k3 k4 o x y 0 m0 m1 m2 m3 m4 0 0 0 0 0 0 0 0 0 0)) V (Nat.le_trans hN hWV.size) hQ (fun U hU => hX _ (Lib.hid (c25_m s 2 k1 k2 k3 k4 o x y 0 m0 m1 m2 m3 m4 0 0 0 0 0 0 0 0 0 0)) (Lib.hid (c25_j s 2 k1 k2 k3 k4 o x y 0 m0 m1 m2 m3 m4 0 0 0 0 0 0 0 0 0 0)) U (hWV.trans (hU.mono hWV.size)))
end
end Go.Proofs.YtncopdhhchmpeaaGreatDoor
namespace Go.Proofs.YtncopdhhchmpeaaGreatDoor
open Go.ChangeShapes Go.WideShapes Go.ChangeAt Go.RowKit
set_option linter.unusedVariables false
set_option linter.unusedSimpArgs false
section
variable {w0 : World} {L : BLoc} {s sb N9 : Nat} {D : BSt} {nt : List Value} {A : Nat → Addr}
theorem nwc_one (o a b c : Int) : ∀ v, v ∈ ([.int .u32 o, .int .u32 a, .int .u32 b, .int .u32 c, .int .i64 0, .int .i64 0, .int .i64 0, .int .i64 0, .int .u32 0, .int .i64 0, .int .i64 0, .int .i64 0, .int .i64 0, .int .u32 0, .int .i64 0, .int .i64 0, .int .i64 0, .int .i64 0, .int .u32 0] : List Value) → v.oneCell' = true := by simp [Value.oneCell']
theorem E6.at (h : E6 A w0) {w : World} (hm : SM w0 w L s sb N9 D) : E6 A w := h.below hm.m.sv.bel
theorem E6.len (h : E6 A w0) (g : Nat) (hg : g ∈ G6) : g < w0.heap.size := (h.1 g hg).2.1
set_option maxHeartbeats 1000000 in
theorem ask_poke (hnt : nt = [.int .u32 0, .int .u32 0, .int .u32 0, .int .u32 0, .int .i64 0, .int .i64 0, .int .i64 0, .int .i64 0, .int .u32 0, .int .i64 0, .int .i64 0, .int .i64 0, .int .i64 0, .int .u32 0, .int .i64 0, .int .i64 0, .int .i64 0, .int .i64 0, .int .u32 0]) (vs vr : Value) (w : World) (hE0 : ErrsAt vs vr w0) (h6 : E6 A w0) (h : SM w0 w L s sb N9 D) (v : Int) (hr : Hid (rightB 3 0 v 0 0 = true)) (hl : Hid (liveB L.a L.b D.nt D.nv D.pt D.pv 3 0 v = true)) (j : Nat) (hj : j < 32) (y : Int) (hn : 0 < L.b.n) (ht : D.pt 0 = true) :
    Calls Tryz.prog 35 #[(Value.agg #[.int .i64 3, .int .i64 0, .int .i64 v, .int .i64 0, .int .u32 0]), .int .u32 1, .int .u32 (j : Int), .int .u32 y, (Value.agg #[.int .i64 0, .int .i64 0, .int .i64 0, .int .i64 0, .int .u32 0]), .pointer (some ⟨sb, 0, none⟩)] w fun e w' => e = .returned (.agg nt.toArray) ∧ SM w0 w' L s sb N9 { D with pW := updA D.pW 0 j y } ∧ UpT N9 w w' := by
  have hE := hE0.below h.m.sv.bel
  have hnl : nt.length = 19 := by rw [hnt]; rfl
  have hn1 : ∀ v, v ∈ nt → v.oneCell' = true := by rw [hnt]; exact nwc_one 0 0 0 0
  refine ask_page (Q := fun w' => SM w0 w' L s sb N9 { D with pW := updA D.pW 0 j y }) hnl hn1 0 v 0 0 0 0 0 0 0 1 j y vs vr w hE h h.lo.2.2.2.2.2.2 hr hl (fun W hW => oseen_void s vs vr W (hE.below hW)) (fun w1 w2 h1 h2 => h1.low h2) (fun cs hc hj' W hW => ?_)
  have hM := h.below hW
  refine cpage_1 (mb := L.mb) (S := L.S) hnl hn1 hc (by omega) (by omega) .nilIface W hM.lo.2.2.2.2.2.2 hM.c hM.m.m0 (fun w1 w2 h1 h2 => h1.low h2) (fun V hV => ⟨hV.c, hV.m.m0⟩) (fun V hV => ?_) (fun V hV => ?_)
  · exact (spoke_ok 0 0 v 0 0 j j rfl rfl hn hj (Lib.hid ht) hl (by decide) (by decide) y V (hM.below hV).m.sv.st).mono (fun e w' h9 => ⟨h9.1, (hM.below hV).poke h9.2.1 h9.2.2⟩)
  · rw [hnt]; exact otold_nil _ rfl (nwc_one 0 0 0 0) V
set_option maxHeartbeats 1000000 in
theorem ask_peek (x : Int) (hnt : nt = [.int .u32 0, .int .u32 x, .int .u32 0, .int .u32 0, .int .i64 0, .int .i64 0, .int .i64 0, .int .i64 0, .int .u32 0, .int .i64 0, .int .i64 0, .int .i64 0, .int .i64 0, .int .u32 0, .int .i64 0, .int .i64 0, .int .i64 0, .int .i64 0, .int .u32 0]) (vs vr : Value) (w : World) (hE0 : ErrsAt vs vr w0) (h6 : E6 A w0) (h : SM w0 w L s sb N9 D) (v : Int) (hr : Hid (rightB 3 0 v 0 0 = true)) (hl : Hid (liveB L.a L.b D.nt D.nv D.pt D.pv 3 0 v = true)) (j : Nat) (hj : j < 32) (hn : 0 < L.b.n) (ht : D.pt 0 = true) (hx : D.pW 0 j = x) :
    Calls Tryz.prog 35 #[(Value.agg #[.int .i64 3, .int .i64 0, .int .i64 v, .int .i64 0, .int .u32 0]), .int .u32 0, .int .u32 (j : Int), .int .u32 0, (Value.agg #[.int .i64 0, .int .i64 0, .int .i64 0, .int .i64 0, .int .u32 0]), .pointer (some ⟨sb, 0, none⟩)] w fun e w' => e = .returned (.agg nt.toArray) ∧ Below w.heap.size w w' := by
  have hE := hE0.below h.m.sv.bel
  have hnl : nt.length = 19 := by rw [hnt]; rfl
  have hn1 : ∀ v, v ∈ nt → v.oneCell' = true := by rw [hnt]; exact nwc_one 0 x 0 0
  refine (ask_page (Q := fun w' => Below w.heap.size w w') hnl hn1 0 v 0 0 0 0 0 0 0 0 j 0 vs vr w hE h (Nat.le_refl _) hr hl (fun W hW => oseen_void s vs vr W (hE.below hW)) (fun w1 w2 h1 h2 => h1.trans h2) (fun cs hc hj' W hW => ?_)).mono (fun e w' h9 => ⟨h9.1, h9.2.1⟩)
  have hM := h.below hW
  refine (cpage_0 (mb := L.mb) (S := L.S) hnl hn1 (Lib.hid hc.out.toCallC) (by omega) (by omega) x .nilIface W hM.c hM.m.m0 (fun V hV => ?_) (fun V hV => ?_)).mono (fun e w' h9 => ⟨h9.1, hW.trans (h9.2.mono hW.size), UpT.below h9.2⟩)
  · exact speek_ok 0 0 v 0 0 j j rfl rfl hn hj (Lib.hid ht) hl (by decide) x (Lib.hid hx) V (hM.below hV).m.sv.st
  · rw [hnt]; exact otold_nil _ rfl (nwc_one 0 x 0 0) V
set_option maxHeartbeats 1000000 in
theorem ask_poke_bad (hnt : nt = [.int .u32 3, .int .u32 0, .int .u32 0, .int .u32 0, .int .i64 0, .int .i64 0, .int .i64 0, .int .i64 0, .int .u32 0, .int .i64 0, .int .i64 0, .int .i64 0, .int .i64 0, .int .u32 0, .int .i64 0, .int .i64 0, .int .i64 0, .int .i64 0, .int .u32 0]) (vs vr : Value) (w : World) (hE0 : ErrsAt vs vr w0) (h6 : E6 A w0) (h : SM w0 w L s sb N9 D) (v : Int) (hr : Hid (rightB 3 0 v 0 0 = true)) (hl : Hid (liveB L.a L.b D.nt D.nv D.pt D.pv 3 0 v = true)) (x : Int) (hx : ¬ (0 ≤ x ∧ x < 32)) (x0 : 0 ≤ x) (x1 : x ≤ 4294967295) (y : Int) :
    Calls Tryz.prog 35 #[(Value.agg #[.int .i64 3, .int .i64 0, .int .i64 v, .int .i64 0, .int .u32 0]), .int .u32 1, .int .u32 x, .int .u32 y, (Value.agg #[.int .i64 0, .int .i64 0, .int .i64 0, .int .i64 0, .int .u32 0]), .pointer (some ⟨sb, 0, none⟩)] w fun e w' => e = .returned (.agg nt.toArray) ∧ Below w.heap.size w w' := by
  have hE := hE0.below h.m.sv.bel
  have hnl : nt.length = 19 := by rw [hnt]; rfl
  have hn1 : ∀ v, v ∈ nt → v.oneCell' = true := by rw [hnt]; exact nwc_one 3 0 0 0
  refine (ask_page (Q := fun w' => Below w.heap.size w w') hnl hn1 0 v 0 0 0 0 0 0 0 1 x y vs vr w hE h (Nat.le_refl _) hr hl (fun W hW => oseen_void s vs vr W (hE.below hW)) (fun w1 w2 h1 h2 => h1.trans h2) (fun cs hc hj' W hW => ?_)).mono (fun e w' h9 => ⟨h9.1, h9.2.1⟩)
  have hM := h.below hW
  refine cpage_1 (mb := L.mb) (S := L.S) (Q := fun w' => Below w.heap.size w w') hnl hn1 hc x0 x1 (eV (A 1)) W hW.size hM.c hM.m.m0 (fun w1 w2 h1 h2 => h1.trans h2) (fun V hV => ⟨(h.below hV).c, (h.below hV).m.m0⟩) (fun V hV => ?_) (fun V hV => ?_)
  · have hMV := hM.below hV
    exact (spoke_range 0 v 0 0 x hx hl (by decide) (by decide) y (A 1) V hMV.m.sv.st ((h6.at hMV).c _ (by decide)) (Nat.lt_of_lt_of_le (h6.len _ (by decide)) hMV.m.sv.bel.size)).mono (fun e w' h9 => ⟨h9.1, (hW.trans (hV.mono hW.size)).trans (h9.2.mono (hW.trans (hV.mono hW.size)).size), UpT.below h9.2⟩)
  · rw [hnt]; exact otold_range _ A V (h6.at (h.below hV))
set_option maxHeartbeats 1000000 in
theorem ask_peek_bad (hnt : nt = [.int .u32 3, .int .u32 0, .int .u32 0, .int .u32 0, .int .i64 0, .int .i64 0, .int .i64 0, .int .i64 0, .int .u32 0, .int .i64 0, .int .i64 0, .int .i64 0, .int .i64 0, .int .u32 0, .int .i64 0, .int .i64 0, .int .i64 0, .int .i64 0, .int .u32 0]) (vs vr : Value) (w : World) (hE0 : ErrsAt vs vr w0) (h6 : E6 A w0) (h : SM w0 w L s sb N9 D) (v : Int) (hr : Hid (rightB 3 0 v 0 0 = true)) (hl : Hid (liveB L.a L.b D.nt D.nv D.pt D.pv 3 0 v = true)) (x : Int) (hx : ¬ (0 ≤ x ∧ x < 32)) (x0 : 0 ≤ x) (x1 : x ≤ 4294967295) :
    Calls Tryz.prog 35 #[(Value.agg #[.int .i64 3, .int .i64 0, .int .i64 v, .int .i64 0, .int .u32 0]), .int .u32 0, .int .u32 x, .int .u32 0, (Value.agg #[.int .i64 0, .int .i64 0, .int .i64 0, .int .i64 0, .int .u32 0]), .pointer (some ⟨sb, 0, none⟩)] w fun e w' => e = .returned (.agg nt.toArray) ∧ Below w.heap.size w w' := by
  have hE := hE0.below h.m.sv.bel
  have hnl : nt.length = 19 := by rw [hnt]; rfl
  have hn1 : ∀ v, v ∈ nt → v.oneCell' = true := by rw [hnt]; exact nwc_one 3 0 0 0
  refine (ask_page (Q := fun w' => Below w.heap.size w w') hnl hn1 0 v 0 0 0 0 0 0 0 0 x 0 vs vr w hE h (Nat.le_refl _) hr hl (fun W hW => oseen_void s vs vr W (hE.below hW)) (fun w1 w2 h1 h2 => h1.trans h2) (fun cs hc hj' W hW => ?_)).mono (fun e w' h9 => ⟨h9.1, h9.2.1⟩)
  have hM := h.below hW
  refine (cpage_0 (mb := L.mb) (S := L.S) hnl hn1 (Lib.hid hc.out.toCallC) x0 x1 0 (eV (A 1)) W hM.c hM.m.m0 (fun V hV => ?_) (fun V hV => ?_)).mono (fun e w' h9 => ⟨h9.1, hW.trans (h9.2.mono hW.size), UpT.below h9.2⟩)
  · have hMV := hM.below hV
    exact speek_range 0 v 0 0 x hx hl (by decide) (A 1) V hMV.m.sv.st ((h6.at hMV).c _ (by decide)) (Nat.lt_of_lt_of_le (h6.len _ (by decide)) hMV.m.sv.bel.size)
  · rw [hnt]; exact otold_range _ A V (h6.at (hM.below hV))
end
end Go.Proofs.YtncopdhhchmpeaaGreatDoor
namespace Go.Proofs.YtncopdhhchmpeaaGreatDoor
open Go.ChangeShapes Go.WideShapes Go.ChangeAt Go.RowKit
set_option linter.unusedVariables false
set_option linter.unusedSimpArgs false
theorem own_take {w : World} {base E s g c n : Nat} {xs : List Value} (h : w.ownsRow base E s (.slice (some ⟨g, 0, none⟩) n c) n xs) (k : Nat) (hk : k ≤ n) : w.ownsRow base E s (.slice (some ⟨g, 0, none⟩) k c) k (xs.take (k * s)) := by
  rcases h.2 with ⟨h1, _⟩ | ⟨g', cap', cur, h1, hbg, hg, hnc, hcm, hcs, htake⟩
  · simp at h1
  · simp only [Value.slice.injEq, Option.some.injEq, Addr.mk.injEq, and_true, true_and] at h1
    obtain ⟨rfl, rfl⟩ := h1
    have hm : k * s ≤ n * s := Nat.mul_le_mul_right _ hk
    refine ⟨by rw [List.length_take, h.1]; exact Nat.min_eq_left hm, .inr ⟨g, c, cur, rfl, hbg, hg, by omega, hcm, hcs, ?_⟩⟩
    rw [← htake, List.take_take, Nat.min_eq_left hm]
theorem own_cap {w : World} {base E s g c n : Nat} {xs : List Value} (h : w.ownsRow base E s (.slice (some ⟨g, 0, none⟩) n c) n xs) : n ≤ c ∧ c ≤ maxLen := by
  rcases h.2 with ⟨h1, _⟩ | ⟨g', cap', cur, h1, hbg, hg, hnc, hcm, hcs, htake⟩
  · simp at h1
  · simp only [Value.slice.injEq, Option.some.injEq, Addr.mk.injEq, and_true, true_and] at h1
    obtain ⟨rfl, rfl⟩ := h1
    exact ⟨hnc, hcm⟩
theorem own_there {w : World} {base E s g c n : Nat} {xs : List Value} (h : w.ownsRow base E s (.slice (some ⟨g, 0, none⟩) n c) n xs) (j : Nat) (hj : j < c * s) : (w.cell? ⟨g, j, none⟩).isSome = true ∧ w.frozen? ⟨g, j, none⟩ = false := by
  refine ⟨?_, h.frozenAt j⟩
  rcases h.2 with ⟨h1, _⟩ | ⟨g', cap', cur, h1, hbg, hg, hnc, hcm, hcs, htake⟩
  · simp at h1
  · simp only [Value.slice.injEq, Option.some.injEq, Addr.mk.injEq, and_true, true_and] at h1
    obtain ⟨rfl, rfl⟩ := h1
    have hj' : j < cur.size := by rw [hcs]; exact hj
    rw [cell_of_row w g j cur _ _ hg]
    simp [hj']
section
variable {P : Program}
end
theorem zeroWayR (w : World) : (zeroValue 253).run Tryz.prog w = .ok (.agg #[Value.int .i64 0, .int .i64 0, .int .i64 0, .int .i64 0, .int .u32 0, .int .u32 0, .int .i64 0, .int .i64 0, .bool false, .slice none 0 0]) w := by kernel_rfl
theorem KeepB.trans {w w1 w2 : World} {cb : Nat} {v v1 : Value} (h : KeepB w w1 cb v) (h2 : KeepB w1 w2 cb v1) (e : v1.ownBlock = v.ownBlock) : KeepB w w2 cb v :=
  ⟨Nat.le_trans h.1 h2.1, fun k hk hkc hkv => (h2.2 k (Nat.lt_of_lt_of_le hk h.1) hkc (by rw [e]; exact hkv)).trans (h.2 k hk hkc hkv)⟩
theorem KeepB.refl (w : World) (cb : Nat) (v : Value) : KeepB w w cb v := ⟨Nat.le_refl _, fun _ _ _ _ => rfl⟩
theorem KeepB.of_below {w w1 : World} {cb : Nat} {v : Value} (h : Below w.heap.size w w1) : KeepB w w1 cb v := ⟨h.size, fun k hk _ _ => h.block k hk⟩
/-- What stays when one more comes. -/
def stay (E : List EW) (full : Bool) : List EW := if full then E.tail else E
theorem ewCells_tail (E : List EW) : (ewCells E).drop 10 = ewCells E.tail := by
  cases E with
  | nil => rfl
  | cons e E => show (e.cs ++ ewCells E).drop 10 = ewCells E; exact List.drop_left' e.cs_len
theorem NodesIn.keep {w w' : World} {N cb : Nat} {v v' : Value} {d : EW} (h : NodesIn w N cb v d) (hk : KeepB w w' cb v) (e : v'.ownBlock = v.ownBlock) : NodesIn w' N cb v' d := fun i hi => by
  obtain ⟨g, o, a1, a2, a3, a4, a5, a6⟩ := h i hi
  exact ⟨g, o, a1, a2, Nat.lt_of_lt_of_le a3 hk.1, a4, by rw [e]; exact a5, (World.cell?_of_block (a := ⟨g, o + i, none⟩) (hk.2 g a3 a4 a5)).trans a6⟩
end Go.Proofs.YtncopdhhchmpeaaGreatDoor
namespace Go.Proofs.YtncopdhhchmpeaaGreatDoor
open Go.ChangeShapes Go.WideShapes Go.ChangeAt Go.RowKit
set_option linter.unusedVariables false
set_option linter.unusedSimpArgs false
/-- What Find leaves remembered. -/
def FindOut (E E' : List EW) (full : Bool) (hits hits' k0 k1 k2 k3 k4 sh : Int) (ids : List Int) (f : Int) : Prop :=
  (∃ e, e ∈ E ∧ e.is k0 k1 k2 k3 k4 sh = true ∧ E' = E ∧ hits' = hits + 1 ∧ f = 0) ∨
  ((∀ e, e ∈ E → e.is k0 k1 k2 k3 k4 sh = false) ∧ hits' = hits ∧ ((f = 0 ∧ ∃ d : EW, d.is k0 k1 k2 k3 k4 sh = true ∧ d.ids = ids ∧ E' = stay E full ++ [d]) ∨ (¬ f = 0 ∧ E' = E)))
theorem stay_len {E : List EW} {full : Bool} {size : Int} (h : (E.length : Int) ≤ size ∧ 1 ≤ size) (hf : ((E.length : Int) == size) = full) : ((stay E full).length : Int) + 1 ≤ size := by
  unfold stay
  cases full
  · have : ¬ (E.length : Int) = size := by simpa using hf
    simp
    omega
  · have : (E.length : Int) = size := by simpa using hf
    simp
    omega
/-- Never more than may be. -/
theorem FindOut.room {E E' : List EW} {full : Bool} {hits hits' k0 k1 k2 k3 k4 sh f size : Int} {ids : List Int} (h : FindOut E E' full hits hits' k0 k1 k2 k3 k4 sh ids f) (hr : (E.length : Int) ≤ size ∧ 1 ≤ size) (hf : ((E.length : Int) == size) = full) : (E'.length : Int) ≤ size ∧ hits ≤ hits' ∧ hits' ≤ hits + 1 := by
  rcases h with ⟨e, _, _, rfl, rfl, _⟩ | ⟨_, rfl, ⟨_, d, _, _, rfl⟩ | ⟨_, rfl⟩⟩
  · omega
  · have := stay_len hr hf
    simp
    omega
  · omega
end Go.Proofs.YtncopdhhchmpeaaGreatDoor
namespace Go.Proofs.YtncopdhhchmpeaaGreatDoor
open Go.ChangeShapes Go.WideShapes Go.ChangeAt Go.RowKit
set_option linter.unusedVariables false
set_option linter.unusedSimpArgs false
end Go.Proofs.YtncopdhhchmpeaaGreatDoor
namespace Go.Proofs.YtncopdhhchmpeaaGreatDoor
open Go.ChangeShapes Go.WideShapes Go.ChangeAt Go.RowKit
set_option linter.unusedVariables false
set_option linter.unusedSimpArgs false
/-- The nodes of which is told: in a box a row of numbers. -/
structure FgAt (w : World) (nb gn : Nat) (c' : Nat) (xs : List Int) : Prop where
  bl : nb < w.heap.size
  gl : gn < w.heap.size
  bx : w.cell? ⟨nb, 0, none⟩ = some (.slice (some ⟨gn, 0, none⟩) xs.length c')
  rn : RN w gn xs.length xs
theorem FgAt.same {w w' : World} {nb gn c' : Nat} {xs : List Int} (h : FgAt w nb gn c' xs) (hs : w.heap.size ≤ w'.heap.size) (e1 : w'.heap[nb]? = w.heap[nb]?) (e2 : w'.heap[gn]? = w.heap[gn]?) : FgAt w' nb gn c' xs :=
  ⟨Nat.lt_of_lt_of_le h.bl hs, Nat.lt_of_lt_of_le h.gl hs, (World.cell?_of_block (a := ⟨nb, 0, none⟩) e1).trans h.bx, fun i hi => (World.cell?_of_block (a := ⟨gn, i, none⟩) e2).trans (h.rn i hi)⟩
theorem FgAt.below {w w' : World} {nb gn c' : Nat} {xs : List Int} (h : FgAt w nb gn c' xs) (hb : Below w.heap.size w w') : FgAt w' nb gn c' xs := h.same hb.size (hb.block _ h.bl) (hb.block _ h.gl)
theorem contains_at (xs : List Int) (id : Int) : (xs.contains id = true) ↔ ∃ i, i < xs.length ∧ xs.getD i 0 = id := by
  rw [List.contains_iff_mem, List.mem_iff_getElem]
  constructor
  · rintro ⟨i, hi, h⟩; exact ⟨i, hi, by simp [List.getD, hi, h]⟩
  · rintro ⟨i, hi, h⟩; exact ⟨i, hi, by simpa [List.getD, hi] using h⟩
set_option maxRecDepth 100000 in
theorem cforget11_is (id : Int) (nb gn c' : Nat) (xs : List Int) (hx : xs.length ≤ 1000) (t : Bool) (ht : Hid (xs.contains id = t)) (w : World) (h : FgAt w nb gn c' xs) :
    Calls Tryz.prog 202 #[.int .i64 id, .pointer (some ⟨nb, 0, none⟩)] w fun e w' => e = .returned (.bool t) ∧ w = w' := by
  have bx := h.bx
  have HC := Lib.hid (scon_is gn xs.length c' xs id hx t (Lib.hid (by rw [← ht.out]; exact contains_at xs id)) w h.rn)
  obtain ⟨m, hm⟩ : ∃ m, xs.length = m := ⟨_, rfl⟩
  rw [hm] at bx HC
  clear h hm
  go_enter Tryz.func202, Tryz.ntmps202
  go_wp2_with (first | (go_at_call 71; (with_reducible refine HC.out.mono ?_); rintro e w1 ⟨rfl, rfl⟩))
  go_ret
  exact ⟨rfl, rfl⟩
/-- A way's nodes, where they are read. -/
def IdsAt (w : World) (na : Option Addr) (ids : List Int) : Prop := ∀ i, i < ids.length → ∃ g o, na = some ⟨g, o, none⟩ ∧ w.cell? ⟨g, o + i, none⟩ = some (.int .i64 (ids.getD i 0))
theorem IdsAt.head {w : World} {na : Option Addr} {ids : List Int} (h : IdsAt w na ids) (hl : 0 < ids.length) : ∃ g o, na = some ⟨g, o, none⟩ ∧ ∀ i, i < ids.length → w.cell? ⟨g, o + i, none⟩ = some (.int .i64 (ids.getD i 0)) := by
  obtain ⟨g, o, h1, _⟩ := h 0 hl
  refine ⟨g, o, h1, fun i hi => ?_⟩
  obtain ⟨g', o', h2, h3⟩ := h i hi
  rw [h1] at h2
  injection h2 with h2
  injection h2 with h2 h2'
  rw [h2, h2']
  exact h3
set_option maxRecDepth 100000 in
theorem iidx_no (nb gn c' : Nat) (xs : List Int) (hx : xs.length ≤ 1000) (na : Option Addr) (ids : List Int) (d nc : Nat) (hd : Hid (ids.length = d)) (hd1 : d ≤ 1000) (hno : Hid (∀ i, i < d → xs.contains (ids.getD i 0) = false)) (w : World) (h : FgAt w nb gn c' xs) (hi : IdsAt w na ids) :
    Calls Tryz.prog 129 #[.slice na d nc, (.func (.func 202) #[] #[.pointer (some ⟨nb, 0, none⟩)])] w fun e w' => e = .returned (.int .i64 (-1)) ∧ w = w' := by
  have H := Lib.hid h
  have HI := Lib.hid hi
  clear h hi
  go_enter Tryz.func129, Tryz.ntmps129
  go_wp2_with fail
  go_loop [8] (fun i => ∃ k : Nat, k ≤ d ∧ i = .int .i64 k) (fun i => d - (intOf i).toNat)
  case atStart => exact ⟨0, by omega, rfl⟩
  case round =>
    obtain ⟨k, hk, rfl⟩ := hrel
    have k0 : (0 : Int) ≤ k := by omega
    by_cases hlt : k < d
    · obtain ⟨g, o, rfl, hc⟩ := HI.out.head (by rw [hd.out]; omega)
      have hc := hc k (by rw [hd.out]; exact hlt)
      have HN := Lib.hid (hno.out k hlt)
      have k1 : (k : Int) < d := by omega
      generalize ids.getD k 0 = x at hc HN
      go_wp2_with (first | (go_at_call 202; (with_reducible refine (cforget11_is x nb gn c' xs hx false HN _ H.out).mono ?_); rintro e w1 ⟨rfl, rfl⟩))
      go_round
      case rel => exact ⟨k + 1, by omega, by go_num⟩
      case measure => simp [intOf]; omega
    · have hdd : ¬ (k : Int) < d := by omega
      go_wp2_with fail
      go_ret
      exact ⟨rfl, rfl⟩
set_option maxRecDepth 100000 in
theorem iidx_yes (nb gn c' : Nat) (xs : List Int) (hx : xs.length ≤ 1000) (na : Option Addr) (ids : List Int) (d nc q : Nat) (hd : Hid (ids.length = d)) (hd1 : d ≤ 1000) (hq : q < d) (hyes : Hid (xs.contains (ids.getD q 0) = true)) (hno : Hid (∀ i, i < q → xs.contains (ids.getD i 0) = false)) (w : World) (h : FgAt w nb gn c' xs) (hi : IdsAt w na ids) :
    Calls Tryz.prog 129 #[.slice na d nc, (.func (.func 202) #[] #[.pointer (some ⟨nb, 0, none⟩)])] w fun e w' => e = .returned (.int .i64 q) ∧ w = w' := by
  have H := Lib.hid h
  have HI := Lib.hid hi
  clear h hi
  go_enter Tryz.func129, Tryz.ntmps129
  go_wp2_with fail
  go_loop [8] (fun i => ∃ k : Nat, k ≤ q ∧ i = .int .i64 k) (fun i => d - (intOf i).toNat)
  case atStart => exact ⟨0, by omega, rfl⟩
  case round =>
    obtain ⟨k, hk, rfl⟩ := hrel
    have k0 : (0 : Int) ≤ k := by omega
    obtain ⟨g, o, rfl, hc⟩ := HI.out.head (by rw [hd.out]; omega)
    have hc := hc k (by rw [hd.out]; omega)
    have k1 : (k : Int) < d := by omega
    by_cases hlt : k < q
    · have HN := Lib.hid (hno.out k hlt)
      generalize ids.getD k 0 = x at hc HN
      go_wp2_with (first | (go_at_call 202; (with_reducible refine (cforget11_is x nb gn c' xs hx false HN _ H.out).mono ?_); rintro e w1 ⟨rfl, rfl⟩))
      go_round
      case rel => exact ⟨k + 1, by omega, by go_num⟩
      case measure => simp [intOf]; omega
    · obtain rfl : q = k := by omega
      have HN := hyes
      generalize ids.getD q 0 = x at hc HN
      go_wp2_with (first | (go_at_call 202; (with_reducible refine (cforget11_is x nb gn c' xs hx true HN _ H.out).mono ?_); rintro e w1 ⟨rfl, rfl⟩))
      go_ret
      exact ⟨rfl, rfl⟩
/-- Is any of these nodes on it? -/
abbrev EW.on (e : EW) (xs : List Int) : Bool := e.ids.any (fun id => xs.contains id)
theorem first_p (p : Int → Bool) (ids : List Int) : ∀ d, (∀ i, i < d → p (ids.getD i 0) = false) ∨ ∃ q, q < d ∧ (∀ i, i < q → p (ids.getD i 0) = false) ∧ p (ids.getD q 0) = true := by
  intro d
  induction d with
  | zero => exact .inl (fun i hi => by omega)
  | succ d ih =>
    rcases ih with h | ⟨q, h1, h2⟩
    · cases e : p (ids.getD d 0) with
      | true => exact .inr ⟨d, by omega, h, e⟩
      | false =>
        refine .inl (fun i hi => ?_)
        by_cases h3 : i = d
        · subst h3; exact e
        · exact h i (by omega)
    · exact .inr ⟨q, by omega, h2⟩
theorem any_no {p : Int → Bool} {ids : List Int} (h : ∀ i, i < ids.length → p (ids.getD i 0) = false) : ids.any p = false := by
  rw [List.any_eq_false]
  intro x hx
  obtain ⟨i, hi, rfl⟩ := List.mem_iff_getElem.1 hx
  have := h i hi
  simp [List.getD, hi] at this
  simp [this]
theorem any_yes {p : Int → Bool} {ids : List Int} {q : Nat} (hq : q < ids.length) (h : p (ids.getD q 0) = true) : ids.any p = true := by
  rw [List.any_eq_true]
  refine ⟨ids[q], List.getElem_mem hq, ?_⟩
  simpa [List.getD, hq] using h
theorem scfun_is (nb gn c' : Nat) (xs : List Int) (hx : xs.length ≤ 1000) (na : Option Addr) (ids : List Int) (d nc : Nat) (hd : Hid (ids.length = d)) (hd1 : d ≤ 1000) (t : Bool) (ht : Hid ((ids.any fun id => xs.contains id) = t)) (w : World) (h : FgAt w nb gn c' xs) (hi : IdsAt w na ids) :
    Calls Tryz.prog 89 #[.slice na d nc, (.func (.func 202) #[] #[.pointer (some ⟨nb, 0, none⟩)])] w fun e w' => e = .returned (.bool t) ∧ w = w' := by
  rcases first_p (fun id => xs.contains id) ids d with hno | ⟨q, h1, h2, h3⟩
  · have HC := Lib.hid (iidx_no nb gn c' xs hx na ids d nc hd hd1 (Lib.hid hno) w h hi)
    obtain rfl : t = false := by rw [← ht.out]; exact any_no (by rw [hd.out]; exact hno)
    clear h hi hno ht
    go_enter Tryz.func89, Tryz.ntmps89
    go_wp2_with (first | (go_at_call 129; (with_reducible refine HC.out.mono ?_); rintro e w1 ⟨rfl, rfl⟩))
    go_ret
    exact ⟨rfl, rfl⟩
  · have HC := Lib.hid (iidx_yes nb gn c' xs hx na ids d nc q hd hd1 h1 (Lib.hid h3) (Lib.hid h2) w h hi)
    obtain rfl : t = true := by rw [← ht.out]; exact any_yes (by rw [hd.out]; exact h1) h3
    have q0 : decide ((0 : Int) ≤ (q : Int)) = true := decide_eq_true (by omega)
    clear h hi h2 h3 ht
    go_enter Tryz.func89, Tryz.ntmps89
    go_wp2_with (first | (go_at_call 129; (with_reducible refine HC.out.mono ?_); rintro e w1 ⟨rfl, rfl⟩))
    go_ret
    exact ⟨rfl, rfl⟩
theorem NodesIn.at_ {w : World} {N cb : Nat} {v : Value} {e : EW} (h : NodesIn w N cb v e) : IdsAt w e.na e.ids := fun i hi => by
  obtain ⟨g, o, h1, _, _, _, _, h6⟩ := h i hi
  exact ⟨g, o, h1, h6⟩
theorem cforget1_is (nb gn c' : Nat) (xs : List Int) (hx : xs.length ≤ 1000) (e : EW) (hl : e.ids.length ≤ 1000) (t : Bool) (ht : Hid (e.on xs = t)) (w : World) (h : FgAt w nb gn c' xs) (hi : IdsAt w e.na e.ids) :
    Calls Tryz.prog 201 #[(Value.agg #[.int .i64 e.k0, .int .i64 e.k1, .int .i64 e.k2, .int .i64 e.k3, .int .u32 e.k4, .int .u32 e.sh, .int .i64 e.pg, .int .i64 e.at_, .bool e.ro, .slice e.na e.ids.length e.nc]), .pointer (some ⟨nb, 0, none⟩)] w fun r w' => r = .returned (.bool t) ∧ Below w.heap.size w w' := by
  obtain ⟨k0, k1, k2, k3, k4, sh, pg, at_, ro, ids, na, nc⟩ := e
  obtain ⟨d, hd⟩ : ∃ d, Hid (ids.length = d) := ⟨_, Lib.hid rfl⟩
  have hd1 : d ≤ 1000 := by rw [← hd.out]; exact hl
  have HC := Lib.hid (fun o => scfun_is nb gn c' xs hx na ids d nc hd hd1 t ht _ (h.below ((Below.refl _ _).alloc (Nat.le_refl _) _ : Below w.heap.size w (w.alloc o))) (fun i hii => by
    obtain ⟨g, o', h1, h2⟩ := hi i hii
    have hg : g < w.heap.size := World.block_lt_of_cell? w _ h2
    exact ⟨g, o', h1, (((Below.refl _ _).alloc (Nat.le_refl _) _ : Below w.heap.size w (w.alloc o)).cell (p := ⟨g, o' + i, none⟩) hg).trans h2⟩))
  have HC0 := Lib.hid (scfun_is nb gn c' xs hx na ids d nc hd hd1 t ht _ h hi)
  show Calls Tryz.prog 201 #[.agg #[.int .i64 k0, .int .i64 k1, .int .i64 k2, .int .i64 k3, .int .u32 k4, .int .u32 sh, .int .i64 pg, .int .i64 at_, .bool ro, .slice na ids.length nc], .pointer (some ⟨nb, 0, none⟩)] w _
  rw [hd.out]
  clear h hi
  go_enter Tryz.func201, Tryz.ntmps201
  go_wp2_with (first | (go_at_call 89; (with_reducible refine (HC.out _).mono ?_); rintro e w1 ⟨rfl, rfl⟩) | (go_at_call 89; (with_reducible refine HC0.out.mono ?_); rintro e w1 ⟨rfl, rfl⟩))
  go_ret
  exact ⟨rfl, (Below.refl _ _).alloc (Nat.le_refl _) _⟩
end Go.Proofs.YtncopdhhchmpeaaGreatDoor
namespace Go.Proofs.YtncopdhhchmpeaaGreatDoor
open Go.ChangeShapes Go.WideShapes Go.ChangeAt Go.RowKit
set_option linter.unusedVariables false
set_option linter.unusedSimpArgs false
/-- The ways that none of these nodes is on. -/
def offE (xs : List Int) (E : List EW) : List EW := E.filter (fun e => !e.on xs)
theorem offE_all {xs : List Int} {E : List EW} (h : ∀ e, e ∈ E → e.on xs = false) : offE xs E = E := by
  unfold offE
  rw [List.filter_eq_self]
  intro e he
  rw [h e he]
  rfl
theorem offE_take {xs : List Int} {E : List EW} {j : Nat} (h : ∀ (i : Nat) (e : EW), i < j → E[i]? = some e → e.on xs = false) : offE xs (E.take j) = E.take j := by
  refine offE_all (fun e he => ?_)
  obtain ⟨i, hi⟩ := List.mem_iff_getElem?.1 he
  rw [List.getElem?_take] at hi
  split at hi
  · exact h i e (by assumption) hi
  · cases hi
theorem offE_step (xs : List Int) (E : List EW) (k : Nat) (e : EW) (he : E[k]? = some e) : offE xs (E.take (k + 1)) = offE xs (E.take k) ++ (if e.on xs then [] else [e]) := by
  unfold offE
  rw [List.take_add_one, List.filter_append, he]
  congr 1
  cases h : e.on xs <;> simp [h]
theorem over_take (xs vs : List Value) (o m : Nat) (hm : m ≤ o) (hb : o + vs.length ≤ xs.length) : (over xs o vs).take m = xs.take m := by
  apply List.ext_getElem?
  intro j
  rw [List.getElem?_take, List.getElem?_take]
  by_cases hj : j < m
  · rw [if_pos hj, if_pos hj, over_get vs xs o j hb, if_neg (by omega)]
  · rw [if_neg hj, if_neg hj]
theorem over_drop (xs vs : List Value) (o m : Nat) (hm : o + vs.length ≤ m) (hb : o + vs.length ≤ xs.length) : (over xs o vs).drop m = xs.drop m := by
  apply List.ext_getElem?
  intro j
  rw [List.getElem?_drop, List.getElem?_drop, over_get vs xs o _ hb, if_neg (by omega)]
theorem over_in (xs vs : List Value) (o : Nat) (hb : o + vs.length ≤ xs.length) : (over xs o vs).take (o + vs.length) = xs.take o ++ vs := by
  apply List.ext_getElem?
  intro j
  rw [List.getElem?_take]
  by_cases hj : j < o
  · rw [if_pos (by omega), over_get vs xs o j hb, if_neg (by omega), List.getElem?_append_left (by rw [List.length_take]; omega), List.getElem?_take, if_pos hj]
  · have hl : (xs.take o).length = o := by rw [List.length_take]; omega
    by_cases hj2 : j < o + vs.length
    · rw [if_pos hj2, over_get vs xs o j hb, if_pos (by omega), List.getElem?_append_right (by omega), hl]
    · rw [if_neg hj2, List.getElem?_append_right (by omega), hl, List.getElem?_eq_none (by omega)]
theorem ewCells_drop (E : List EW) (k : Nat) : (ewCells E).drop (k * 10) = ewCells (E.drop k) := by
  induction k generalizing E with
  | zero => simp
  | succ k ih =>
    cases E with
    | nil => simp [ewCells]
    | cons e E =>
      show (e.cs ++ ewCells E).drop ((k + 1) * 10) = ewCells (E.drop k)
      rw [show (k + 1) * 10 = 10 + k * 10 by omega, ← List.drop_drop, List.drop_left' e.cs_len, ih]
theorem ewCells_take (E : List EW) (k : Nat) : (ewCells E).take (k * 10) = ewCells (E.take k) := by
  induction k generalizing E with
  | zero => simp [ewCells]
  | succ k ih =>
    cases E with
    | nil => simp [ewCells]
    | cons e E =>
      show (e.cs ++ ewCells E).take ((k + 1) * 10) = e.cs ++ ewCells (E.take k)
      rw [show (k + 1) * 10 = e.cs.length + k * 10 by rw [e.cs_len]; omega, List.take_length_add_append, ih]
theorem row_way {w : World} {N g n c k : Nat} {ys : List Value} {E : List EW} (h : w.ownsRow N 253 10 (.slice (some ⟨g, 0, none⟩) n c) n ys) (hd : ys.drop (k * 10) = ewCells (E.drop k)) {e : EW} (he : E[k]? = some e) (hk : k < n) :
    w.cell? ⟨g, k * 10, none⟩ = some (.int .i64 e.k0) ∧ w.cell? ⟨g, k * 10 + 1, none⟩ = some (.int .i64 e.k1) ∧ w.cell? ⟨g, k * 10 + 2, none⟩ = some (.int .i64 e.k2) ∧ w.cell? ⟨g, k * 10 + 3, none⟩ = some (.int .i64 e.k3) ∧ w.cell? ⟨g, k * 10 + 4, none⟩ = some (.int .u32 e.k4) ∧ w.cell? ⟨g, k * 10 + 5, none⟩ = some (.int .u32 e.sh) ∧ w.cell? ⟨g, k * 10 + 6, none⟩ = some (.int .i64 e.pg) ∧ w.cell? ⟨g, k * 10 + 7, none⟩ = some (.int .i64 e.at_) ∧ w.cell? ⟨g, k * 10 + 8, none⟩ = some (.bool e.ro) ∧ w.cell? ⟨g, k * 10 + 9, none⟩ = some (.slice e.na e.ids.length e.nc) := by
  have cell : ∀ q u, q < 10 → e.cs[q]? = some u → w.cell? ⟨g, k * 10 + q, none⟩ = some u := fun q u hq hu => by
    rw [h.cellAt (k * 10 + q) (by omega), ← List.getElem?_drop, hd]
    have := ewCells_get (E.drop k) 0 q e (by rw [List.getElem?_drop]; exact he) hq
    rw [Nat.zero_mul, Nat.zero_add] at this
    rw [this, hu]
  exact ⟨cell 0 _ (by decide) rfl, cell 1 _ (by decide) rfl, cell 2 _ (by decide) rfl, cell 3 _ (by decide) rfl, cell 4 _ (by decide) rfl, cell 5 _ (by decide) rfl, cell 6 _ (by decide) rfl, cell 7 _ (by decide) rfl, cell 8 _ (by decide) rfl, cell 9 _ (by decide) rfl⟩
def zsW (k : Nat) : List Value := (Builtin.zeroCells (Value.agg #[Value.int .i64 0, .int .i64 0, .int .i64 0, .int .i64 0, .int .u32 0, .int .u32 0, .int .i64 0, .int .i64 0, .bool false, .slice none 0 0]).cells k).toList
theorem zcW : (Value.agg #[Value.int .i64 0, .int .i64 0, .int .i64 0, .int .i64 0, .int .u32 0, .int .u32 0, .int .i64 0, .int .i64 0, .bool false, .slice none 0 0]).cells = #[Value.int .i64 0, .int .i64 0, .int .i64 0, .int .i64 0, .int .u32 0, .int .u32 0, .int .i64 0, .int .i64 0, .bool false, .slice none 0 0] := by kernel_rfl
theorem zsW_len (k : Nat) : (zsW k).length = k * 10 := by
  unfold zsW
  rw [zcW]
  simp [Builtin.zeroCells]
theorem zsW_one (k : Nat) : ∀ u ∈ zsW k, u.oneCell' = true := by
  intro u hu
  unfold zsW at hu
  rw [zcW] at hu
  simp only [Builtin.zeroCells, Array.toList_map, List.mem_map] at hu
  obtain ⟨i, _, rfl⟩ := hu
  have h : ∀ r, r < 10 → (#[Value.int .i64 0, .int .i64 0, .int .i64 0, .int .i64 0, .int .u32 0, .int .u32 0, .int .i64 0, .int .i64 0, .bool false, .slice none 0 0][r]!).oneCell' = true := by
    intro r hr
    have : r = 0 ∨ r = 1 ∨ r = 2 ∨ r = 3 ∨ r = 4 ∨ r = 5 ∨ r = 6 ∨ r = 7 ∨ r = 8 ∨ r = 9 := by omega
    rcases this with rfl | rfl | rfl | rfl | rfl | rfl | rfl | rfl | rfl | rfl <;> rfl
  exact h _ (Nat.mod_lt _ (by decide))
theorem infoWA (e : EW) : (Tryz.prog.info? 253).map (·.size) = some ((#[Value.int .i64 e.k0, .int .i64 e.k1, .int .i64 e.k2, .int .i64 e.k3, .int .u32 e.k4, .int .u32 e.sh, .int .i64 e.pg, .int .i64 e.at_, .bool e.ro, .slice e.na e.ids.length e.nc])).size := by kernel_rfl
theorem wa_one (e : EW) : ((#[Value.int .i64 e.k0, .int .i64 e.k1, .int .i64 e.k2, .int .i64 e.k3, .int .u32 e.k4, .int .u32 e.sh, .int .i64 e.pg, .int .i64 e.at_, .bool e.ro, .slice e.na e.ids.length e.nc])).all (·.oneCell') = true := by simp [Value.oneCell']
theorem wa_list (e : EW) : ((#[Value.int .i64 e.k0, .int .i64 e.k1, .int .i64 e.k2, .int .i64 e.k3, .int .u32 e.k4, .int .u32 e.sh, .int .i64 e.pg, .int .i64 e.at_, .bool e.ro, .slice e.na e.ids.length e.nc])).toList = e.cs := rfl
set_option maxRecDepth 100000 in
theorem didx_none {N cb : Nat} {size hits : Int} {a : Option Addr} {n c : Nat} {E : List EW} (nb gn c' : Nat) (xs : List Int) (hx : xs.length ≤ 1000) (hn : Hid (E.length = n)) (hm : n ≤ 64) (hids : Hid (∀ e, e ∈ E → e.ids.length ≤ 1000)) (hno : Hid (∀ e, e ∈ E → e.on xs = false)) (w : World) (h : CacheAt w N cb size hits (.slice a n c) E) (hf : FgAt w nb gn c' xs) :
    Calls Tryz.prog 214 #[.slice a n c, (.func (.func 201) #[] #[.pointer (some ⟨nb, 0, none⟩)])] w fun e w' => e = .returned (.int .i64 (-1)) ∧ Below w.heap.size w w' := by
  have H := Lib.hid h
  have HF := Lib.hid hf
  clear h hf
  go_enter Tryz.func214, Tryz.ntmps214
  go_wp2_with fail
  go_loopw [8] (fun i wr => ∃ k : Nat, k ≤ n ∧ i = .int .i64 k ∧ Below w.heap.size w wr) (fun i _ => n - (intOf i).toNat)
  case atStart => exact ⟨0, by omega, rfl, Below.refl _ _⟩
  case round =>
    obtain ⟨k, hk, rfl, hB⟩ := hrel
    have HB := Lib.hid hB
    have HR := Lib.hid (H.out.below hB)
    have HFr := Lib.hid (HF.out.below hB)
    clear hB
    by_cases hlt : k < n
    · obtain ⟨e, he⟩ := getE (E := E) (k := k) (by rw [hn.out]; exact hlt)
      obtain ⟨g, c', hv⟩ := HR.out.row1 (by rw [hn.out]; omega)
      have hv' := hv
      simp only [Value.slice.injEq] at hv'
      obtain ⟨rfl, -, -⟩ := hv'
      obtain ⟨q0, q1, q2, q3, q4, q5, q6, q7, q8, q9⟩ := HR.out.way rfl k e he
      have HN := Lib.hid (hno.out e (List.mem_of_getElem? he))
      have HL := Lib.hid (hids.out e (List.mem_of_getElem? he))
      have HI := Lib.hid (HR.out.nd e (List.mem_of_getElem? he)).at_
      have k0 : (0 : Int) ≤ k := by omega
      have k1 : (k : Int) < n := by omega
      have k2 : (k : Int) < 64 := by omega
      clear he hv
      go_wp2_with (first
        | (go_at_call 201; (with_reducible refine (cforget1_is nb gn _ xs hx e HL.out false HN _ HFr.out HI.out).mono ?_); rintro e' w1 ⟨rfl, hb⟩; have HB1 := Lib.hid (HB.out.trans (hb.mono HB.out.size)); clear hb))
      go_roundw
      case rel => exact ⟨k + 1, by omega, by go_num, HB1.out⟩
      case measure => simp [intOf]; omega
    · have hdd : ¬ (k : Int) < n := by omega
      go_wp2_with fail
      go_ret
      exact ⟨rfl, HB.out⟩
set_option maxRecDepth 100000 in
theorem didx_at {N cb : Nat} {size hits : Int} {a : Option Addr} {n c : Nat} {E : List EW} (nb gn c' : Nat) (xs : List Int) (hx : xs.length ≤ 1000) (hn : Hid (E.length = n)) (hm : n ≤ 64) (hids : Hid (∀ e, e ∈ E → e.ids.length ≤ 1000)) (j : Nat) (d : EW) (hj : Hid (E[j]? = some d)) (hyes : Hid (d.on xs = true)) (hno : Hid (∀ (i : Nat) (e : EW), i < j → E[i]? = some e → e.on xs = false)) (w : World) (h : CacheAt w N cb size hits (.slice a n c) E) (hf : FgAt w nb gn c' xs) :
    Calls Tryz.prog 214 #[.slice a n c, (.func (.func 201) #[] #[.pointer (some ⟨nb, 0, none⟩)])] w fun e w' => e = .returned (.int .i64 j) ∧ Below w.heap.size w w' := by
  have H := Lib.hid h
  have HF := Lib.hid hf
  have hjn : j < n := by
    rw [← hn.out]
    rcases Nat.lt_or_ge j E.length with h' | h'
    · exact h'
    · have := hj.out; rw [List.getElem?_eq_none h'] at this; cases this
  clear h hf
  go_enter Tryz.func214, Tryz.ntmps214
  go_wp2_with fail
  go_loopw [8] (fun i wr => ∃ k : Nat, k ≤ j ∧ i = .int .i64 k ∧ Below w.heap.size w wr) (fun i _ => n - (intOf i).toNat)
  case atStart => exact ⟨0, by omega, rfl, Below.refl _ _⟩
  case round =>
    obtain ⟨k, hk, rfl, hB⟩ := hrel
    have HB := Lib.hid hB
    have HR := Lib.hid (H.out.below hB)
    have HFr := Lib.hid (HF.out.below hB)
    clear hB
    obtain ⟨e, he⟩ := getE (E := E) (k := k) (by rw [hn.out]; omega)
    obtain ⟨g, c', hv⟩ := HR.out.row1 (by rw [hn.out]; omega)
    have hv' := hv
    simp only [Value.slice.injEq] at hv'
    obtain ⟨rfl, -, -⟩ := hv'
    obtain ⟨q0, q1, q2, q3, q4, q5, q6, q7, q8, q9⟩ := HR.out.way rfl k e he
    have HL := Lib.hid (hids.out e (List.mem_of_getElem? he))
    have HI := Lib.hid (HR.out.nd e (List.mem_of_getElem? he)).at_
    have k0 : (0 : Int) ≤ k := by omega
    have k1 : (k : Int) < n := by omega
    have k2 : (k : Int) < 64 := by omega
    clear hv
    by_cases hlt : k < j
    · have HN := Lib.hid (hno.out k e hlt he)
      clear he
      go_wp2_with (first
        | (go_at_call 201; (with_reducible refine (cforget1_is nb gn _ xs hx e HL.out false HN _ HFr.out HI.out).mono ?_); rintro e' w1 ⟨rfl, hb⟩; have HB1 := Lib.hid (HB.out.trans (hb.mono HB.out.size)); clear hb))
      go_roundw
      case rel => exact ⟨k + 1, by omega, by go_num, HB1.out⟩
      case measure => simp [intOf]; omega
    · obtain rfl : k = j := by omega
      have HN : Hid (e.on xs = true) := Lib.hid (by have h1 := hj.out; rw [he] at h1; injection h1 with h1; rw [h1]; exact hyes.out)
      clear he
      go_wp2_with (first
        | (go_at_call 201; (with_reducible refine (cforget1_is nb gn _ xs hx e HL.out true HN _ HFr.out HI.out).mono ?_); rintro e' w1 ⟨rfl, hb⟩; have HB1 := Lib.hid (HB.out.trans (hb.mono HB.out.size)); clear hb))
      go_ret
      exact ⟨rfl, HB1.out⟩
theorem grown_of_below {w w' : World} {g : Option Nat} (h : Below w.heap.size w w') : w.grownBy w' g := ⟨h.os, h.tape, h.output, h.size, fun k hk _ => h.block k hk⟩
theorem FgAt.grown {w w' : World} {nb gn c' g : Nat} {xs : List Int} (h : FgAt w nb gn c' xs) (hg : w.grownBy w' (some g)) (h1 : nb ≠ g) (h2 : gn ≠ g) : FgAt w' nb gn c' xs :=
  h.same hg.size (hg.block _ h.bl (fun e => h1 (by injection e))) (hg.block _ h.gl (fun e => h2 (by injection e)))
theorem NodesIn.grown {w w' : World} {N cb g n c : Nat} {e : EW} (h : NodesIn w N cb (.slice (some ⟨g, 0, none⟩) n c) e) (hg : w.grownBy w' (some g)) : IdsAt w' e.na e.ids := fun i hi => by
  obtain ⟨g', o, h1, h2, h3, h4, h5, h6⟩ := h i hi
  exact ⟨g', o, h1, (World.cell?_of_block (a := ⟨g', o + i, none⟩) (hg.block g' h3 (fun e => h5 (by injection e with e; rw [e]; rfl)))).trans h6⟩
theorem IdsAt.below {w w' : World} {na : Option Addr} {ids : List Int} (h : IdsAt w na ids) (hb : Below w.heap.size w w') : IdsAt w' na ids := fun i hi => by
  obtain ⟨g, o, h1, h2⟩ := h i hi
  exact ⟨g, o, h1, (hb.cell (p := ⟨g, o + i, none⟩) (World.block_lt_of_cell? w _ h2)).trans h2⟩
theorem own_far {w w' : World} {B e s g n c : Nat} {xs : List Value} (h : w.ownsRow B e s (.slice (some ⟨g, 0, none⟩) n c) n xs) (hb : Below w.heap.size w w') : w'.ownsRow B e s (.slice (some ⟨g, 0, none⟩) n c) n xs := row_same' h (fun x hx => hb.block x (h.lt x hx).2)
set_option maxRecDepth 100000 in
theorem cdelfun_no {N cb : Nat} {size hits : Int} {a : Option Addr} {n c : Nat} {E : List EW} (nb gn c' : Nat) (xs : List Int) (hx : xs.length ≤ 1000) (hn : Hid (E.length = n)) (hm : n ≤ 64) (hids : Hid (∀ e, e ∈ E → e.ids.length ≤ 1000)) (HNO : Hid (∀ e, e ∈ E → e.on xs = false)) (w : World) (h : CacheAt w N cb size hits (.slice a n c) E) (hf : FgAt w nb gn c' xs) :
    Calls Tryz.prog 200 #[.slice a n c, (.func (.func 201) #[] #[.pointer (some ⟨nb, 0, none⟩)])] w fun r w' => r = .returned (.slice a n c) ∧ Below w.heap.size w w' := by
  have H := Lib.hid h
  have HF := Lib.hid hf
  clear h hf
  go_enter Tryz.func200, Tryz.ntmps200
  go_wp2_with (first
    | (go_at_call 214; (with_reducible refine (didx_none nb gn c' xs hx hn hm hids HNO _ H.out HF.out).mono ?_); rintro e w1 ⟨rfl, hb⟩; have HB := Lib.hid hb; clear hb))
  go_ret
  exact ⟨rfl, HB.out⟩
set_option maxRecDepth 100000 in
set_option maxHeartbeats 4000000 in
theorem cdelfun_is {N cb g : Nat} {size hits : Int} {n c : Nat} {E : List EW} (nb gn c' : Nat) (xs : List Int) (hx : xs.length ≤ 1000) (hn : Hid (E.length = n)) (hm : n ≤ 64) (hids : Hid (∀ e, e ∈ E → e.ids.length ≤ 1000)) (hsome : Hid (∃ (j : Nat) (d : EW), E[j]? = some d ∧ d.on xs = true ∧ ∀ (i : Nat) (e : EW), i < j → E[i]? = some e → e.on xs = false)) (w : World) (h : CacheAt w N cb size hits (.slice (some ⟨g, 0, none⟩) n c) E) (hf : FgAt w nb gn c' xs) (hne : Hid (nb ≠ g ∧ gn ≠ g)) :
    Calls Tryz.prog 200 #[.slice (some ⟨g, 0, none⟩) n c, (.func (.func 201) #[] #[.pointer (some ⟨nb, 0, none⟩)])] w fun r w' => ∃ m, r = .returned (.slice (some ⟨g, 0, none⟩) m c) ∧ (offE xs E).length = m ∧ w'.ownsRow N 253 10 (.slice (some ⟨g, 0, none⟩) m c) m (ewCells (offE xs E)) ∧ w.grownBy w' (some g) := by
  have H := Lib.hid h
  have HF := Lib.hid hf
  have HRow : Hid (World.ownsRow w N 253 10 (.slice (some ⟨g, 0, none⟩) n c) n (ewCells E)) := Lib.hid (by have := h.row; rw [hn.out] at this; exact this)
  have HC := Lib.hid (own_cap HRow.out)
  clear h hf
  obtain ⟨j, d, hj, hyes, hno⟩ := hsome.out
  have HJ := Lib.hid hj
  have HY : Hid (d.on xs = true) := Lib.hid hyes
  have HNO : Hid (∀ (i : Nat) (e : EW), i < j → E[i]? = some e → e.on xs = false) := Lib.hid hno
  have hjn : j < n := by
    rw [← hn.out]
    rcases Nat.lt_or_ge j E.length with h' | h'
    · exact h'
    · rw [List.getElem?_eq_none h'] at hj; cases hj
  have j0 : (0 : Int) ≤ j := by omega
  have j1 : (j : Int) < 64 := by omega
  have hjm : ((j : Int) == -1) = false := by simp
  have HJ2 : Hid (offE xs (E.take (j + 1)) = E.take j) := Lib.hid (by rw [offE_step xs E j d hj, offE_take hno]; have hy : d.on xs = true := hyes; rw [if_pos hy, List.append_nil])
  have HEl : Hid ((E.take j).length = j) := Lib.hid (by rw [List.length_take, hn.out]; omega)
  clear hj hyes hno
  go_enter Tryz.func200, Tryz.ntmps200
  go_wp2_with (first
    | (go_at_call 214; (with_reducible refine (didx_at nb gn c' xs hx hn hm hids j d HJ HY HNO _ H.out HF.out).mono ?_); rintro e w1 ⟨rfl, hb⟩; have HB := Lib.hid hb; clear hb))
  go_loopw [5, 6, 7] (fun iv jv _ wr => ∃ (i k : Nat) (ys : List Value), iv = .int .i64 i ∧ jv = .int .i64 k ∧ (offE xs (E.take k)).length = i ∧ i < k ∧ k ≤ n ∧ World.ownsRow wr N 253 10 (.slice (some ⟨g, 0, none⟩) n c) n ys ∧ ys.take (i * 10) = ewCells (offE xs (E.take k)) ∧ ys.drop (k * 10) = ewCells (E.drop k) ∧ w.grownBy wr (some g)) (fun _ jv _ _ => n - (intOf jv).toNat)
  case atStart =>
    refine ⟨j, j + 1, ewCells E, rfl, by go_num, ?_, by omega, by omega, own_far HRow.out HB.out, ?_, ewCells_drop _ _, grown_of_below HB.out⟩
    · rw [HJ2.out, HEl.out]
    · rw [HJ2.out, ewCells_take]
  case round =>
    obtain ⟨i, k, ys, rfl, rfl, hi, hik, hkn, hrow, htk, hdr, hgr⟩ := hrel
    have HI := Lib.hid hi
    have HIK := Lib.hid (And.intro hik hkn)
    have HR := Lib.hid hrow
    have HTK := Lib.hid htk
    have HDR := Lib.hid hdr
    have HG := Lib.hid hgr
    have i0 : (0 : Int) ≤ i := by omega
    have i1 : (i : Int) < 64 := by omega
    have k0 : (0 : Int) ≤ k := by omega
    have k64 : (k : Int) ≤ 64 := by omega
    have i2 : (i : Int) < n := by omega
    clear hi hrow htk hdr hgr
    by_cases hlt : k < n
    · obtain ⟨e, he⟩ := getE (E := E) (k := k) (by rw [hn.out]; exact hlt)
      obtain ⟨q0, q1, q2, q3, q4, q5, q6, q7, q8, q9⟩ := row_way HR.out HDR.out he hlt
      have HE := Lib.hid he
      have HEm := Lib.hid (List.mem_of_getElem? he)
      have k1 : (k : Int) < n := by omega
      clear he
      go_upto_region 8 with fail
      clear q0 q1 q2 q3 q4 q5 q6 q7 q8 q9
      obtain ⟨wB, hwB⟩ : ∃ wB, wB = wr.alloc (.cells (#[Value.int .i64 e.k0, .int .i64 e.k1, .int .i64 e.k2, .int .i64 e.k3, .int .u32 e.k4, .int .u32 e.sh, .int .i64 e.pg, .int .i64 e.at_, .bool e.ro, .slice e.na e.ids.length e.nc]) 253 (0, 0)) := ⟨_, rfl⟩
      rw [← hwB]
      have HWB : Hid (WayAt wB wr.heap.size e) := Lib.hid (by rw [hwB]; exact WayAt.new _ _ _)
      have HBB : Hid (Below wr.heap.size wr wB) := Lib.hid (by rw [hwB]; exact (Below.refl _ _).alloc (Nat.le_refl _) _)
      have HGB := Lib.hid (grown_chain HG.out (grown_of_below HBB.out))
      have HFB := Lib.hid (HF.out.grown HGB.out hne.out.1 hne.out.2)
      have HIB := Lib.hid ((H.out.nd e HEm.out).grown HGB.out)
      have HRB := Lib.hid (own_far HR.out HBB.out)
      have HL := Lib.hid (hids.out e HEm.out)
      obtain ⟨xb, hxb⟩ : ∃ xb, Hid (wr.heap.size = xb) := ⟨_, Lib.hid rfl⟩
      have HXg : Hid (xb ≠ g) := Lib.hid (by rw [← hxb.out]; have := (HR.out.lt g rfl).2; omega)
      rw [hxb.out] at HWB ⊢
      clear hwB HBB HG
      have c0 := HWB.out.c0
      have c1 := HWB.out.c1
      have c2 := HWB.out.c2
      have c3 := HWB.out.c3
      have c4 := HWB.out.c4
      have c5 := HWB.out.c5
      have c6 := HWB.out.c6
      have c7 := HWB.out.c7
      have c8 := HWB.out.c8
      have c9 := HWB.out.c9
      obtain ⟨t, ht⟩ : ∃ t, Hid (e.on xs = t) := ⟨_, Lib.hid rfl⟩
      have HST := Lib.hid (offE_step xs E k e HE.out)
      cases t
      · go_upto_region 9 with (first
          | (go_at_call 201; (with_reducible refine (cforget1_is nb gn c' xs hx e HL.out false ht _ HFB.out HIB.out).mono ?_); rintro e' w2 ⟨rfl, hb⟩; have HG2 := Lib.hid (grown_chain HGB.out (grown_of_below hb)); have HW2 := Lib.hid (HWB.out.below hb); have HR2 := Lib.hid (own_far HRB.out hb); clear hb c0 c1 c2 c3 c4 c5 c6 c7 c8 c9))
        have c0 := HW2.out.c0
        have c1 := HW2.out.c1
        have c2 := HW2.out.c2
        have c3 := HW2.out.c3
        have c4 := HW2.out.c4
        have c5 := HW2.out.c5
        have c6 := HW2.out.c6
        have c7 := HW2.out.c7
        have c8 := HW2.out.c8
        have c9 := HW2.out.c9
        have HTh : Hid (World.there w2 g (i * 10) ((#[Value.int .i64 e.k0, .int .i64 e.k1, .int .i64 e.k2, .int .i64 e.k3, .int .u32 e.k4, .int .u32 e.sh, .int .i64 e.pg, .int .i64 e.at_, .bool e.ro, .slice e.na e.ids.length e.nc])).size) := Lib.hid (fun q hq => own_there HR2.out (i * 10 + q) (by have hq' : q < 10 := hq; have := HC.out; omega))
        have hst := own_setCells e.cs (i * 10) _ _ HR2.out
        have HEM : Hid (offE xs (E.take (k + 1)) = offE xs (E.take k) ++ [e]) := Lib.hid (by rw [HST.out, if_neg (by rw [ht.out]; decide)])
        have HYl : Hid (i * 10 + e.cs.length ≤ ys.length) := Lib.hid (by rw [HR2.out.1, e.cs_len]; omega)
        go_upto_region 10 with (refine wpList_store_mid (by rfl) _ _ _ (by rfl) g (i * 10) (#[Value.int .i64 e.k0, .int .i64 e.k1, .int .i64 e.k2, .int .i64 e.k3, .int .u32 e.k4, .int .u32 e.sh, .int .i64 e.pg, .int .i64 e.at_, .bool e.ro, .slice e.na e.ids.length e.nc]) (by rfl) (by rfl) HTh.out (infoWA e) (wa_one e) ?_; obtain ⟨w3, hw3⟩ : ∃ w3, w3 = w2.setCells g (i * 10) ((#[Value.int .i64 e.k0, .int .i64 e.k1, .int .i64 e.k2, .int .i64 e.k3, .int .u32 e.k4, .int .u32 e.sh, .int .i64 e.pg, .int .i64 e.at_, .bool e.ro, .slice e.na e.ids.length e.nc])).toList := ⟨_, rfl⟩; rw [← hw3]; rw [wa_list] at hw3; rw [← hw3] at hst; have H3 := Lib.hid hst.1; have HG3 := Lib.hid (grown_chain HG2.out hst.2); clear hst hw3)
        go_wp2_with fail
        go_roundw
        case rel =>
          refine ⟨i + 1, k + 1, over ys (i * 10) e.cs, by go_num, by go_num, ?_, by omega, by omega, H3.out, ?_, ?_, HG3.out⟩
          · rw [HEM.out, List.length_append, HI.out]; rfl
          · have h1 := over_in ys e.cs (i * 10) HYl.out
            rw [e.cs_len, HTK.out, show i * 10 + 10 = (i + 1) * 10 by omega] at h1
            rw [h1, HEM.out, ewCells_snoc]
          · rw [over_drop ys e.cs (i * 10) ((k + 1) * 10) (by rw [e.cs_len]; omega) HYl.out, show (k + 1) * 10 = k * 10 + 10 by omega, ← List.drop_drop, HDR.out, ewCells_tail, List.tail_drop]
        case measure => simp [intOf]; omega
      · have HEM : Hid (offE xs (E.take (k + 1)) = offE xs (E.take k)) := Lib.hid (by rw [HST.out, if_pos ht.out, List.append_nil])
        go_wp2_with (first
          | (go_at_call 201; (with_reducible refine (cforget1_is nb gn c' xs hx e HL.out true ht _ HFB.out HIB.out).mono ?_); rintro e' w2 ⟨rfl, hb⟩; have HG2 := Lib.hid (grown_chain HGB.out (grown_of_below hb)); have HR2 := Lib.hid (own_far HRB.out hb); clear hb c0 c1 c2 c3 c4 c5 c6 c7 c8 c9))
        go_roundw
        case rel =>
          refine ⟨i, k + 1, ys, rfl, by go_num, by rw [HEM.out]; exact HI.out, by omega, by omega, HR2.out, by rw [HEM.out]; exact HTK.out, ?_, HG2.out⟩
          rw [show (k + 1) * 10 = k * 10 + 10 by omega, ← List.drop_drop, HDR.out, ewCells_tail, List.tail_drop]
        case measure => simp [intOf]; omega
    · obtain rfl : k = n := by omega
      have HTE : Hid (E.take k = E) := Lib.hid (by rw [← hn.out, List.take_length])
      have hel : Tryz.prog.elem 241 = 253 := by kernel_rfl
      have ht : Tryz.prog.underlying 241 = some (.slice (Tryz.prog.elem 241)) := by rw [hel]; exact Tryz.underlying241
      have hsz : ∀ W, (sizeOf 253).run Tryz.prog W = .ok 10 W := fun W => by kernel_rfl
      have hsl : ∀ W, (Instr.sliceAt 241 (.slice (some ⟨g, 0, none⟩) k c) (some (.int .i64 i)) none none).run Tryz.prog W = .ok (.slice (some ⟨g, i * 10, none⟩) (k - i) (c - i)) W := fun W => by
        rw [run_sliceAt_slice W _ _ _ _ _ ht, run_slice_l W _ _ _ _ ht .i64 i (by omega) (by omega), hel, hsz, Result.andThen]
        unfold sliced
        rw [if_neg (by have := HC.out; omega), show ((i : Int).toNat) = i by omega]
        simp [Addr.add]
        exact fun h => h.symm
      have hs0 : ∀ W, (Instr.sliceAt 241 (.slice (some ⟨g, 0, none⟩) k c) none (some (.int .i64 i)) none).run Tryz.prog W = .ok (.slice (some ⟨g, 0, none⟩) i c) W := fun W => by
        rw [run_sliceAt_slice W _ _ _ _ _ ht, run_slice_h W _ _ _ _ ht .i64 i (by omega) (by have := HC.out; omega), hel, hsz, Result.andThen]
        unfold sliced
        rw [show ((i : Int).toNat) = i by omega]
        simp [Addr.add]
      have hth : ∀ q, q < (zsW (k - i)).length → (World.cell? wr ⟨g, i * 10 + q, none⟩).isSome = true ∧ World.frozen? wr ⟨g, i * 10 + q, none⟩ = false := fun q hq => own_there HR.out (i * 10 + q) (by rw [zsW_len] at hq; have := HC.out; omega)
      have hrc := fun ty => run_clear_wide (P := Tryz.prog) wr 241 253 ty (.agg #[Value.int .i64 0, .int .i64 0, .int .i64 0, .int .i64 0, .int .u32 0, .int .u32 0, .int .i64 0, .int .i64 0, .bool false, .slice none 0 0]) Tryz.underlying241 zeroWayR g (i * 10) (k - i) (c - i) (by omega) (zsW (k - i)) rfl (fun q hq => (hth q hq).1) (fun q hq => (hth q hq).2) (zsW_one _)
      have hst := own_setCells (zsW (k - i)) (i * 10) _ _ HR.out
      obtain ⟨w3, hw3⟩ : ∃ w3, w3 = wr.setCells g (i * 10) (zsW (k - i)) := ⟨_, rfl⟩
      rw [← hw3] at hst
      have H3 := Lib.hid hst.1
      have HG3 := Lib.hid (grown_chain HG.out hst.2)
      have hcl : ∀ ty, (Builtin.clear_ #[241] ty #[.slice (some ⟨g, i * 10, none⟩) (k - i) (c - i)]).run Tryz.prog wr = .ok (.tuple #[]) w3 := fun ty => by rw [hw3]; exact hrc ty
      clear hst hw3 hrc hth hel ht hsz
      have hkk : ¬ (k : Int) < k := by omega
      go_wp2_with fail
      go_ret
      have h4 := own_take H3.out i (by omega)
      rw [over_take _ _ _ _ (Nat.le_refl _) (by rw [zsW_len, HR.out.1]; omega), HTK.out, HTE.out] at h4
      rw [HTE.out] at HI
      exact ⟨i, rfl, HI.out, h4, HG3.out⟩
end Go.Proofs.YtncopdhhchmpeaaGreatDoor
namespace Go.Proofs.YtncopdhhchmpeaaGreatDoor
open Go.ChangeShapes Go.WideShapes Go.ChangeAt Go.RowKit
set_option linter.unusedVariables false
set_option linter.unusedSimpArgs false
theorem mem_off {xs : List Int} {E : List EW} {e : EW} (h : e ∈ offE xs E) : e ∈ E ∧ e.on xs = false := by
  unfold offE at h
  obtain ⟨h1, h2⟩ := List.mem_filter.1 h
  exact ⟨h1, by simpa using h2⟩
/-- Some ways went. -/
theorem cache_off {w w2 : World} {N cb m : Nat} {size hits : Int} {g n c : Nat} {E : List EW} (xs : List Int) (h : CacheAt w N cb size hits (.slice (some ⟨g, 0, none⟩) n c) E) (hl : (offE xs E).length = m) (hown : w2.ownsRow N 253 10 (.slice (some ⟨g, 0, none⟩) m c) m (ewCells (offE xs E))) (hg : w.grownBy w2 (some g)) :
    CacheAt (w2.setCell ⟨cb, 2, none⟩ (.slice (some ⟨g, 0, none⟩) m c)) N cb size hits (.slice (some ⟨g, 0, none⟩) m c) (offE xs E) ∧ Below N w (w2.setCell ⟨cb, 2, none⟩ (.slice (some ⟨g, 0, none⟩) m c)) ∧ KeepB w (w2.setCell ⟨cb, 2, none⟩ (.slice (some ⟨g, 0, none⟩) m c)) cb (.slice (some ⟨g, 0, none⟩) n c) := by
  have hgc : g ≠ cb := fun e => h.ne (by rw [e]; rfl)
  have hcb : w2.heap[cb]? = w.heap[cb]? := hg.block cb h.cl (fun e => hgc (by injection e with e; exact e.symm))
  have hgl := h.row.lt g rfl
  have keep : ∀ k, k < w.heap.size → k ≠ cb → (Value.slice (some ⟨g, 0, none⟩) n c).ownBlock ≠ some k → (w2.setCell ⟨cb, 2, none⟩ (.slice (some ⟨g, 0, none⟩) m c)).heap[k]? = w.heap[k]? := fun k hk hkc hkv => by
    rw [Below.heap_setCell _ _ _ _ (show k ≠ cb from hkc)]
    exact hg.block k hk (fun e => hkv e.symm)
  have hb : Below N w w2 := (Below.refl w.heap.size w).mono (Nat.le_of_lt (Nat.lt_of_le_of_lt h.nb h.cl)) |>.grown hg (Nat.le_of_lt (Nat.lt_of_le_of_lt h.nb h.cl)) (fun x hx => by injection hx with hx; rw [← hx]; exact hgl.1)
  refine ⟨⟨h.nb, ?_, ?_, ?_, ?_, ?_, ?_, fun e => hgc (by injection e), ?_⟩, hb.setCell h.nb _, ⟨by simpa using hg.size, keep⟩⟩
  · have := hg.size; have := h.cl; simp; omega
  · rw [World.cell?_setCell_other _ _ _ _ (by simp)]; exact (World.cell?_of_block (a := ⟨cb, 0, none⟩) hcb).trans h.c0
  · rw [World.cell?_setCell_other _ _ _ _ (by simp)]; exact (World.cell?_of_block (a := ⟨cb, 1, none⟩) hcb).trans h.c1
  · exact World.cell?_setCell_same _ _ _ ((World.cell?_of_block (a := ⟨cb, 2, none⟩) hcb).trans h.c2)
  · intro j; rw [World.frozen?_setCell]; exact (World.frozen?_of_block (a := ⟨cb, j, none⟩) hcb).trans (h.fr j)
  · rw [hl]
    exact row_same' hown (fun x hx => Below.heap_setCell _ _ _ _ (show x ≠ cb from fun e => hgc (by injection hx with hx; rw [← e, ← hx])))
  · intro e he i hi
    obtain ⟨g', o, a1, a2, a3, a4, a5, a6⟩ := h.nd e (mem_off he).1 i hi
    exact ⟨g', o, a1, a2, by have := hg.size; simp; omega, a4, a5, (World.cell?_of_block (a := ⟨g', o + i, none⟩) (keep g' a3 a4 a5)).trans a6⟩
set_option maxRecDepth 100000 in
set_option maxHeartbeats 4000000 in
theorem cforget_is {N cb : Nat} {size hits : Int} {v : Value} {E : List EW} (gn c' : Nat) (xs : List Int) (m : Nat) (hmx : Hid (xs.length = m)) (hx : m ≤ 1000) (hm : E.length ≤ 64) (hids : Hid (∀ e, e ∈ E → e.ids.length ≤ 1000)) (w : World) (h : CacheAt w N cb size hits v E) (hN : N ≤ w.heap.size) (hgl : gn < w.heap.size) (hgv : v.ownBlock ≠ some gn) (hr : Hid (RN w gn m xs)) :
    Calls Tryz.prog 176 #[.pointer (some ⟨cb, 0, none⟩), .slice (some ⟨gn, 0, none⟩) m c'] w fun e w' => e = .returned (.tuple #[]) ∧ ∃ v', CacheAt w' N cb size hits v' (offE xs E) ∧ Below N w w' ∧ KeepB w w' cb v ∧ v'.ownBlock = v.ownBlock := by
  obtain ⟨va, vc, hv⟩ := h.shape
  obtain ⟨n, hn⟩ : ∃ n, Hid (E.length = n) := ⟨_, Lib.hid rfl⟩
  rw [hn.out] at hv hm
  subst hv
  have hx' : xs.length ≤ 1000 := by rw [hmx.out]; exact hx
  have HF1 : Hid (FgAt (w.alloc (.cells #[.slice (some ⟨gn, 0, none⟩) m c'] 57 (0, 0))) w.heap.size gn c' xs) := Lib.hid ⟨by simp, by simp; omega, by rw [hmx.out]; simp, by rw [hmx.out]; exact fun i hi => (((Below.refl _ _).alloc (Nat.le_refl _) _ : Below w.heap.size w (w.alloc (.cells #[.slice (some ⟨gn, 0, none⟩) m c'] 57 (0, 0)))).cell (p := ⟨gn, i, none⟩) hgl).trans (hr.out i hi)⟩
  have H1 := Lib.hid (h.below ((Below.refl _ _).alloc (Nat.le_refl _) _ : Below w.heap.size w (w.alloc (.cells #[.slice (some ⟨gn, 0, none⟩) m c'] 57 (0, 0)))))
  have HN := Lib.hid hN
  have HCl := Lib.hid h.cl
  have HOw : Hid (∀ g, (Value.slice va n vc).ownBlock = some g → g < w.heap.size) := Lib.hid (fun g e => (h.row.lt g e).2)
  have q2 := H1.out.c2
  rcases firstE (fun e => e.on xs) E with hno | ⟨j, d, hj, hyes, hno⟩
  · have HNO : Hid (∀ e, e ∈ E → e.on xs = false) := Lib.hid hno
    clear h hgl hN hr hno
    go_enter Tryz.func176, Tryz.ntmps176
    go_wp2_with (first
      | (go_at_call 200; (with_reducible refine (cdelfun_no w.heap.size gn c' xs hx' hn hm hids HNO _ H1.out HF1.out).mono ?_); rintro e w2 ⟨rfl, hb⟩; have H2 := Lib.hid (H1.out.below hb); have HB2 := Lib.hid (((Below.refl _ _).alloc (Nat.le_refl _) _ : Below w.heap.size w _).trans (hb.mono (by simp))); have q2' := H2.out.c2; have qf := H2.out.fr 2; clear hb))
    go_end0
    refine ⟨rfl, .slice va n vc, ?_, (HB2.out.mono HN.out).setCell H2.out.nb _, ⟨by simpa using HB2.out.size, fun k hk hkc hkv => ?_⟩, rfl⟩
    · rw [offE_all HNO.out]
      have h2 := H2.out
      refine ⟨h2.nb, by simpa using h2.cl, ?_, ?_, World.cell?_setCell_same _ _ _ h2.c2, fun j => by simpa using h2.fr j, row_same' h2.row (fun g hg => Below.heap_setCell _ _ _ _ (show g ≠ cb from fun e => h2.ne (by rw [hg, e]))), h2.ne, fun d hd i hi => ?_⟩
      · rw [World.cell?_setCell_other _ _ _ _ (by simp)]; exact h2.c0
      · rw [World.cell?_setCell_other _ _ _ _ (by simp)]; exact h2.c1
      · obtain ⟨g, o, a1, a2, a3, a4, a5, a6⟩ := h2.nd d hd i hi
        exact ⟨g, o, a1, a2, by simpa using a3, a4, a5, (World.cell?_of_block (a := ⟨g, o + i, none⟩) (Below.heap_setCell _ _ _ _ (show g ≠ cb from a4))).trans a6⟩
    · rw [set_heap _ _ _ _ _ hkc]
      exact HB2.out.block k hk
  · have hjn : 0 < E.length := by
      rcases Nat.lt_or_ge j E.length with h' | h'
      · omega
      · rw [List.getElem?_eq_none h'] at hj; cases hj
    obtain ⟨g, cc, hgv'⟩ := h.row1 hjn
    simp only [Value.slice.injEq] at hgv'
    obtain ⟨rfl, -, -⟩ := hgv'
    have HSo : Hid (∃ (j : Nat) (d : EW), E[j]? = some d ∧ d.on xs = true ∧ ∀ (i : Nat) (e : EW), i < j → E[i]? = some e → e.on xs = false) := Lib.hid ⟨j, d, hj, hyes, hno⟩
    have HNe : Hid (w.heap.size ≠ g ∧ gn ≠ g) := Lib.hid ⟨by have := HOw.out g rfl; omega, fun e => hgv (by rw [e]; rfl)⟩
    clear h hgl hN hr hj hyes hno hjn hgv
    go_enter Tryz.func176, Tryz.ntmps176
    go_wp2_with (first
      | (go_at_call 200; (with_reducible refine (cdelfun_is w.heap.size gn c' xs hx' hn hm hids HSo _ H1.out HF1.out HNe).mono ?_); rintro e w2 ⟨m2, rfl, hl, hown, hg⟩; have HC2 := Lib.hid (cache_off xs H1.out hl hown hg); have hcb := (hg.block cb H1.out.cl (fun e => H1.out.ne e.symm)); have q2' := (World.cell?_of_block (a := ⟨cb, 2, none⟩) hcb).trans H1.out.c2; have qf := (World.frozen?_of_block (a := ⟨cb, 2, none⟩) hcb).trans (H1.out.fr 2); clear hl hown hg hcb))
    go_end0
    have hb1 : Below w.heap.size w (w.alloc (.cells #[.slice (some ⟨gn, 0, none⟩) m c'] 57 (0, 0))) := (Below.refl _ _).alloc (Nat.le_refl _) _
    exact ⟨rfl, _, HC2.out.1, (hb1.mono HN.out).trans HC2.out.2.1, (KeepB.of_below hb1).trans HC2.out.2.2 rfl, rfl⟩
end Go.Proofs.YtncopdhhchmpeaaGreatDoor
namespace Go.Proofs.YtncopdhhchmpeaaGreatDoor
open Go.ChangeShapes Go.WideShapes Go.ChangeAt Go.RowKit
set_option linter.unusedVariables false
set_option linter.unusedSimpArgs false
theorem ways_ids {a b : Shp} {th : Nat → Bool} {vr_ : Nat → Int} {W : Nat → Nat → Value} {th2 : Nat → Bool} {vr2 : Nat → Int} {E : List EW} (ok : WaysOk a b th vr_ W th2 vr2 E) : ∀ e, e ∈ E → e.ids.length ≤ 1000 := fun e he => by
  have := ((ok e he).2 0 (by decide) (by decide)).ids_len
  omega
/-- Ways that a node is not on stay, whatever becomes of it. -/
theorem ways_off_set {a b : Shp} {th : Nat → Bool} {vr_ : Nat → Int} {W W' : Nat → Nat → Value} {th2 : Nat → Bool} {vr2 : Nat → Int} {E : List EW} (i : Nat) (ok : WaysOk a b th vr_ W th2 vr2 E) (hW : ∀ q, q ≠ i → ∀ j y0 y1 y2 y3 y4, KAt (W q) j y0 y1 y2 y3 y4 → KAt (W' q) j y0 y1 y2 y3 y4) : WaysOk a b th vr_ W' th2 vr2 (offE [(i : Int)] E) := by
  intro e he
  obtain ⟨h1, h2⟩ := mem_off he
  refine ⟨(ok e h1).1, fun x x0 x1 => ((ok e h1).2 x x0 x1).keep rfl (fun q hq _ ht => ⟨ht, hW q (fun e' => ?_)⟩)⟩
  subst e'
  have : e.on [(q : Int)] = true := by
    show e.ids.any _ = true
    rw [List.any_eq_true]
    exact ⟨_, hq, by simp⟩
  rw [h2] at this
  cases this
/-- A memory whose ways may be stale. -/
structure MemX (w0 w : World) (mb S : Nat) (a b : Shp) (N cb : Nat) (size : Int) (th : Nat → Bool) (vr_ : Nat → Int) (W : Nat → Nat → Value) (th2 : Nat → Bool) (vr2 : Nat → Int) (W2 : Nat → Nat → Int) (hits : Int) (v : Value) (E : List EW) : Prop where
  sv : SV w0 w S a b th vr_ W th2 vr2 W2
  lo : StLo S a b N
  n0 : w0.heap.size ≤ N
  nN : N ≤ w.heap.size
  m0 : w.cell? ⟨mb, 0, none⟩ = some (.pointer (some ⟨S, 0, none⟩))
  m1 : w.cell? ⟨mb, 1, none⟩ = some (.pointer (some ⟨cb, 0, none⟩))
  ml : mb < w.heap.size
  mn : N ≤ mb
  mo : OutC cb v mb
  ca : CacheAt w N cb size hits v E
section
variable {w w' : World}
theorem MemX.below {w0 : World} {mb S : Nat} {a b : Shp} {N cb : Nat} {size : Int} {th : Nat → Bool} {vr_ : Nat → Int} {W : Nat → Nat → Value} {th2 : Nat → Bool} {vr2 : Nat → Int} {W2 : Nat → Nat → Int} {hits : Int} {v : Value} {E : List EW} (h : (MemX w0 w mb S a b N cb size th vr_ W th2 vr2 W2 hits v E)) (hb : Below w.heap.size w w') : (MemX w0 w' mb S a b N cb size th vr_ W th2 vr2 W2 hits v E) :=
  ⟨h.sv.step hb, h.lo, h.n0, Nat.le_trans h.nN hb.size, (hb.cell (p := ⟨mb, 0, none⟩) h.ml).trans h.m0, (hb.cell (p := ⟨mb, 1, none⟩) h.ml).trans h.m1, Nat.lt_of_lt_of_le h.ml hb.size, h.mn, h.mo, h.ca.below hb⟩
theorem MemX.found {w0 : World} {mb S : Nat} {a b : Shp} {N cb : Nat} {size : Int} {th : Nat → Bool} {vr_ : Nat → Int} {W : Nat → Nat → Value} {th2 : Nat → Bool} {vr2 : Nat → Int} {W2 : Nat → Nat → Int} {hits : Int} {v : Value} {E : List EW} (h : (MemX w0 w mb S a b N cb size th vr_ W th2 vr2 W2 hits v E)) {hits' : Int} {v' : Value} {E' : List EW} (hb : Below N w w') (hc : CacheAt w' N cb size hits' v' E') (ok : WaysOk a b th vr_ W th2 vr2 E') (hk : KeepB w w' cb v) (hv : v'.ownBlock = v.ownBlock) : MemAt w0 w' mb S a b N cb size th vr_ W th2 vr2 W2 hits' v' E' := by
  have e := hk.2 mb h.ml h.mo.1 h.mo.2
  exact ⟨⟨h.sv.bel.trans (hb.mono h.n0), h.sv.wb, h.sv.st.under h.lo hk.1 (fun k hkN => hb.block k hkN)⟩, h.lo, h.n0, Nat.le_trans h.nN hk.1, (World.cell?_of_block (a := ⟨mb, 0, none⟩) e).trans h.m0, (World.cell?_of_block (a := ⟨mb, 1, none⟩) e).trans h.m1, Nat.lt_of_lt_of_le h.ml hk.1, h.mn, ⟨h.mo.1, by rw [hv]; exact h.mo.2⟩, hc, ok⟩
theorem MemAt.nodeX {w0 : World} {mb S : Nat} {a b : Shp} {N cb : Nat} {size : Int} {th : Nat → Bool} {vr_ : Nat → Int} {W : Nat → Nat → Value} {th2 : Nat → Bool} {vr2 : Nat → Int} {W2 : Nat → Nat → Int} {hits : Int} {v : Value} {E : List EW} (h : (MemAt w0 w mb S a b N cb size th vr_ W th2 vr2 W2 hits v E)) {th' : Nat → Bool} {vr' : Nat → Int} {W' : Nat → Nat → Value} (hN : NdAt w' a.b a.P a.p a.B a.G a.n a.c th' vr' W') (hb : PBelow w w' a.B a.G) : MemX w0 w' mb S a b N cb size th' vr' W' th2 vr2 W2 hits v E := by
  have hl := h.lo.n
  have e := hb.2.2.2.2 mb h.ml (by have := h.mn; omega) (by have := h.mn; omega)
  exact ⟨h.sv.node hN hb, h.lo, h.n0, Nat.le_trans h.nN hb.2.2.2.1, (World.cell?_of_block (a := ⟨mb, 0, none⟩) e).trans h.m0, (World.cell?_of_block (a := ⟨mb, 1, none⟩) e).trans h.m1, Nat.lt_of_lt_of_le h.ml hb.2.2.2.1, h.mn, h.mo, h.ca.same hb.2.2.2.1 (fun k hk hks => hb.2.2.2.2 k hks (by omega) (by omega))⟩
end
theorem KeepM.of_pbelow {w w' : World} {N cb B G : Nat} {v : Value} (hb : PBelow w w' B G) (h1 : B < N) (h2 : G < N) : KeepM w w' N cb v := ⟨hb.2.2.2.1, fun k hkN hk _ _ => hb.2.2.2.2 k hk (by omega) (by omega)⟩
theorem KeepM.of_below {w w' : World} {N cb : Nat} {v : Value} (hb : Below w.heap.size w w') : KeepM w w' N cb v := ⟨hb.size, fun k _ hk _ _ => hb.block k hk⟩
theorem KeepM.of_keepB {w w' : World} {N cb : Nat} {v : Value} (h : KeepB w w' cb v) : KeepM w w' N cb v := ⟨h.1, fun k _ hk h1 h2 => h.2 k hk h1 h2⟩
theorem KeepM.trans {w w1 w2 : World} {N cb : Nat} {v v1 : Value} (h : KeepM w w1 N cb v) (h2 : KeepM w1 w2 N cb v1) (e : v1.ownBlock = v.ownBlock) : KeepM w w2 N cb v :=
  ⟨Nat.le_trans h.1 h2.1, fun k hkN hk hkc hkv => (h2.2 k hkN (Nat.lt_of_lt_of_le hk h.1) hkc (by rw [e]; exact hkv)).trans (h.2 k hkN hk hkc hkv)⟩
theorem rn1 (w : World) (x : Int) : RN (w.alloc (.cells #[.int .i64 x] 3 (0, 0))) w.heap.size 1 [x] := fun i hi => by
  obtain rfl : i = 0 := by omega
  simp
end Go.Proofs.YtncopdhhchmpeaaGreatDoor
namespace Go.Proofs.YtncopdhhchmpeaaGreatDoor
open Go.ChangeShapes Go.WideShapes Go.ChangeAt Go.RowKit
set_option linter.unusedVariables false
set_option linter.unusedSimpArgs false
theorem KeyC.keepB2 {w w' : World} {kb cb : Nat} {v : Value} {k0 k1 k2 k3 k4 : Int} (h : KeyC w kb k0 k1 k2 k3 k4) (hk : KeepB w w' cb v) (ho : OutC cb v kb) : KeyC w' kb k0 k1 k2 k3 k4 := h.same' hk.1 (hk.2 kb h.lt ho.1 ho.2)
theorem st_sv {w0 w w' : World} {S : Nat} {a b : Shp} {th : Nat → Bool} {vr_ : Nat → Int} {W W' : Nat → Nat → Value} {th2 : Nat → Bool} {vr2 : Nat → Int} {W2 : Nat → Nat → Int} (h : StAt w' S a b th vr_ W' th2 vr2 W2) : NdAt w' a.b a.P a.p a.B a.G a.n a.c th vr_ W' := h.nd
theorem off_no {xs : List Int} {E : List EW} {x : Nat} (h : NoNode E x) : NoNode (offE xs E) x := fun e he => h e (mem_off he).1
theorem MemX.put {w0 : World} {mb S : Nat} {a b : Shp} {N cb : Nat} {size : Int} {th : Nat → Bool} {vr_ : Nat → Int} {W : Nat → Nat → Value} {th2 : Nat → Bool} {vr2 : Nat → Int} {W2 : Nat → Nat → Int} {hits : Int} {v : Value} {E : List EW} {w : World} (h : MemX w0 w mb S a b N cb size th vr_ W th2 vr2 W2 hits v E) (x j : Nat) (hx : N ≤ x) (h1 : cb ≠ x) (h2 : mb ≠ x) (h3 : v.ownBlock ≠ some x) (h4 : NoNode E x) (u : Value) : MemX w0 (w.setCell ⟨x, j, none⟩ u) mb S a b N cb size th vr_ W th2 vr2 W2 hits v E := by
  have e := set_heap w x mb j u h2
  exact ⟨h.sv.put1 h.lo x j hx h.n0 u, h.lo, h.n0, by simpa using h.nN, (World.cell?_of_block (a := ⟨mb, 0, none⟩) e).trans h.m0, (World.cell?_of_block (a := ⟨mb, 1, none⟩) e).trans h.m1, by simpa using h.ml, h.mn, h.mo, h.ca.put x j h1 h3 h4 u⟩
theorem MemX.put5 {w0 : World} {mb S : Nat} {a b : Shp} {N cb : Nat} {size : Int} {th : Nat → Bool} {vr_ : Nat → Int} {W : Nat → Nat → Value} {th2 : Nat → Bool} {vr2 : Nat → Int} {W2 : Nat → Nat → Int} {hits : Int} {v : Value} {E : List EW} {w : World} (h : MemX w0 w mb S a b N cb size th vr_ W th2 vr2 W2 hits v E) (x : Nat) (hx : N ≤ x) (h1 : cb ≠ x) (h2 : mb ≠ x) (h3 : v.ownBlock ≠ some x) (h4 : NoNode E x) (u0 u1 u2 u3 u4 : Value) : MemX w0 (((((w.setCell ⟨x, 0, none⟩ u0).setCell ⟨x, 1, none⟩ u1).setCell ⟨x, 2, none⟩ u2).setCell ⟨x, 3, none⟩ u3).setCell ⟨x, 4, none⟩ u4) mb S a b N cb size th vr_ W th2 vr2 W2 hits v E :=
  ((((h.put x 0 hx h1 h2 h3 h4 u0).put x 1 hx h1 h2 h3 h4 u1).put x 2 hx h1 h2 h3 h4 u2).put x 3 hx h1 h2 h3 h4 u3).put x 4 hx h1 h2 h3 h4 u4
set_option maxRecDepth 100000 in
set_option maxHeartbeats 4000000 in
theorem mswap_ok {w0 : World} {mb S : Nat} {a b : Shp} {N cb : Nat} {size : Int} {th : Nat → Bool} {vr_ : Nat → Int} {W : Nat → Nat → Value} {th2 : Nat → Bool} {vr2 : Nat → Int} {W2 : Nat → Nat → Int} {hits : Int} {v : Value} {E : List EW} (vs vr : Value) (k : Nat) (k2 k3 k4 : Int) (sl : Int) (j : Nat) (hsl : Hid (sl = j)) (hk : k < a.n) (hj : j < 16) (hth : Hid (th k = true)) (ht : Hid (liveB a b th vr_ th2 vr2 2 k k2 = true)) (hb0 : Hid (bits BinOp.and IntKind.i64 k3 2 = 0)) (hb5 : Hid ((bits BinOp.and IntKind.i64 k3 5 == 0) = true)) (y0 y1 y2 y3 y4 x0 x1 x2 x3 x4 : Int) (hy : Hid (KAt (W k) j y0 y1 y2 y3 y4)) (hx : Hid (rightB x0 x1 x2 x3 x4 = true)) (hcell : Hid (∀ j, j < 80 → (W k j).oneCell' = true)) (hm : Hid (E.length ≤ 64)) (w : World) (hE : ErrsAt vs vr w) (h : (MemAt w0 w mb S a b N cb size th vr_ W th2 vr2 W2 hits v E)) :
    Calls Tryz.prog 138 #[.pointer (some ⟨mb, 0, none⟩), .agg #[.int .i64 2, .int .i64 k, .int .i64 k2, .int .i64 k3, .int .u32 k4], .int .i64 sl, (Value.agg #[.int .i64 x0, .int .i64 x1, .int .i64 x2, .int .i64 x3, .int .u32 x4])] w fun e w' => e = .returned (.tuple #[(Value.agg #[.int .i64 y0, .int .i64 y1, .int .i64 y2, .int .i64 y3, .int .u32 y4]), .nilIface]) ∧ ∃ v', MemAt w0 w' mb S a b N cb size th vr_ (updV W k (j * 5) (k5 x0 x1 x2 x3 x4)) th2 vr2 W2 hits v' (offE [(k : Int)] E) ∧ KeepM w w' N cb v ∧ v'.ownBlock = v.ownBlock := by
  rw [hsl.out]
  have H := Lib.hid h
  have HE := Lib.hid hE
  have HOw : Hid (∀ g, v.ownBlock = some g → g < w.heap.size) := Lib.hid (fun g e => (h.ca.row.lt g e).2)
  have HCl := Lib.hid (And.intro h.ca.cl (And.intro h.ml h.nN))
  have HNo := Lib.hid (h.ca.noNode (w.heap.size + 1 + 1) (by omega))
  have HNB := Lib.hid (fun x hx => h.ca.noNode x hx)
  clear h hE
  go_enter Tryz.func138, Tryz.ntmps138
  go_upto_region 1 with fail
  obtain ⟨wB, hwB⟩ : ∃ wB, wB = (((w.alloc (.cells #[.int .i64 2, .int .i64 k, .int .i64 k2, .int .i64 k3, .int .u32 k4] 42 (0, 0))).alloc (.cells #[.int .i64 x0, .int .i64 x1, .int .i64 x2, .int .i64 x3, .int .u32 x4] 42 (0, 0))).alloc (.cells #[.int .i64 0, .int .i64 0, .int .i64 0, .int .i64 0, .int .u32 0] 42 (0, 0))) := ⟨_, rfl⟩
  rw [← hwB]
  have HB1 : Hid (Below w.heap.size w wB.drew) := Lib.hid (by rw [hwB]; exact ((((Below.refl _ _).alloc (Nat.le_refl _) _ : Below w.heap.size w _).alloc (by simp) _).alloc (by simp; omega) _).drew)
  have HB0 : Hid (Below w.heap.size w wB) := Lib.hid (by rw [hwB]; exact ((((Below.refl _ _).alloc (Nat.le_refl _) _ : Below w.heap.size w _).alloc (by simp) _).alloc (by simp; omega) _))
  have HT0 : Hid (KeyC wB w.heap.size 2 k k2 k3 k4 ∧ KeyC wB (w.heap.size + 1) x0 x1 x2 x3 x4 ∧ KeyC wB (w.heap.size + 1 + 1) 0 0 0 0 0) := Lib.hid (by rw [hwB]; exact KeyC.three (Below.refl _ _))
  have HT : Hid (KeyC wB.drew w.heap.size 2 k k2 k3 k4 ∧ KeyC wB.drew (w.heap.size + 1) x0 x1 x2 x3 x4 ∧ KeyC wB.drew (w.heap.size + 1 + 1) 0 0 0 0 0) := Lib.hid (by rw [hwB]; exact KeyC.three (Below.refl _ _).drew)
  have H1 := Lib.hid (H.out.below HB1.out)
  have HE1 := Lib.hid (HE.out.below HB1.out)
  obtain ⟨kb, hkb⟩ : ∃ kb, Hid (w.heap.size = kb) := ⟨_, Lib.hid rfl⟩
  obtain ⟨xb, hxb⟩ : ∃ xb, Hid (w.heap.size + 1 = xb) := ⟨_, Lib.hid rfl⟩
  obtain ⟨rb, hrb⟩ : ∃ rb, Hid (w.heap.size + 1 + 1 = rb) := ⟨_, Lib.hid rfl⟩
  rw [hrb.out, hxb.out, hkb.out] at HT HT0
  rw [hrb.out] at HNo
  rw [hrb.out, hxb.out, hkb.out]
  have HBs : Hid (w.heap.size ≤ kb ∧ kb < xb ∧ xb < rb) := Lib.hid (by have := hkb.out; have := hxb.out; have := hrb.out; omega)
  clear hwB
  have HS11 : Hid (∀ w', World.cell? w' ⟨mb, 0, none⟩ = some (.pointer (some ⟨S, 0, none⟩)) → KeyC w' kb 2 k k2 k3 k4 → KeyC w' xb x0 x1 x2 x3 x4 → (World.cell? w' ⟨mb, 0, none⟩ = some (.pointer (some ⟨S, 0, none⟩)) ∧ (World.cell? w' ⟨kb, 0, none⟩ = some (.int .i64 2) ∧ World.cell? w' ⟨kb, 1, none⟩ = some (.int .i64 k) ∧ World.cell? w' ⟨kb, 2, none⟩ = some (.int .i64 k2) ∧ World.cell? w' ⟨kb, 3, none⟩ = some (.int .i64 k3) ∧ World.cell? w' ⟨kb, 4, none⟩ = some (.int .u32 k4)) ∧ World.cell? w' ⟨xb, 0, none⟩ = some (.int .i64 x0) ∧ World.cell? w' ⟨xb, 1, none⟩ = some (.int .i64 x1) ∧ World.cell? w' ⟨xb, 2, none⟩ = some (.int .i64 x2) ∧ World.cell? w' ⟨xb, 3, none⟩ = some (.int .i64 x3) ∧ World.cell? w' ⟨xb, 4, none⟩ = some (.int .u32 x4))) := Lib.hid (fun w' h0 hk hx => ⟨h0, ⟨hk.c0, hk.c1, hk.c2, hk.c3, hk.c4⟩, hx.c0, hx.c1, hx.c2, hx.c3, hx.c4⟩)
  go_cut [10, 11] (fun bv ev wx => ∃ bb, bv = .pointer (some ⟨bb, 0, none⟩) ∧ ev = .nilIface ∧ (MemX w0 wx mb S a b N cb size th vr_ (updV W k (j * 5) (k5 x0 x1 x2 x3 x4)) th2 vr2 W2 hits v E) ∧ KeyC wx bb y0 y1 y2 y3 y4 ∧ KeyC wx kb 2 k k2 k3 k4 ∧ KeyC wx rb 0 0 0 0 0 ∧ KeepM w wx N cb v ∧ rb < bb)
  case first =>
    refine wp_region_noPanic ?_
    refine wp_region_held_drew (S := fun w' => (World.cell? w' ⟨mb, 0, none⟩ = some (.pointer (some ⟨S, 0, none⟩)) ∧ (World.cell? w' ⟨kb, 0, none⟩ = some (.int .i64 2) ∧ World.cell? w' ⟨kb, 1, none⟩ = some (.int .i64 k) ∧ World.cell? w' ⟨kb, 2, none⟩ = some (.int .i64 k2) ∧ World.cell? w' ⟨kb, 3, none⟩ = some (.int .i64 k3) ∧ World.cell? w' ⟨kb, 4, none⟩ = some (.int .u32 k4)) ∧ World.cell? w' ⟨xb, 0, none⟩ = some (.int .i64 x0) ∧ World.cell? w' ⟨xb, 1, none⟩ = some (.int .i64 x1) ∧ World.cell? w' ⟨xb, 2, none⟩ = some (.int .i64 x2) ∧ World.cell? w' ⟨xb, 3, none⟩ = some (.int .i64 x3) ∧ World.cell? w' ⟨xb, 4, none⟩ = some (.int .u32 x4))) (by kernel_rfl) (HS11.out _ H1.out.m0 HT.out.1 HT.out.2.1) (fun hHeld => ?_)
    refine wpAnyH_take (i := 0) (v := ?_) (by rfl) (by kernel_rfl) (by kernel_rfl) (by kernel_rfl) (fun _ _ _ h => h) (Or.inl ⟨by kernel_rfl, ?_⟩) (by assumption) ?_; rotate_left 1; (focus (intro w hSw; (try dsimp only at hSw); simp only [List.getElem_toArray, List.getElem_cons_succ, List.getElem_cons_zero]; all_goals go_simp; all_goals (try with_reducible rfl))); (try simp only [Act.put, List.getElem_toArray, List.getElem_cons_succ, List.getElem_cons_zero, List.setIfInBounds_toArray, List.set_cons_zero, List.set_cons_succ])
    refine wpAnyH_take (i := 1) (v := ?_) (by rfl) (by kernel_rfl) (by kernel_rfl) (by kernel_rfl) (fun _ _ _ h => h) (Or.inl ⟨by kernel_rfl, ?_⟩) (by assumption) ?_; rotate_left 1; (focus (intro w hSw; (try dsimp only at hSw); simp only [List.getElem_toArray, List.getElem_cons_succ, List.getElem_cons_zero]; all_goals go_simp; all_goals (try with_reducible rfl))); (try simp only [Act.put, List.getElem_toArray, List.getElem_cons_succ, List.getElem_cons_zero, List.setIfInBounds_toArray, List.set_cons_zero, List.set_cons_succ])
    refine wpAnyH_take (i := 2) (v := ?_) (by rfl) (by kernel_rfl) (by kernel_rfl) (by kernel_rfl) (fun _ _ _ h => h) (Or.inl ⟨by kernel_rfl, ?_⟩) (by assumption) ?_; rotate_left 1; (focus (intro w hSw; (try dsimp only at hSw); simp only [List.getElem_toArray, List.getElem_cons_succ, List.getElem_cons_zero]; all_goals go_simp; all_goals (try with_reducible rfl))); (try simp only [Act.put, List.getElem_toArray, List.getElem_cons_succ, List.getElem_cons_zero, List.setIfInBounds_toArray, List.set_cons_zero, List.set_cons_succ])
    refine wpAnyH_take (i := 3) (v := ?_) (by rfl) (by kernel_rfl) (by kernel_rfl) (by kernel_rfl) (fun _ _ _ h => h) (Or.inl ⟨by kernel_rfl, ?_⟩) (by assumption) ?_; rotate_left 1; (focus (intro w hSw; (try dsimp only at hSw); simp only [List.getElem_toArray, List.getElem_cons_succ, List.getElem_cons_zero]; all_goals go_simp; all_goals (try with_reducible rfl))); (try simp only [Act.put, List.getElem_toArray, List.getElem_cons_succ, List.getElem_cons_zero, List.setIfInBounds_toArray, List.set_cons_zero, List.set_cons_succ])
    refine wpAnyH_take (i := 4) (v := ?_) (by rfl) (by kernel_rfl) (by kernel_rfl) (by kernel_rfl) (fun _ _ _ h => h) (Or.inl ⟨by kernel_rfl, ?_⟩) (by assumption) ?_; rotate_left 1; (focus (intro w hSw; (try dsimp only at hSw); simp only [List.getElem_toArray, List.getElem_cons_succ, List.getElem_cons_zero]; all_goals go_simp; all_goals (try with_reducible rfl))); (try simp only [Act.put, List.getElem_toArray, List.getElem_cons_succ, List.getElem_cons_zero, List.setIfInBounds_toArray, List.set_cons_zero, List.set_cons_succ])
    refine wpAnyH_take (i := 5) (v := ?_) (by rfl) (by kernel_rfl) (by kernel_rfl) (by kernel_rfl) (fun _ _ _ h => h) (Or.inl ⟨by kernel_rfl, ?_⟩) (by assumption) ?_; rotate_left 1; (focus (intro w hSw; (try dsimp only at hSw); simp only [List.getElem_toArray, List.getElem_cons_succ, List.getElem_cons_zero]; all_goals go_simp; all_goals (try with_reducible rfl))); (try simp only [Act.put, List.getElem_toArray, List.getElem_cons_succ, List.getElem_cons_zero, List.setIfInBounds_toArray, List.set_cons_zero, List.set_cons_succ])
    refine wpAnyH_take (i := 6) (v := ?_) (by rfl) (by kernel_rfl) (by kernel_rfl) (by kernel_rfl) (fun _ _ _ h => h) (Or.inl ⟨by kernel_rfl, ?_⟩) (by assumption) ?_; rotate_left 1; (focus (intro w hSw; (try dsimp only at hSw); simp only [List.getElem_toArray, List.getElem_cons_succ, List.getElem_cons_zero]; all_goals go_simp; all_goals (try with_reducible rfl))); (try simp only [Act.put, List.getElem_toArray, List.getElem_cons_succ, List.getElem_cons_zero, List.setIfInBounds_toArray, List.set_cons_zero, List.set_cons_succ])
    refine wpAnyH_ready (rs := [7, 11]) (by kernel_rfl) (by simp) ?_
    refine AllReadyH.cons (by rfl) (fun K hK => ?_) (AllReadyH.cons (by rfl) (fun K hK => ?_) AllReadyH.nil)
    · rw [if_pos (by kernel_rfl)]; simp only [List.getElem_toArray, List.getElem_cons_succ, List.getElem_cons_zero]
      have HCF := Lib.hid (sswap_ok vs vr k k2 k3 k4 j hk hj hth ht hb0 hb5 y0 y1 y2 y3 y4 x0 x1 x2 x3 x4 hy hx hcell _ HE1.out H1.out.sv.st)
      go_wp2_with (first
        | (go_at_call 175; (with_reducible refine HCF.out.mono ?_); rintro e w2 ⟨rfl, hM, hb⟩; have H2 := Lib.hid (H1.out.nodeX (st_sv (w0 := w0) (w := w) (W := W) hM) hb); have HT2 : Hid (KeyC w2 kb 2 k k2 k3 k4 ∧ KeyC w2 xb x0 x1 x2 x3 x4 ∧ KeyC w2 rb 0 0 0 0 0) := Lib.hid (by have := H1.out.lo.n; have := HBs.out; have := HCl.out; exact ⟨HT.out.1.pbelow hb (by omega) (by omega), HT.out.2.1.pbelow hb (by omega) (by omega), HT.out.2.2.pbelow hb (by omega) (by omega)⟩); have HM2 : Hid (KeepM w w2 N cb v) := Lib.hid ((KeepM.of_below HB1.out).trans (KeepM.of_pbelow hb (by have := H1.out.lo.n; omega) (by have := H1.out.lo.n; omega)) rfl); clear HCF hM hb))
      refine hK.out _ _ (HS11.out _ H2.out.m0 HT2.out.1 HT2.out.2.1) (fun hHeld => ?_)
      clear hK K
      (try simp only [Act.put, List.getElem_toArray, List.getElem_cons_succ, List.getElem_cons_zero, List.setIfInBounds_toArray, List.set_cons_zero, List.set_cons_succ])
      refine wpAnyH_take (i := 8) (v := ?_) (by rfl) (by kernel_rfl) (by kernel_rfl) (by kernel_rfl) (fun _ _ _ h => h) (Or.inl ⟨by kernel_rfl, ?_⟩) (by assumption) ?_; rotate_left 1; (focus (intro w hSw; (try dsimp only at hSw); simp only [List.getElem_toArray, List.getElem_cons_succ, List.getElem_cons_zero]; all_goals go_simp; all_goals (try with_reducible rfl))); (try simp only [Act.put, List.getElem_toArray, List.getElem_cons_succ, List.getElem_cons_zero, List.setIfInBounds_toArray, List.set_cons_zero, List.set_cons_succ])
      refine wpAnyH_take (i := 9) (v := ?_) (by rfl) (by kernel_rfl) (by kernel_rfl) (by kernel_rfl) (fun _ _ _ h => h) (Or.inl ⟨by kernel_rfl, ?_⟩) (by assumption) ?_; rotate_left 1; (focus (intro w hSw; (try dsimp only at hSw); simp only [List.getElem_toArray, List.getElem_cons_succ, List.getElem_cons_zero]; all_goals go_simp; all_goals (try with_reducible rfl))); (try simp only [Act.put, List.getElem_toArray, List.getElem_cons_succ, List.getElem_cons_zero, List.setIfInBounds_toArray, List.set_cons_zero, List.set_cons_succ])
      refine wpAnyH_take (i := 10) (v := ?_) (by rfl) (by kernel_rfl) (by kernel_rfl) (by kernel_rfl) (fun _ _ _ h => h) (Or.inl ⟨by kernel_rfl, ?_⟩) (by assumption) ?_; rotate_left 1; (focus (intro w hSw; (try dsimp only at hSw); simp only [List.getElem_toArray, List.getElem_cons_succ, List.getElem_cons_zero]; all_goals go_simp; all_goals (try with_reducible rfl))); (try simp only [Act.put, List.getElem_toArray, List.getElem_cons_succ, List.getElem_cons_zero, List.setIfInBounds_toArray, List.set_cons_zero, List.set_cons_succ])
      refine wpAnyH_ready (rs := [11]) (by kernel_rfl) (by simp) ?_; refine AllReadyH.cons (by rfl) (fun K hK => ?_) AllReadyH.nil; rw [if_pos (by kernel_rfl)]; simp only [List.getElem_toArray, List.getElem_cons_succ, List.getElem_cons_zero]
      have HA2 := Lib.hid (fun o => ((Below.refl _ _).alloc (Nat.le_refl _) _ : Below w2.heap.size w2 (w2.alloc o)))
      go_wp2_with fail
      refine hK.out _ _ (HS11.out _ (H2.out.below (HA2.out _)).m0 (HT2.out.1.below (HA2.out _)) (HT2.out.2.1.below (HA2.out _))) (fun hHeld => ?_)
      clear hK K
      (try simp only [Act.put, List.getElem_toArray, List.getElem_cons_succ, List.getElem_cons_zero, List.setIfInBounds_toArray, List.set_cons_zero, List.set_cons_succ])
      refine wpAnyH_ready (rs := [12]) (by kernel_rfl) (by simp) ?_; refine AllReadyH.cons (by rfl) (fun K hK => ?_) AllReadyH.nil; rw [if_pos (by kernel_rfl)]; simp only [List.getElem_toArray, List.getElem_cons_succ, List.getElem_cons_zero]
      go_wp2_with fail
      refine hK.out _ _ (HS11.out _ (H2.out.below (HA2.out _)).m0 (HT2.out.1.below (HA2.out _)) (HT2.out.2.1.below (HA2.out _))) (fun hHeld => ?_)
      clear hK K
      (try simp only [Act.put, List.getElem_toArray, List.getElem_cons_succ, List.getElem_cons_zero, List.setIfInBounds_toArray, List.set_cons_zero, List.set_cons_succ])
      refine wpAnyH_take (i := 13) (v := ?_) (by rfl) (by kernel_rfl) (by kernel_rfl) (by kernel_rfl) (fun _ _ _ h => h) (Or.inl ⟨by kernel_rfl, ?_⟩) (by assumption) ?_; rotate_left 1; (focus (intro w hSw; (try dsimp only at hSw); simp only [List.getElem_toArray, List.getElem_cons_succ, List.getElem_cons_zero]; all_goals go_simp; all_goals (try with_reducible rfl))); (try simp only [Act.put, List.getElem_toArray, List.getElem_cons_succ, List.getElem_cons_zero, List.setIfInBounds_toArray, List.set_cons_zero, List.set_cons_succ])
      refine wpAnyH_done (by kernel_rfl) ?_ _
      refine NoPanic.normal ?_
      go_wp2_with fail
      go_meet
      exact ⟨w2.heap.size, rfl, rfl, H2.out.below (HA2.out _), KeyC.new _ _ _ _ _ _ _, HT2.out.1.below (HA2.out _), HT2.out.2.2.below (HA2.out _), HM2.out.trans (KeepM.of_below (HA2.out _)) rfl, HT2.out.2.2.lt⟩
    · rw [if_pos (by kernel_rfl)]; simp only [List.getElem_toArray, List.getElem_cons_succ, List.getElem_cons_zero]
      go_wp2_with fail
      obtain ⟨wC, hwC⟩ : ∃ wC, wC = (wB.alloc (.cells #[.int .i64 0, .int .i64 0, .int .i64 0, .int .i64 0, .int .u32 0] 42 (0, 0))).drew := ⟨_, rfl⟩
      rw [← hwC]
      have HC1 : Hid (Below wB.heap.size wB wC) := Lib.hid (by rw [hwC]; exact ((Below.refl _ _).alloc (Nat.le_refl _) _ : Below wB.heap.size wB _).drew)
      have HBC : Hid (Below w.heap.size w wC) := Lib.hid (HB0.out.trans (HC1.out.mono HB0.out.size))
      have HKb : Hid (KeyC wC wB.heap.size 0 0 0 0 0) := Lib.hid (by rw [hwC]; exact (KeyC.new _ _ _ _ _ _ _).below (Below.refl _ _).drew)
      have H1c := Lib.hid (H.out.below HBC.out)
      have HTc : Hid (KeyC wC kb 2 k k2 k3 k4 ∧ KeyC wC xb x0 x1 x2 x3 x4 ∧ KeyC wC rb 0 0 0 0 0) := Lib.hid ⟨HT0.out.1.below HC1.out, HT0.out.2.1.below HC1.out, HT0.out.2.2.below HC1.out⟩
      obtain ⟨bb, hbb⟩ : ∃ bb, Hid (wB.heap.size = bb) := ⟨_, Lib.hid rfl⟩
      have HRb : Hid (rb < bb) := Lib.hid (by rw [← hbb.out]; exact HT0.out.2.2.lt)
      rw [hbb.out] at HKb ⊢
      clear hwC
      refine hK.out _ _ (HS11.out _ H1c.out.m0 HTc.out.1 HTc.out.2.1) (fun hHeld => ?_)
      clear hK K
      (try simp only [Act.put, List.getElem_toArray, List.getElem_cons_succ, List.getElem_cons_zero, List.setIfInBounds_toArray, List.set_cons_zero, List.set_cons_succ])
      have HCF := Lib.hid (sswap_ok vs vr k k2 k3 k4 j hk hj hth ht hb0 hb5 y0 y1 y2 y3 y4 x0 x1 x2 x3 x4 hy hx hcell _ (HE.out.below HBC.out) H1c.out.sv.st)
      refine wpAnyH_ready (rs := [7]) (by kernel_rfl) (by simp) ?_; refine AllReadyH.cons (by rfl) (fun K hK => ?_) AllReadyH.nil; rw [if_pos (by kernel_rfl)]; simp only [List.getElem_toArray, List.getElem_cons_succ, List.getElem_cons_zero]
      go_wp2_with (first
        | (go_at_call 175; (with_reducible refine HCF.out.mono ?_); rintro e w2 ⟨rfl, hM, hb⟩; have H2 := Lib.hid (H1c.out.nodeX (st_sv (w0 := w0) (w := w) (W := W) hM) hb); have HT2 : Hid (KeyC w2 kb 2 k k2 k3 k4 ∧ KeyC w2 xb x0 x1 x2 x3 x4 ∧ KeyC w2 rb 0 0 0 0 0 ∧ KeyC w2 bb 0 0 0 0 0) := Lib.hid (by have := H1.out.lo.n; have := HBs.out; have := HCl.out; have := HRb.out; exact ⟨HTc.out.1.pbelow hb (by omega) (by omega), HTc.out.2.1.pbelow hb (by omega) (by omega), HTc.out.2.2.pbelow hb (by omega) (by omega), HKb.out.pbelow hb (by omega) (by omega)⟩); have HM2 : Hid (KeepM w w2 N cb v) := Lib.hid ((KeepM.of_below HBC.out).trans (KeepM.of_pbelow hb (by have := H1.out.lo.n; omega) (by have := H1.out.lo.n; omega)) rfl); clear HCF hM hb))
      refine hK.out _ _ (HS11.out _ H2.out.m0 HT2.out.1 HT2.out.2.1) (fun hHeld => ?_)
      clear hK K
      (try simp only [Act.put, List.getElem_toArray, List.getElem_cons_succ, List.getElem_cons_zero, List.setIfInBounds_toArray, List.set_cons_zero, List.set_cons_succ])
      refine wpAnyH_take (i := 8) (v := ?_) (by rfl) (by kernel_rfl) (by kernel_rfl) (by kernel_rfl) (fun _ _ _ h => h) (Or.inl ⟨by kernel_rfl, ?_⟩) (by assumption) ?_; rotate_left 1; (focus (intro w hSw; (try dsimp only at hSw); simp only [List.getElem_toArray, List.getElem_cons_succ, List.getElem_cons_zero]; all_goals go_simp; all_goals (try with_reducible rfl))); (try simp only [Act.put, List.getElem_toArray, List.getElem_cons_succ, List.getElem_cons_zero, List.setIfInBounds_toArray, List.set_cons_zero, List.set_cons_succ])
      refine wpAnyH_take (i := 9) (v := ?_) (by rfl) (by kernel_rfl) (by kernel_rfl) (by kernel_rfl) (fun _ _ _ h => h) (Or.inl ⟨by kernel_rfl, ?_⟩) (by assumption) ?_; rotate_left 1; (focus (intro w hSw; (try dsimp only at hSw); simp only [List.getElem_toArray, List.getElem_cons_succ, List.getElem_cons_zero]; all_goals go_simp; all_goals (try with_reducible rfl))); (try simp only [Act.put, List.getElem_toArray, List.getElem_cons_succ, List.getElem_cons_zero, List.setIfInBounds_toArray, List.set_cons_zero, List.set_cons_succ])
      refine wpAnyH_take (i := 10) (v := ?_) (by rfl) (by kernel_rfl) (by kernel_rfl) (by kernel_rfl) (fun _ _ _ h => h) (Or.inl ⟨by kernel_rfl, ?_⟩) (by assumption) ?_; rotate_left 1; (focus (intro w hSw; (try dsimp only at hSw); simp only [List.getElem_toArray, List.getElem_cons_succ, List.getElem_cons_zero]; all_goals go_simp; all_goals (try with_reducible rfl))); (try simp only [Act.put, List.getElem_toArray, List.getElem_cons_succ, List.getElem_cons_zero, List.setIfInBounds_toArray, List.set_cons_zero, List.set_cons_succ])
      refine wpAnyH_ready (rs := [12]) (by kernel_rfl) (by simp) ?_; refine AllReadyH.cons (by rfl) (fun K hK => ?_) AllReadyH.nil; rw [if_pos (by kernel_rfl)]; simp only [List.getElem_toArray, List.getElem_cons_succ, List.getElem_cons_zero]
      have z0 := HT2.out.2.2.2.c0
      have z1 := HT2.out.2.2.2.c1
      have z2 := HT2.out.2.2.2.c2
      have z3 := HT2.out.2.2.2.c3
      have z4 := HT2.out.2.2.2.c4
      have f0 := HT2.out.2.2.2.fr 0
      have f1 := HT2.out.2.2.2.fr 1
      have f2 := HT2.out.2.2.2.fr 2
      have f3 := HT2.out.2.2.2.fr 3
      have f4 := HT2.out.2.2.2.fr 4
      go_wp2_with fail
      have HKZ := Lib.hid (HT2.out.2.2.2.set y0 y1 y2 y3 y4)
      have HP5 : Hid (∀ q, q ≠ bb → (((((w2.setCell ⟨bb, 0, none⟩ (.int .i64 y0)).setCell ⟨bb, 1, none⟩ (.int .i64 y1)).setCell ⟨bb, 2, none⟩ (.int .i64 y2)).setCell ⟨bb, 3, none⟩ (.int .i64 y3)).setCell ⟨bb, 4, none⟩ (.int .u32 y4)).heap[q]? = w2.heap[q]?) := Lib.hid (fun q hq => by rw [set_heap _ _ _ _ _ hq, set_heap _ _ _ _ _ hq, set_heap _ _ _ _ _ hq, set_heap _ _ _ _ _ hq, set_heap _ _ _ _ _ hq])
      have hvb : v.ownBlock ≠ some bb := fun e => by have := HOw.out _ e; have := HBs.out; have := HRb.out; omega
      have H5 := Lib.hid (H2.out.put5 bb (by have := HCl.out; have := HBs.out; have := HRb.out; omega) (by have := HCl.out; have := HBs.out; have := HRb.out; omega) (by have := HCl.out; have := HBs.out; have := HRb.out; omega) hvb (HNB.out bb (by have := HBs.out; have := HRb.out; omega)) (.int .i64 y0) (.int .i64 y1) (.int .i64 y2) (.int .i64 y3) (.int .u32 y4))
      have HKk := Lib.hid (HT2.out.1.same' (by simp) (HP5.out kb (by have := HBs.out; have := HRb.out; omega)))
      have HKx := Lib.hid (HT2.out.2.1.same' (by simp) (HP5.out xb (by have := HBs.out; have := HRb.out; omega)))
      have HKr := Lib.hid (HT2.out.2.2.1.same' (by simp) (HP5.out rb (by have := HRb.out; omega)))
      refine hK.out _ _ (HS11.out _ H5.out.m0 HKk.out HKx.out) (fun hHeld => ?_)
      clear hK K
      (try simp only [Act.put, List.getElem_toArray, List.getElem_cons_succ, List.getElem_cons_zero, List.setIfInBounds_toArray, List.set_cons_zero, List.set_cons_succ])
      refine wpAnyH_take (i := 13) (v := ?_) (by rfl) (by kernel_rfl) (by kernel_rfl) (by kernel_rfl) (fun _ _ _ h => h) (Or.inl ⟨by kernel_rfl, ?_⟩) (by assumption) ?_; rotate_left 1; (focus (intro w hSw; (try dsimp only at hSw); simp only [List.getElem_toArray, List.getElem_cons_succ, List.getElem_cons_zero]; all_goals go_simp; all_goals (try with_reducible rfl))); (try simp only [Act.put, List.getElem_toArray, List.getElem_cons_succ, List.getElem_cons_zero, List.setIfInBounds_toArray, List.set_cons_zero, List.set_cons_succ])
      refine wpAnyH_done (by kernel_rfl) ?_ _
      refine NoPanic.normal ?_
      go_wp2_with fail
      go_meet
      exact ⟨bb, rfl, rfl, H5.out, HKZ.out, HKk.out, HKr.out, ⟨by have := HM2.out.1; simpa using this, fun q hqN hq hqc hqv => (HP5.out q (by have := HBs.out; have := HRb.out; omega)).trans (HM2.out.2 q hqN hq hqc hqv)⟩, HRb.out⟩
  case rest =>
    obtain ⟨bb, rfl, rfl, hmx, hky, hkk, hkr, hkm, hbr⟩ := hcut
    have H2 := Lib.hid hmx
    have HKY := Lib.hid hky
    have HKK := Lib.hid hkk
    have HKR := Lib.hid hkr
    have HM2 := Lib.hid hkm
    have HRb := Lib.hid hbr
    clear hmx hky hkk hkr hkm hbr H1 HE1 HT HT0 HS11
    go_upto_region 3 with fail
    have HD2 := Lib.hid (H2.out.below (Below.refl wc.heap.size wc).drew)
    have HKD := Lib.hid (HKK.out.below (Below.refl wc.heap.size wc).drew)
    have hw3 := (Below.refl wc.heap.size wc).drew
    refine wp_region_noPanic ?_
    refine wp_region_held_drew (S := fun w' => World.cell? w' ⟨mb, 1, none⟩ = some (.pointer (some ⟨cb, 0, none⟩)) ∧ World.cell? w' ⟨kb, 1, none⟩ = some (.int .i64 k)) (by kernel_rfl) ⟨HD2.out.m1, HKD.out.c1⟩ (fun hHeld => ?_)
    refine wpAnyH_take (i := 0) (v := ?_) (by rfl) (by kernel_rfl) (by kernel_rfl) (by kernel_rfl) (fun _ _ _ h => h) (Or.inl ⟨by kernel_rfl, ?_⟩) (by assumption) ?_; rotate_left 1; (focus (intro w hSw; (try dsimp only at hSw); simp only [List.getElem_toArray, List.getElem_cons_succ, List.getElem_cons_zero]; all_goals go_simp; all_goals (try with_reducible rfl))); (try simp only [Act.put, List.getElem_toArray, List.getElem_cons_succ, List.getElem_cons_zero, List.setIfInBounds_toArray, List.set_cons_zero, List.set_cons_succ])
    refine wpAnyH_take (i := 1) (v := ?_) (by rfl) (by kernel_rfl) (by kernel_rfl) (by kernel_rfl) (fun _ _ _ h => h) (Or.inl ⟨by kernel_rfl, ?_⟩) (by assumption) ?_; rotate_left 1; (focus (intro w hSw; (try dsimp only at hSw); simp only [List.getElem_toArray, List.getElem_cons_succ, List.getElem_cons_zero]; all_goals go_simp; all_goals (try with_reducible rfl))); (try simp only [Act.put, List.getElem_toArray, List.getElem_cons_succ, List.getElem_cons_zero, List.setIfInBounds_toArray, List.set_cons_zero, List.set_cons_succ])
    refine wpAnyH_take (i := 2) (v := ?_) (by rfl) (by kernel_rfl) (by kernel_rfl) (by kernel_rfl) (fun _ _ _ h => h) (Or.inl ⟨by kernel_rfl, ?_⟩) (by assumption) ?_; rotate_left 1; (focus (intro w hSw; (try dsimp only at hSw); simp only [List.getElem_toArray, List.getElem_cons_succ, List.getElem_cons_zero]; all_goals go_simp; all_goals (try with_reducible rfl))); (try simp only [Act.put, List.getElem_toArray, List.getElem_cons_succ, List.getElem_cons_zero, List.setIfInBounds_toArray, List.set_cons_zero, List.set_cons_succ])
    refine wpAnyH_take (i := 3) (v := ?_) (by rfl) (by kernel_rfl) (by kernel_rfl) (by kernel_rfl) (fun _ _ _ h => h) (Or.inl ⟨by kernel_rfl, ?_⟩) (by assumption) ?_; rotate_left 1; (focus (intro w hSw; (try dsimp only at hSw); simp only [List.getElem_toArray, List.getElem_cons_succ, List.getElem_cons_zero]; all_goals go_simp; all_goals (try with_reducible rfl))); (try simp only [Act.put, List.getElem_toArray, List.getElem_cons_succ, List.getElem_cons_zero, List.setIfInBounds_toArray, List.set_cons_zero, List.set_cons_succ])
    refine wpAnyH_take (i := 4) (v := ?_) (by rfl) (by kernel_rfl) (by kernel_rfl) (by kernel_rfl) (fun _ _ _ h => h) (Or.inl ⟨by kernel_rfl, ?_⟩) (by assumption) ?_; rotate_left 1; (focus (intro w hSw; (try dsimp only at hSw); simp only [List.getElem_toArray, List.getElem_cons_succ, List.getElem_cons_zero]; all_goals go_simp; all_goals (try with_reducible rfl))); (try simp only [Act.put, List.getElem_toArray, List.getElem_cons_succ, List.getElem_cons_zero, List.setIfInBounds_toArray, List.set_cons_zero, List.set_cons_succ])
    refine wpAnyH_take (i := 5) (v := ?_) (by rfl) (by kernel_rfl) (by kernel_rfl) (by kernel_rfl) (fun _ _ _ h => h) (Or.inl ⟨by kernel_rfl, ?_⟩) (by assumption) ?_; rotate_left 1; (focus (intro w hSw; (try dsimp only at hSw); simp only [List.getElem_toArray, List.getElem_cons_succ, List.getElem_cons_zero]; all_goals go_simp; all_goals (try with_reducible rfl))); (try simp only [Act.put, List.getElem_toArray, List.getElem_cons_succ, List.getElem_cons_zero, List.setIfInBounds_toArray, List.set_cons_zero, List.set_cons_succ])
    refine wpAnyH_ready (rs := [6]) (by kernel_rfl) (by simp) ?_; refine AllReadyH.cons (by rfl) (fun K hK => ?_) AllReadyH.nil; rw [if_pos (by kernel_rfl)]; simp only [List.getElem_toArray, List.getElem_cons_succ, List.getElem_cons_zero]
    have HAd : Hid (∀ o, Below wc.heap.size wc ((wc.alloc o).drew)) := Lib.hid (fun o => ((Below.refl wc.heap.size wc).alloc (Nat.le_refl _) o).drew)
    go_wp2_with fail
    obtain ⟨wF, hwF⟩ : ∃ wF, wF = (wc.alloc (.cells #[.int .i64 k] 3 (0, 0))).drew := ⟨_, rfl⟩
    rw [← hwF]
    have HBF : Hid (Below wc.heap.size wc wF) := Lib.hid (by rw [hwF]; exact HAd.out _)
    have HRN : Hid (RN wF wc.heap.size 1 [(k : Int)]) := Lib.hid (by rw [hwF]; exact fun i hi => ((Below.refl (wc.alloc (.cells #[.int .i64 (k : Int)] 3 (0, 0))).heap.size (wc.alloc (.cells #[.int .i64 (k : Int)] 3 (0, 0)))).drew.cell (p := ⟨wc.heap.size, i, none⟩) (by simp)).trans (rn1 wc k i hi))
    have HSz : Hid (wc.heap.size < wF.heap.size) := Lib.hid (by rw [hwF]; simp)
    have HF := Lib.hid (H2.out.below HBF.out)
    have HKF := Lib.hid (HKK.out.below HBF.out)
    refine hK.out _ _ ⟨HF.out.m1, HKF.out.c1⟩ (fun hHeld => ?_)
    clear hK K hwF
    (try simp only [Act.put, List.getElem_toArray, List.getElem_cons_succ, List.getElem_cons_zero, List.setIfInBounds_toArray, List.set_cons_zero, List.set_cons_succ])
    have HGn : Hid (v.ownBlock ≠ some wc.heap.size) := Lib.hid (fun e => by have := HOw.out _ e; have := HM2.out.1; omega)
    have HIds := Lib.hid (ways_ids H.out.ok)
    have HCF := Lib.hid (fun c' => cforget_is wc.heap.size c' [(k : Int)] 1 (Lib.hid rfl) (by decide) hm.out HIds _ HF.out.ca HF.out.nN HSz.out HGn.out HRN)
    refine wpAnyH_ready (rs := [7]) (by kernel_rfl) (by simp) ?_; refine AllReadyH.cons (by rfl) (fun K hK => ?_) AllReadyH.nil; rw [if_pos (by kernel_rfl)]; simp only [List.getElem_toArray, List.getElem_cons_succ, List.getElem_cons_zero]
    go_wp2_with (first
      | (go_at_call 176; (with_reducible refine (HCF.out _).mono ?_); rintro e w3 ⟨rfl, v3, hc, hb, hk, hv⟩; have H3 := Lib.hid (HF.out.found hb hc (ways_off_set k H.out.ok (fun q hq i z0 z1 z2 z3 z4 hz => updV_rest W k j q i x0 x1 x2 x3 x4 (fun e' => hq e'.1) hz)) hk hv); have HM3 := Lib.hid (HM2.out.trans ((KeepM.of_below HBF.out).trans (KeepM.of_keepB hk) rfl) rfl); have HK3 : Hid (KeyC w3 bb y0 y1 y2 y3 y4 ∧ KeyC w3 rb 0 0 0 0 0 ∧ KeyC w3 kb 2 k k2 k3 k4) := Lib.hid (by have := HBs.out; have := HRb.out; have := HCl.out; have := HOw.out; exact ⟨(HKY.out.below HBF.out).keepB2 hk ⟨by omega, fun e => by have := HOw.out _ e; omega⟩, (HKR.out.below HBF.out).keepB2 hk ⟨by omega, fun e => by have := HOw.out _ e; omega⟩, HKF.out.keepB2 hk ⟨by omega, fun e => by have := HOw.out _ e; omega⟩⟩); have HV := Lib.hid hv; clear HCF hc hb hk hv))
    refine hK.out _ _ ⟨H3.out.m1, HK3.out.2.2.c1⟩ (fun hHeld => ?_)
    clear hK K
    (try simp only [Act.put, List.getElem_toArray, List.getElem_cons_succ, List.getElem_cons_zero, List.setIfInBounds_toArray, List.set_cons_zero, List.set_cons_succ])
    refine wpAnyH_done (by kernel_rfl) ?_ _
    refine NoPanic.normal ?_
    have y0' := HK3.out.1.c0
    have y1' := HK3.out.1.c1
    have y2' := HK3.out.1.c2
    have y3' := HK3.out.1.c3
    have y4' := HK3.out.1.c4
    have z0 := HK3.out.2.1.c0
    have z1 := HK3.out.2.1.c1
    have z2 := HK3.out.2.1.c2
    have z3 := HK3.out.2.1.c3
    have z4 := HK3.out.2.1.c4
    have f0 := HK3.out.2.1.fr 0
    have f1 := HK3.out.2.1.fr 1
    have f2 := HK3.out.2.1.fr 2
    have f3 := HK3.out.2.1.fr 3
    have f4 := HK3.out.2.1.fr 4
    clear hw3
    go_wp2_with fail
    have t := HK3.out.2.1.set y0 y1 y2 y3 y4
    have t0 := t.c0
    have t1 := t.c1
    have t2 := t.c2
    have t3 := t.c3
    have t4 := t.c4
    have hvr : v3.ownBlock ≠ some rb := fun e => by rw [HV.out] at e; have := HOw.out _ e; have := HBs.out; omega
    have r1 : N ≤ rb := by have := HCl.out; have := HBs.out; omega
    have r2 : cb ≠ rb := by have := HCl.out; have := HBs.out; omega
    have r3 : mb ≠ rb := by have := HCl.out; have := HBs.out; omega
    refine bodyPost_ret (v := .tuple #[(Value.agg #[.int .i64 y0, .int .i64 y1, .int .i64 y2, .int .i64 y3, .int .u32 y4]), .nilIface]) (by simp [results, Tryz.results138, go_sem, t0, t1, t2, t3, t4]) rfl ⟨rfl, v3, ((((H3.out.put rb 0 r1 r2 r3 hvr (off_no HNo.out) _).put rb 1 r1 r2 r3 hvr (off_no HNo.out) _).put rb 2 r1 r2 r3 hvr (off_no HNo.out) _).put rb 3 r1 r2 r3 hvr (off_no HNo.out) _).put rb 4 r1 r2 r3 hvr (off_no HNo.out) _, ⟨by have := HM3.out.1; simpa using this, fun q hqN hq hqc hqv => ?_⟩, HV.out⟩
    have hqr : q ≠ rb := by have := HBs.out; omega
    rw [set_heap _ _ _ _ _ hqr, set_heap _ _ _ _ _ hqr, set_heap _ _ _ _ _ hqr, set_heap _ _ _ _ _ hqr, set_heap _ _ _ _ _ hqr]
    exact HM3.out.2 q hqN hq hqc hqv
end Go.Proofs.YtncopdhhchmpeaaGreatDoor
namespace Go.Proofs.YtncopdhhchmpeaaGreatDoor
open Go.ChangeShapes Go.WideShapes Go.ChangeAt Go.RowKit
set_option linter.unusedVariables false
set_option linter.unusedSimpArgs false
section
variable {w0 : World} {L : BLoc} {s sb N9 : Nat} {D : BSt} {nt : List Value} {A : Nat → Addr}
theorem nc5_one (a b c d e : Int) : ∀ v, v ∈ ([.int .u32 0, .int .u32 0, .int .u32 0, .int .u32 0, .int .i64 a, .int .i64 b, .int .i64 c, .int .i64 d, .int .u32 e, .int .i64 0, .int .i64 0, .int .i64 0, .int .i64 0, .int .u32 0, .int .i64 0, .int .i64 0, .int .i64 0, .int .i64 0, .int .u32 0] : List Value) → v.oneCell' = true := by simp [Value.oneCell']
set_option maxHeartbeats 1000000 in
theorem ask_swap (m0 m1 m2 m3 m4 : Int) (r0 r1 r2 r3 r4 : Int) (hnt : nt = ([.int .u32 0, .int .u32 0, .int .u32 0, .int .u32 0, .int .i64 r0, .int .i64 r1, .int .i64 r2, .int .i64 r3, .int .u32 r4, .int .i64 0, .int .i64 0, .int .i64 0, .int .i64 0, .int .u32 0, .int .i64 0, .int .i64 0, .int .i64 0, .int .i64 0, .int .u32 0] : List Value)) (vs vr : Value) (w : World) (hE0 : ErrsAt vs vr w0) (h6 : E6 A w0) (h : SM w0 w L s sb N9 D) (v : Int) (hr : Hid (rightB 2 0 v 0 0 = true)) (hl : Hid (liveB L.a L.b D.nt D.nv D.pt D.pv 2 0 v = true)) (j : Nat) (hj : j < 16) (hn : 0 < L.a.n) (ht : D.nt 0 = true)
    (hy : KAt (D.nW 0) j r0 r1 r2 r3 r4) (hx : Hid (rightB m0 m1 m2 m3 m4 = true)) (hcell : ∀ j, j < 80 → (D.nW 0 j).oneCell' = true)
    (hm : ∀ W, Below w.heap.size w W → Calls Tryz.prog 23 #[.pointer (some ⟨s, 0, none⟩), (Value.agg #[.int .i64 m0, .int .i64 m1, .int .i64 m2, .int .i64 m3, .int .u32 m4])] W fun e w' => e = .returned (Value.agg #[.int .i64 m0, .int .i64 m1, .int .i64 m2, .int .i64 m3, .int .u32 m4]) ∧ Below W.heap.size W w')
    (hz : ∀ D' W, D'.pt = D.pt → D'.pv = D.pv → D'.nt = D.nt → D'.nv = D.nv → SM w0 W L s sb N9 D' → Calls Tryz.prog 23 #[.pointer (some ⟨s, 0, none⟩), (Value.agg #[.int .i64 r0, .int .i64 r1, .int .i64 r2, .int .i64 r3, .int .u32 r4])] W fun e w' => e = .returned (Value.agg #[.int .i64 r0, .int .i64 r1, .int .i64 r2, .int .i64 r3, .int .u32 r4]) ∧ Below W.heap.size W w') :
    Calls Tryz.prog 35 #[(Value.agg #[.int .i64 2, .int .i64 0, .int .i64 v, .int .i64 0, .int .u32 0]), .int .u32 1, .int .u32 (j : Int), .int .u32 0, (Value.agg #[.int .i64 m0, .int .i64 m1, .int .i64 m2, .int .i64 m3, .int .u32 m4]), .pointer (some ⟨sb, 0, none⟩)] w fun e w' => e = .returned (.agg nt.toArray) ∧ SM w0 w' L s sb N9 { D with nW := updV D.nW 0 (j * 5) (k5 m0 m1 m2 m3 m4) } ∧ UpT N9 w w' := by
  have hE := hE0.below h.m.sv.bel
  have hnl : nt.length = 19 := by rw [hnt]; rfl
  have hn1 : ∀ v, v ∈ nt → v.oneCell' = true := by rw [hnt]; exact nc5_one r0 r1 r2 r3 r4
  refine ask_node (Q := fun w' => SM w0 w' L s sb N9 { D with nW := updV D.nW 0 (j * 5) (k5 m0 m1 m2 m3 m4) }) hnl hn1 0 v 0 0 m0 m1 m2 m3 m4 1 j 0 vs vr w hE h h.lo.2.2.2.2.2.2 hr hl hm (fun w1 w2 h1 h2 => h1.low h2) (fun cs hc hj' W hW => ?_)
  have hM := h.below hW
  refine cnode_1 (mb := L.mb) hnl hn1 m0 m1 m2 m3 m4 0 0 0 0 0 r0 r1 r2 r3 r4 r0 r1 r2 r3 r4 (Lib.hid hc.out.toCallC) hj' (by omega) (by omega) .nilIface W hM.lo.2.2.2.2.2.2 hM.c (fun w1 w2 h1 h2 => h1.low h2) (fun V hV => hV.c) (fun V hV => ?_) (fun V hV => hz { D with nW := updV D.nW 0 (j * 5) (k5 m0 m1 m2 m3 m4) } V rfl rfl rfl rfl hV) (fun V hV => ?_)
  · have hMV := hM.below hV
    refine (mswap_ok vs vr 0 v 0 0 j j (Lib.hid rfl) hn hj (Lib.hid ht) hl (Lib.hid (by decide)) (Lib.hid (by decide)) r0 r1 r2 r3 r4 m0 m1 m2 m3 m4 (Lib.hid hy) hx (Lib.hid hcell) (Lib.hid (by simp)) V (hE0.below hMV.m.sv.bel) hMV.m).mono ?_
    rintro e w' ⟨rfl, v', hm', hk', hv'⟩
    exact ⟨rfl, hMV.swap (by simpa [offE] using hm') hk' (by rw [hv']; rfl)⟩
  · rw [hnt]; exact otold_nil _ rfl (nc5_one r0 r1 r2 r3 r4) V
set_option maxHeartbeats 1000000 in
theorem ask_fetch (y0 y1 y2 y3 y4 : Int) (r0 r1 r2 r3 r4 : Int) (hnt : nt = ([.int .u32 0, .int .u32 0, .int .u32 0, .int .u32 0, .int .i64 r0, .int .i64 r1, .int .i64 r2, .int .i64 r3, .int .u32 r4, .int .i64 0, .int .i64 0, .int .i64 0, .int .i64 0, .int .u32 0, .int .i64 0, .int .i64 0, .int .i64 0, .int .i64 0, .int .u32 0] : List Value)) (vs vr : Value) (w : World) (hE0 : ErrsAt vs vr w0) (h6 : E6 A w0) (h : SM w0 w L s sb N9 D) (k3 : Int) (v : Int) (hr : Hid (rightB 2 0 v k3 0 = true)) (hl : Hid (liveB L.a L.b D.nt D.nv D.pt D.pv 2 0 v = true)) (hb0 : bits BinOp.and IntKind.i64 k3 2 = 0) (j : Nat) (hj : j < 16) (hn : 0 < L.a.n) (ht : D.nt 0 = true)
    (hy : KAt (D.nW 0) j y0 y1 y2 y3 y4)
    (hT : Hid (∀ w, Calls Tryz.prog 174 #[.int .i64 k3, (Value.agg #[.int .i64 y0, .int .i64 y1, .int .i64 y2, .int .i64 y3, .int .u32 y4])] w fun e w' => e = .returned (Value.agg #[.int .i64 r0, .int .i64 r1, .int .i64 r2, .int .i64 r3, .int .u32 r4]) ∧ Below w.heap.size w w')) (hz : (∀ W, SM w0 W L s sb N9 D → Calls Tryz.prog 23 #[.pointer (some ⟨s, 0, none⟩), (Value.agg #[.int .i64 r0, .int .i64 r1, .int .i64 r2, .int .i64 r3, .int .u32 r4])] W fun e w' => e = .returned (Value.agg #[.int .i64 r0, .int .i64 r1, .int .i64 r2, .int .i64 r3, .int .u32 r4]) ∧ Below W.heap.size W w')) :
    Calls Tryz.prog 35 #[(Value.agg #[.int .i64 2, .int .i64 0, .int .i64 v, .int .i64 k3, .int .u32 0]), .int .u32 0, .int .u32 (j : Int), .int .u32 0, (Value.agg #[.int .i64 0, .int .i64 0, .int .i64 0, .int .i64 0, .int .u32 0]), .pointer (some ⟨sb, 0, none⟩)] w fun e w' => e = .returned (.agg nt.toArray) ∧ Below w.heap.size w w' := by
  have hE := hE0.below h.m.sv.bel
  have hnl : nt.length = 19 := by rw [hnt]; rfl
  have hn1 : ∀ v, v ∈ nt → v.oneCell' = true := by rw [hnt]; exact nc5_one r0 r1 r2 r3 r4
  refine (ask_node (Q := fun w' => Below w.heap.size w w') hnl hn1 0 v k3 0 0 0 0 0 0 0 j 0 vs vr w hE h (Nat.le_refl _) hr hl (fun W hW => oseen_void s vs vr W (hE.below hW)) (fun w1 w2 h1 h2 => h1.trans h2) (fun cs hc hj' W hW => ?_)).mono (fun e w' h9 => ⟨h9.1, h9.2.1⟩)
  have hM := h.below hW
  refine (cnode_0 (mb := L.mb) (S := L.S) hnl hn1 (Lib.hid hc.out.toCallC) (by omega) (by omega) r0 r1 r2 r3 r4 r0 r1 r2 r3 r4 .nilIface W hM.c hM.m.m0 (fun V hV => ?_) (fun V hV => hz V (hM.below hV)) (fun V hV => ?_)).mono (fun e w' h9 => ⟨h9.1, hW.trans (h9.2.mono hW.size), UpT.below h9.2⟩)
  · exact sfetch_ok 0 0 v k3 0 j j rfl rfl hn hj (Lib.hid ht) hl hb0 y0 y1 y2 y3 y4 r0 r1 r2 r3 r4 (Lib.hid hy) hT V (hM.below hV).m.sv.st
  · rw [hnt]; exact otold_nil _ rfl (nc5_one r0 r1 r2 r3 r4) V
set_option maxHeartbeats 1000000 in
theorem ask_fetch_bad (hnt : nt = [.int .u32 4, .int .u32 0, .int .u32 0, .int .u32 0, .int .i64 0, .int .i64 0, .int .i64 0, .int .i64 0, .int .u32 0, .int .i64 0, .int .i64 0, .int .i64 0, .int .i64 0, .int .u32 0, .int .i64 0, .int .i64 0, .int .i64 0, .int .i64 0, .int .u32 0]) (vs vr : Value) (w : World) (hE0 : ErrsAt vs vr w0) (h6 : E6 A w0) (h : SM w0 w L s sb N9 D) (k3 : Int) (v : Int) (hr : Hid (rightB 2 0 v k3 0 = true)) (hl : Hid (liveB L.a L.b D.nt D.nv D.pt D.pv 2 0 v = true)) (hb0 : Hid ((bits BinOp.and IntKind.i64 k3 2 == 0) = false)) (j : Nat) (hj : j < 16) :
    Calls Tryz.prog 35 #[(Value.agg #[.int .i64 2, .int .i64 0, .int .i64 v, .int .i64 k3, .int .u32 0]), .int .u32 0, .int .u32 (j : Int), .int .u32 0, (Value.agg #[.int .i64 0, .int .i64 0, .int .i64 0, .int .i64 0, .int .u32 0]), .pointer (some ⟨sb, 0, none⟩)] w fun e w' => e = .returned (.agg nt.toArray) ∧ Below w.heap.size w w' := by
  have hE := hE0.below h.m.sv.bel
  have hnl : nt.length = 19 := by rw [hnt]; rfl
  have hn1 : ∀ v, v ∈ nt → v.oneCell' = true := by rw [hnt]; exact nwc_one 4 0 0 0
  refine (ask_node (Q := fun w' => Below w.heap.size w w') hnl hn1 0 v k3 0 0 0 0 0 0 0 j 0 vs vr w hE h (Nat.le_refl _) hr hl (fun W hW => oseen_void s vs vr W (hE.below hW)) (fun w1 w2 h1 h2 => h1.trans h2) (fun cs hc hj' W hW => ?_)).mono (fun e w' h9 => ⟨h9.1, h9.2.1⟩)
  have hM := h.below hW
  refine (cnode_0 (mb := L.mb) (S := L.S) hnl hn1 (Lib.hid hc.out.toCallC) (by omega) (by omega) 0 0 0 0 0 0 0 0 0 0 (eV (A 8)) W hM.c hM.m.m0 (fun V hV => ?_) (fun V hV => oseen_void s vs vr V (hE0.below (hM.below hV).m.sv.bel)) (fun V hV => ?_)).mono (fun e w' h9 => ⟨h9.1, hW.trans (h9.2.mono hW.size), UpT.below h9.2⟩)
  · have hMV := hM.below hV
    exact sfetch_right 0 v k3 0 j hl hb0 (A 8) V hMV.m.sv.st ((h6.at hMV).c _ (by decide)) (Nat.lt_of_lt_of_le (h6.len _ (by decide)) hMV.m.sv.bel.size)
  · rw [hnt]; exact otold_right _ A V (h6.at (hM.below hV))
set_option maxHeartbeats 1000000 in
theorem ask_swap_bad (hnt : nt = [.int .u32 4, .int .u32 0, .int .u32 0, .int .u32 0, .int .i64 0, .int .i64 0, .int .i64 0, .int .i64 0, .int .u32 0, .int .i64 0, .int .i64 0, .int .i64 0, .int .i64 0, .int .u32 0, .int .i64 0, .int .i64 0, .int .i64 0, .int .i64 0, .int .u32 0]) (vs vr : Value) (w : World) (hE0 : ErrsAt vs vr w0) (h6 : E6 A w0) (h : SM w0 w L s sb N9 D) (k3 : Int) (v : Int) (hr : Hid (rightB 2 0 v k3 0 = true)) (hl : Hid (liveB L.a L.b D.nt D.nv D.pt D.pv 2 0 v = true)) (j : Nat) (hj : j < 16)
    (hB : (bits BinOp.and IntKind.i64 k3 2 == 0) = false ∨ (bits BinOp.and IntKind.i64 k3 2 = 0 ∧ (bits BinOp.and IntKind.i64 k3 5 == 0) = false)) :
    Calls Tryz.prog 35 #[(Value.agg #[.int .i64 2, .int .i64 0, .int .i64 v, .int .i64 k3, .int .u32 0]), .int .u32 1, .int .u32 (j : Int), .int .u32 0, (Value.agg #[.int .i64 0, .int .i64 0, .int .i64 0, .int .i64 0, .int .u32 0]), .pointer (some ⟨sb, 0, none⟩)] w fun e w' => e = .returned (.agg nt.toArray) ∧ Below w.heap.size w w' := by
  have hE := hE0.below h.m.sv.bel
  have hnl : nt.length = 19 := by rw [hnt]; rfl
  have hn1 : ∀ v, v ∈ nt → v.oneCell' = true := by rw [hnt]; exact nwc_one 4 0 0 0
  refine (ask_node (Q := fun w' => Below w.heap.size w w') hnl hn1 0 v k3 0 0 0 0 0 0 1 j 0 vs vr w hE h (Nat.le_refl _) hr hl (fun W hW => oseen_void s vs vr W (hE.below hW)) (fun w1 w2 h1 h2 => h1.trans h2) (fun cs hc hj' W hW => ?_)).mono (fun e w' h9 => ⟨h9.1, h9.2.1⟩)
  have hM := h.below hW
  refine cnode_1 (mb := L.mb) (Q := fun w' => Below w.heap.size w w') hnl hn1 0 0 0 0 0 0 0 0 0 0 0 0 0 0 0 0 0 0 0 0 (Lib.hid hc.out.toCallC) hj' (by omega) (by omega) (eV (A 8)) W hW.size hM.c (fun w1 w2 h1 h2 => h1.trans h2) (fun V hV => (h.below hV).c) (fun V hV => ?_) (fun V hV => oseen_void s vs vr V (hE.below hV)) (fun V hV => ?_)
  · have hMV := hM.below hV
    have hWV := hW.trans (hV.mono hW.size)
    refine (mswap_bad L.mb L.S 2 0 v k3 0 0 0 0 0 0 j (A 8) V hMV.m.m0 (fun U hU => ?_)).mono (fun e w' h9 => ⟨h9.1, hWV.trans (h9.2.mono hWV.size), UpT.below h9.2⟩)
    have hMU := hMV.below hU
    have hc6 := (h6.at hMU).c 8 (by decide)
    have hl6 := Nat.lt_of_lt_of_le (h6.len 8 (by decide)) hMU.m.sv.bel.size
    rcases hB with hB | ⟨hB, hB2⟩
    · exact sswap_right 0 v k3 0 j 0 0 0 0 0 hl (Lib.hid hB) (A 8) U hMU.m.sv.st hc6 hl6
    · exact sswap_nowrite 0 v k3 0 j 0 0 0 0 0 hl (Lib.hid hB) (Lib.hid hB2) (A 8) U hMU.m.sv.st hc6 hl6
  · rw [hnt]; exact otold_right _ A V (h6.at (h.below hV))
set_option maxHeartbeats 1000000 in
theorem ask_less (v r3 : Int) (hnt : nt = ([.int .u32 0, .int .u32 0, .int .u32 0, .int .u32 0, .int .i64 2, .int .i64 0, .int .i64 v, .int .i64 r3, .int .u32 0, .int .i64 0, .int .i64 0, .int .i64 0, .int .i64 0, .int .u32 0, .int .i64 0, .int .i64 0, .int .i64 0, .int .i64 0, .int .u32 0] : List Value)) (vs vr : Value) (w : World) (hE0 : ErrsAt vs vr w0) (h6 : E6 A w0) (h : SM w0 w L s sb N9 D) (hr : Hid (rightB 2 0 v 0 0 = true)) (hl : Hid (liveB L.a L.b D.nt D.nv D.pt D.pv 2 0 v = true)) (x : Int) (x0 : 0 ≤ x) (x1 : x < 8) (hk : Hid (lessK 2 0 [bits BinOp.and IntKind.i64 x 1, bits BinOp.and IntKind.i64 x 2, bits BinOp.and IntKind.i64 x 4] = r3)) :
    Calls Tryz.prog 35 #[(Value.agg #[.int .i64 2, .int .i64 0, .int .i64 v, .int .i64 0, .int .u32 0]), .int .u32 2, .int .u32 x, .int .u32 0, (Value.agg #[.int .i64 0, .int .i64 0, .int .i64 0, .int .i64 0, .int .u32 0]), .pointer (some ⟨sb, 0, none⟩)] w fun e w' => e = .returned (.agg nt.toArray) ∧ Below w.heap.size w w' := by
  have hE := hE0.below h.m.sv.bel
  have hnl : nt.length = 19 := by rw [hnt]; rfl
  have hn1 : ∀ v, v ∈ nt → v.oneCell' = true := by rw [hnt]; exact nc5_one 2 0 v r3 0
  refine (ask_node (Q := fun w' => Below w.heap.size w w') hnl hn1 0 v 0 0 0 0 0 0 0 2 x 0 vs vr w hE h (Nat.le_refl _) hr hl (fun W hW => oseen_void s vs vr W (hE.below hW)) (fun w1 w2 h1 h2 => h1.trans h2) (fun cs hc hj' W hW => ?_)).mono (fun e w' h9 => ⟨h9.1, h9.2.1⟩)
  rw [hnt]
  exact (cnode_2 (Lib.hid hc.out.toCallC) x0 x1 r3 hk W).mono (fun e w' h9 => ⟨h9.1, hW.trans (h9.2.mono hW.size), UpT.below h9.2⟩)
end
end Go.Proofs.YtncopdhhchmpeaaGreatDoor
namespace Go.Proofs.YtncopdhhchmpeaaGreatDoor
open Go.ChangeShapes Go.WideShapes Go.ChangeAt Go.RowKit
set_option linter.unusedVariables false
set_option linter.unusedSimpArgs false
theorem answer_none (s : Nat) (vs vr : Value) (W : World) (hE : ErrsAt vs vr W) : Calls Tryz.prog 32 #[.pointer (some ⟨s, 0, none⟩), (Value.agg #[.int .i64 0, .int .i64 0, .int .i64 0, .int .i64 0, .int .u32 0]), .agg #[.int .u32 0, .int .u32 0, .int .u32 0, .int .u32 0, .int .i64 0, .int .i64 0, .int .i64 0, .int .i64 0, .int .u32 0, .int .i64 0, .int .i64 0, .int .i64 0, .int .i64 0, .int .u32 0, .int .i64 0, .int .i64 0, .int .i64 0, .int .i64 0, .int .u32 0]] W fun e w' => e = .returned (.tuple #[(Value.agg #[.int .u32 1, .int .u32 0, .int .u32 0, .int .u32 0, .int .i64 0, .int .i64 0, .int .i64 0, .int .i64 0, .int .u32 0, .int .i64 0, .int .i64 0, .int .i64 0, .int .i64 0, .int .u32 0, .int .i64 0, .int .i64 0, .int .i64 0, .int .i64 0, .int .u32 0]), .bool true]) ∧ Below W.heap.size W w' := by
  refine (oanswer (Q := fun w' => Below W.heap.size W w') (N := W.heap.size) (nt := [.int .u32 1, .int .u32 0, .int .u32 0, .int .u32 0, .int .i64 0, .int .i64 0, .int .i64 0, .int .i64 0, .int .u32 0, .int .i64 0, .int .i64 0, .int .i64 0, .int .i64 0, .int .u32 0, .int .i64 0, .int .i64 0, .int .i64 0, .int .i64 0, .int .u32 0]) rfl (by simp [Value.oneCell']) s 0 0 0 0 0 0 0 0 0 0 0 0 0 0 0 0 0 0 0 0 0 0 0 0 0 0 0 0 0 0 0 0 0 0 0 0 0 0 0 0 0 0 0 0 (by decide) (by decide) W (Nat.le_refl _) (fun w1 w2 h1 h2 => h1.trans h2) ?_ ?_ ?_ ?_ ?_).mono (fun e w' h9 => ⟨h9.1, h9.2.1⟩)
  · exact fun V hV => oseen_void s vs vr V (hE.below hV)
  · exact fun V hV => oseen_void s vs vr V (hE.below hV)
  · exact fun V hV => oseen_void s vs vr V (hE.below hV)
  · exact fun V hV => oseen_void s vs vr V (hE.below hV)
  · exact fun V hV => (oanswer_void (Lib.hid (c25_call s 0 0 0 0 0 0 0 0 0 0 0 0 0 0 0 0 0 0 0 0 0 0 0 0)) V).mono (fun e w' h9 => ⟨h9.1, hV.trans (h9.2.mono hV.size), UpT.below h9.2⟩)
/-- A note as a list of cells. -/
structure NtC (nt : List Value) (o a : Int) : Prop where
  len : nt.length = 19
  one : ∀ v, v ∈ nt → v.oneCell' = true
  c0 : nt[0]? = some (.int .u32 o)
  c1 : nt[1]? = some (.int .u32 a)
theorem answer_none2 : ∃ nt, NtC nt 1 0 ∧ ∀ (s : Nat) (vs vr : Value) (W : World), ErrsAt vs vr W → Calls Tryz.prog 32 #[.pointer (some ⟨s, 0, none⟩), (Value.agg #[.int .i64 0, .int .i64 0, .int .i64 0, .int .i64 0, .int .u32 0]), .agg #[.int .u32 0, .int .u32 0, .int .u32 0, .int .u32 0, .int .i64 0, .int .i64 0, .int .i64 0, .int .i64 0, .int .u32 0, .int .i64 0, .int .i64 0, .int .i64 0, .int .i64 0, .int .u32 0, .int .i64 0, .int .i64 0, .int .i64 0, .int .i64 0, .int .u32 0]] W fun e w' => e = .returned (.tuple #[.agg nt.toArray, .bool true]) ∧ Below W.heap.size W w' :=
  ⟨[.int .u32 1, .int .u32 0, .int .u32 0, .int .u32 0, .int .i64 0, .int .i64 0, .int .i64 0, .int .i64 0, .int .u32 0, .int .i64 0, .int .i64 0, .int .i64 0, .int .i64 0, .int .u32 0, .int .i64 0, .int .i64 0, .int .i64 0, .int .i64 0, .int .u32 0], ⟨rfl, by simp [Value.oneCell'], rfl, rfl⟩, answer_none⟩
set_option maxRecDepth 100000 in
set_option maxHeartbeats 2000000 in
theorem first22_is (vs vr : Value) (w : World) (hE : ErrsAt vs vr w) : Calls Tryz.prog 27 #[] w fun e w' => e = .returned (.bool true) ∧ Below w.heap.size w w' := by
  have HE := Lib.hid hE
  clear hE
  obtain ⟨nt, hN, hAn⟩ := answer_none2
  have HN := Lib.hid hN
  have HAn := Lib.hid hAn
  have hsz : nt.toArray.size = 19 := by simp [hN.len]
  clear hN hAn
  go_enter Tryz.func27, Tryz.ntmps27
  go_upto_region 4 with (first
    | (go_at_call 11; (with_reducible refine (script_ok _).mono ?_); rintro e w1 ⟨L, X, x, rfl, hs, -, hb⟩; have HB1 := Lib.hid hb; clear hs hb))
  have HA1 := Lib.hid (HAn.out X.s vs vr w1 (HE.out.below HB1.out))
  go_upto_region 5 with (first
    | (go_at_call 32; (with_reducible refine HA1.out.mono ?_); rintro e w2 ⟨rfl, hb⟩; have HB2 := Lib.hid (HB1.out.trans (hb.mono HB1.out.size)); clear hb)
    | (refine wpList_store_mid (by rfl) _ _ _ (by rfl) w2.heap.size 0 nt.toArray (by rfl) (by rfl) (by rw [hsz]; exact nthere_new _ _ 19 (by rfl) _) (by rw [hsz]; exact infoNote) (all_one HN.out.one) ?_))
  generalize hA : World.setCells _ w2.heap.size 0 _ = w3
  obtain ⟨Y, hY⟩ : ∃ Y, Y = w2.heap.size := ⟨_, rfl⟩
  have H3 : Hid (Below w.heap.size w w3 ∧ w3.rangeAt Y 0 nt) := Lib.hid (by rw [← hA, hY]; exact ⟨nbelow_cells (HB2.out.alloc HB2.out.size _) HB2.out.size _ _, World.rangeAt_setCells_same _ w2.heap.size 0 nt (by rw [HN.out.len]; exact nthere_new _ _ 19 (by rfl) _)⟩)
  rw [← hY]
  clear hA hY
  have q0 := CallC.cell H3.out.2 0 _ HN.out.c0
  go_wp2_with fail
  go_ret
  exact ⟨rfl, H3.out.1⟩
end Go.Proofs.YtncopdhhchmpeaaGreatDoor
namespace Go.Proofs.YtncopdhhchmpeaaGreatDoor
open Go.ChangeShapes Go.WideShapes Go.ChangeAt Go.RowKit
set_option linter.unusedVariables false
set_option linter.unusedSimpArgs false
section
variable {cs nt : List Value} {s N : Nat} {k1 k2 k3 k4 o x : Int} {Q : World → Prop}
end
/-- What is told of a right key by the program and by the document's reckoning. -/
structure KF (k0 k1 k2 k3 k4 : Int) (s u : Bool) (r0 r1 r2 r3 r4 : Int) : Prop where
  pS : ∀ W : World, Calls Tryz.prog 164 #[(Value.agg #[.int .i64 k0, .int .i64 k1, .int .i64 k2, .int .i64 k3, .int .u32 k4])] W fun e w' => e = .returned (.bool s) ∧ Below W.heap.size W w'
  rS : ∀ W : World, Calls Tryz.prog 40 #[(Value.agg #[.int .i64 k0, .int .i64 k1, .int .i64 k2, .int .i64 k3, .int .u32 k4])] W fun e w' => e = .returned (.bool s) ∧ Below W.heap.size W w'
  pU : ∀ W : World, Calls Tryz.prog 165 #[(Value.agg #[.int .i64 k0, .int .i64 k1, .int .i64 k2, .int .i64 k3, .int .u32 k4])] W fun e w' => e = .returned (.bool u) ∧ Below W.heap.size W w'
  rU : ∀ W : World, Calls Tryz.prog 41 #[(Value.agg #[.int .i64 k0, .int .i64 k1, .int .i64 k2, .int .i64 k3, .int .u32 k4])] W fun e w' => e = .returned (.bool u) ∧ Below W.heap.size W w'
  pW : ∀ W : World, Calls Tryz.prog 166 #[(Value.agg #[.int .i64 k0, .int .i64 k1, .int .i64 k2, .int .i64 k3, .int .u32 k4])] W fun e w' => e = .returned (Value.agg #[.int .i64 r0, .int .i64 r1, .int .i64 r2, .int .i64 r3, .int .u32 r4]) ∧ Below W.heap.size W w'
  rW : ∀ W : World, Calls Tryz.prog 36 #[(Value.agg #[.int .i64 k0, .int .i64 k1, .int .i64 k2, .int .i64 k3, .int .u32 k4])] W fun e w' => e = .returned (Value.agg #[.int .i64 r0, .int .i64 r1, .int .i64 r2, .int .i64 r3, .int .u32 r4]) ∧ Below W.heap.size W w'
section
variable {w0 w : World} {L : BLoc} {X : SLoc} {D : BSt}
end
end Go.Proofs.YtncopdhhchmpeaaGreatDoor
namespace Go.Proofs.YtncopdhhchmpeaaGreatDoor
open Go.ChangeShapes Go.WideShapes Go.ChangeAt Go.RowKit
set_option linter.unusedVariables false
set_option linter.unusedSimpArgs false
def jD1 : BSt := openedB st0 (-1) 10
def jD2 : BSt := boughtN jD1 0 0 0 (freshV jD1.nW 0 (kcs (fun _ _ => 0) 0))
def jD3 : BSt := boughtP jD2 0 0 0 (fresh jD2.pW 0 [])
section
variable {w0 w : World} {L : BLoc} {X : SLoc} {D : BSt}
theorem chain0 (h : SJ w0 w L X D) (hn : D.nb = 1) (hp : D.pr 0 = -1) : chL D.pr ((0 : Nat) : Int) = [((0 : Nat) : Int)] := chL_root h.k.pk (by rw [hn]; decide) 0 (by rw [hn]; decide) hp
theorem us2 (i : Nat) : 0 ≤ jD2.us i ∧ jD2.us i ≤ 1 := by
  show 0 ≤ addL jD1.us _ 1 i ∧ addL jD1.us _ 1 i ≤ 1
  unfold addL
  split <;> simp [jD1, openedB, st0, upd]
end
def nA (a b c : Int) : List Value := [.int .u32 0, .int .u32 a, .int .u32 b, .int .u32 c, .int .i64 0, .int .i64 0, .int .i64 0, .int .i64 0, .int .u32 0, .int .i64 0, .int .i64 0, .int .i64 0, .int .i64 0, .int .u32 0, .int .i64 0, .int .i64 0, .int .i64 0, .int .i64 0, .int .u32 0]
def nR (r0 r1 r2 r3 r4 : Int) : List Value := [.int .u32 0, .int .u32 0, .int .u32 0, .int .u32 0, .int .i64 r0, .int .i64 r1, .int .i64 r2, .int .i64 r3, .int .u32 r4, .int .i64 0, .int .i64 0, .int .i64 0, .int .i64 0, .int .u32 0, .int .i64 0, .int .i64 0, .int .i64 0, .int .i64 0, .int .u32 0]
theorem nA_len (a b c : Int) : (nA a b c).length = 19 := rfl
theorem nA_one (a b c : Int) : ∀ v, v ∈ nA a b c → v.oneCell' = true := by simp [nA, Value.oneCell']
theorem nR_len (r0 r1 r2 r3 r4 : Int) : (nR r0 r1 r2 r3 r4).length = 19 := rfl
theorem nR_one (r0 r1 r2 r3 r4 : Int) : ∀ v, v ∈ nR r0 r1 r2 r3 r4 → v.oneCell' = true := by simp [nR, Value.oneCell']
end Go.Proofs.YtncopdhhchmpeaaGreatDoor
namespace Go.Proofs.YtncopdhhchmpeaaGreatDoor
open Go.ChangeShapes Go.WideShapes Go.ChangeAt Go.RowKit Go.Maps
set_option linter.unusedVariables false
/-- Numbers are read there. -/
def RI (w : World) (a : Option Addr) (xs : List Int) : Prop := ∀ i, i < xs.length → ∃ ad, a = some ad ∧ ad.block < w.heap.size ∧ w.cell? (ad.add i) = some (.int .i64 (xs.getD i 0))
theorem RI.below {w w' : World} {a : Option Addr} {xs : List Int} (h : RI w a xs) (hb : Below w.heap.size w w') : RI w' a xs := by
  intro i hi
  obtain ⟨ad, h1, h2, h3⟩ := h i hi
  exact ⟨ad, h1, Nat.lt_of_lt_of_le h2 hb.size, (hb.cell (p := ad.add i) (by rw [add_block']; exact h2)).trans h3⟩
end Go.Proofs.YtncopdhhchmpeaaGreatDoor
namespace Go.Proofs.YtncopdhhchmpeaaGreatDoor
open Go.ChangeShapes Go.WideShapes Go.ChangeAt Go.RowKit
set_option linter.unusedVariables false
set_option linter.unusedSimpArgs false
section
variable {s m d t b f q : Nat} {st : Int}
set_option maxRecDepth 100000 in
set_option maxHeartbeats 4000000 in
theorem skey_node (x k0 k1 k2 k3 k4 : Int) (w : World) (hB : SyB w s m d t b f q st) (S : Nat) (hP : w.cell? ⟨m, 0, none⟩ = some (.pointer (some ⟨S, 0, none⟩))) (hC : ∀ W, Below w.heap.size w W → Calls Tryz.prog 53 #[.pointer (some ⟨S, 0, none⟩), .int .i64 x, .int .i64 0] W fun e w' => e = .returned (.agg #[.int .i64 k0, .int .i64 k1, .int .i64 k2, .int .i64 k3, .int .u32 k4]) ∧ Below W.heap.size W w') :
    Calls Tryz.prog 16 #[.pointer (some ⟨s, 0, none⟩), .int .i64 2, .int .i64 x] w fun e w' => e = .returned (.agg #[.int .i64 k0, .int .i64 k1, .int .i64 k2, .int .i64 k3, .int .u32 k4]) ∧ Below w.heap.size w w' := by
  have HC := Lib.hid hC
  have HB := Lib.hid hB
  have HP := Lib.hid (⟨cell_lt hP, hP⟩ : m < w.heap.size ∧ w.cell? ⟨m, 0, none⟩ = some (.pointer (some ⟨S, 0, none⟩)))
  clear hC hB hP
  go_enter Tryz.func16, Tryz.ntmps16
  go_upto_region 1 with fail
  generalize hA : World.alloc w _ = wA
  obtain ⟨K, hK⟩ : ∃ K, K = w.heap.size := ⟨_, rfl⟩
  have HBa : Hid (Below w.heap.size w wA) := Lib.hid (by rw [← hA]; exact (Below.refl _ _).alloc (Nat.le_refl _) _)
  have HK0 : Hid (KeyC wA K 0 0 0 0 0) := Lib.hid (by rw [← hA, hK]; exact KeyC.new w 0 0 0 0 0 _)
  have HKl : Hid (w.heap.size ≤ K) := Lib.hid (by rw [hK]; exact Nat.le_refl _)
  have sc := ((HB.out.below HBa.out).c0)
  have pc := (HBa.out.cell (p := ⟨m, 0, none⟩) HP.out.1).trans HP.out.2
  rw [← hK]
  clear hA hK
  go_wp2_with (first
    | (go_at_call 53; (with_reducible refine (HC.out _ HBa.out).mono ?_); rintro e w1 ⟨rfl, hb⟩; have HB1 := Lib.hid (HBa.out.trans (hb.mono HBa.out.size)); have HK1 := Lib.hid (HK0.out.below hb); have z0 := HK1.out.c0; have z1 := HK1.out.c1; have z2 := HK1.out.c2; have z3 := HK1.out.c3; have z4 := HK1.out.c4; have zf0 := HK1.out.fr 0; have zf1 := HK1.out.fr 1; have zf2 := HK1.out.fr 2; have zf3 := HK1.out.fr 3; have zf4 := HK1.out.fr 4; clear hb))
  have t := HK1.out.set k0 k1 k2 k3 k4
  have t0 := t.c0
  have t1 := t.c1
  have t2 := t.c2
  have t3 := t.c3
  have t4 := t.c4
  refine bodyPost_ret (v := .agg #[.int .i64 k0, .int .i64 k1, .int .i64 k2, .int .i64 k3, .int .u32 k4]) (by simp [results, Tryz.results16, go_sem, t0, t1, t2, t3, t4]) rfl ⟨rfl, ?_⟩
  exact ((((HB1.out.setCell HKl.out _).setCell HKl.out _).setCell HKl.out _).setCell HKl.out _).setCell HKl.out _
set_option maxRecDepth 100000 in
set_option maxHeartbeats 4000000 in
theorem skey_page (x k0 k1 k2 k3 k4 : Int) (w : World) (hB : SyB w s m d t b f q st) (S : Nat) (hP : w.cell? ⟨m, 0, none⟩ = some (.pointer (some ⟨S, 0, none⟩))) (hC : ∀ W, Below w.heap.size w W → Calls Tryz.prog 54 #[.pointer (some ⟨S, 0, none⟩), .int .i64 x] W fun e w' => e = .returned (.agg #[.int .i64 k0, .int .i64 k1, .int .i64 k2, .int .i64 k3, .int .u32 k4]) ∧ Below W.heap.size W w') :
    Calls Tryz.prog 16 #[.pointer (some ⟨s, 0, none⟩), .int .i64 3, .int .i64 x] w fun e w' => e = .returned (.agg #[.int .i64 k0, .int .i64 k1, .int .i64 k2, .int .i64 k3, .int .u32 k4]) ∧ Below w.heap.size w w' := by
  have HC := Lib.hid hC
  have HB := Lib.hid hB
  have HP := Lib.hid (⟨cell_lt hP, hP⟩ : m < w.heap.size ∧ w.cell? ⟨m, 0, none⟩ = some (.pointer (some ⟨S, 0, none⟩)))
  clear hC hB hP
  go_enter Tryz.func16, Tryz.ntmps16
  go_upto_region 1 with fail
  generalize hA : World.alloc w _ = wA
  obtain ⟨K, hK⟩ : ∃ K, K = w.heap.size := ⟨_, rfl⟩
  have HBa : Hid (Below w.heap.size w wA) := Lib.hid (by rw [← hA]; exact (Below.refl _ _).alloc (Nat.le_refl _) _)
  have HK0 : Hid (KeyC wA K 0 0 0 0 0) := Lib.hid (by rw [← hA, hK]; exact KeyC.new w 0 0 0 0 0 _)
  have HKl : Hid (w.heap.size ≤ K) := Lib.hid (by rw [hK]; exact Nat.le_refl _)
  have sc := ((HB.out.below HBa.out).c0)
  have pc := (HBa.out.cell (p := ⟨m, 0, none⟩) HP.out.1).trans HP.out.2
  rw [← hK]
  clear hA hK
  go_wp2_with (first
    | (go_at_call 54; (with_reducible refine (HC.out _ HBa.out).mono ?_); rintro e w1 ⟨rfl, hb⟩; have HB1 := Lib.hid (HBa.out.trans (hb.mono HBa.out.size)); have HK1 := Lib.hid (HK0.out.below hb); have z0 := HK1.out.c0; have z1 := HK1.out.c1; have z2 := HK1.out.c2; have z3 := HK1.out.c3; have z4 := HK1.out.c4; have zf0 := HK1.out.fr 0; have zf1 := HK1.out.fr 1; have zf2 := HK1.out.fr 2; have zf3 := HK1.out.fr 3; have zf4 := HK1.out.fr 4; clear hb))
  have t := HK1.out.set k0 k1 k2 k3 k4
  have t0 := t.c0
  have t1 := t.c1
  have t2 := t.c2
  have t3 := t.c3
  have t4 := t.c4
  refine bodyPost_ret (v := .agg #[.int .i64 k0, .int .i64 k1, .int .i64 k2, .int .i64 k3, .int .u32 k4]) (by simp [results, Tryz.results16, go_sem, t0, t1, t2, t3, t4]) rfl ⟨rfl, ?_⟩
  exact ((((HB1.out.setCell HKl.out _).setCell HKl.out _).setCell HKl.out _).setCell HKl.out _).setCell HKl.out _

end
def kinds12 : List Int := [1, 2, 3, 4, 7, 8, 9, 10, 11, 12, 13, 14]
end Go.Proofs.YtncopdhhchmpeaaGreatDoor
namespace Go.Proofs.YtncopdhhchmpeaaGreatDoor
open Go.ChangeShapes Go.WideShapes Go.ChangeAt Go.RowKit
set_option linter.unusedVariables false
set_option linter.unusedSimpArgs false
def jD4 : BSt := boughtD jD3 0 0 0
def kK : Nat → Int := upd (fun _ => 0) 0 4
def kT : Nat → Bool := upd (fun _ => false) 0 true
def kP : Nat → Int := upd (fun _ => 0) 0 (-1)
def kF : Nat → Bool := upd (fun _ => false) 0 true
def kS0 : Nat → Bool := upd (fun _ => false) 0 false
def kS1 : Nat → Bool := upd kS0 0 true
def kY : Nat → Nat → Nat → Int := upd (fun _ _ _ => 0) 0 (fun _ _ => 0)
theorem th0 {n : Nat} {th : Nat → Bool} {vr : Nat → Int} (hn : 0 < n) (ht : th 0 = true) (hv : vr 0 = 0) : (thereB n th 0 && (vr ((0 : Int)).toNat == 0)) = true := by
  have h1 : ((0 : Int)).toNat = 0 := rfl
  simp [thereB, hn, ht, hv]
theorem lv2 {a b : Shp} {th th2 : Nat → Bool} {vr vr2 : Nat → Int} (hn : 0 < a.n) (ht : th 0 = true) (hv : vr 0 = 0) : liveB a b th vr th2 vr2 2 0 0 = true := by
  unfold liveB
  rw [if_pos rfl]
  exact th0 hn ht hv
theorem lv3 {a b : Shp} {th th2 : Nat → Bool} {vr vr2 : Nat → Int} (hn : 0 < b.n) (ht : th2 0 = true) (hv : vr2 0 = 0) : liveB a b th vr th2 vr2 3 0 0 = true := by
  unfold liveB
  rw [if_neg (by decide), if_pos rfl]
  exact th0 hn ht hv
section
variable {w0 w w' : World} {L : BLoc} {X : SLoc}
/-- The law's system: one of each. -/
structure SF (w0 w : World) (L : BLoc) (X : SLoc) (sl : Nat → Bool) : Prop where
  sk : SK w0 w L X jD4 kT kP kK kF sl kY
  an : 0 < L.a.n
  pn : 0 < L.b.n
  nn : 0 < L.n
theorem SF.below {sl : Nat → Bool} (h : SF w0 w L X sl) (hb : Below w.heap.size w w') : SF w0 w' L X sl := ⟨h.sk.below hb, h.an, h.pn, h.nn⟩
def nB (r : Int) : List Value := [.int .u32 r, .int .u32 0, .int .u32 0, .int .u32 0, .int .i64 0, .int .i64 0, .int .i64 0, .int .i64 0, .int .u32 0, .int .i64 0, .int .i64 0, .int .i64 0, .int .i64 0, .int .u32 0, .int .i64 0, .int .i64 0, .int .i64 0, .int .i64 0, .int .u32 0]
theorem nB_len (r : Int) : (nB r).length = 19 := rfl
theorem nB_one (r : Int) : ∀ v, v ∈ nB r → v.oneCell' = true := by simp [nB, Value.oneCell']
/-- What a key of a kind is, and what it answers. -/
structure KH (w : World) (s : Nat) (k k0 k1 k2 k3 k4 o x r : Int) : Prop where
  key : ∀ W, Below w.heap.size w W → Calls Tryz.prog 16 #[.pointer (some ⟨s, 0, none⟩), .int .i64 k, .int .i64 0] W fun e w' => e = .returned (Value.agg #[.int .i64 k0, .int .i64 k1, .int .i64 k2, .int .i64 k3, .int .u32 k4]) ∧ Below W.heap.size W w'
  ans : ∀ W, Below w.heap.size w W → Calls Tryz.prog 32 #[.pointer (some ⟨s, 0, none⟩), (Value.agg #[.int .i64 k0, .int .i64 k1, .int .i64 k2, .int .i64 k3, .int .u32 k4]), .agg #[.int .u32 o, .int .u32 x, .int .u32 x, .int .u32 x, .int .i64 0, .int .i64 0, .int .i64 0, .int .i64 0, .int .u32 0, .int .i64 0, .int .i64 0, .int .i64 0, .int .i64 0, .int .u32 0, .int .i64 0, .int .i64 0, .int .i64 0, .int .i64 0, .int .u32 0]] W fun e w' => e = .returned (.tuple #[.agg (nB r).toArray, .bool true]) ∧ Below W.heap.size W w'
variable {sl : Nat → Bool}
end
end Go.Proofs.YtncopdhhchmpeaaGreatDoor
namespace Go.Proofs.YtncopdhhchmpeaaGreatDoor
open Go.ChangeShapes Go.WideShapes Go.ChangeAt Go.RowKit
set_option linter.unusedVariables false
set_option linter.unusedSimpArgs false
section
variable {w0 w : World} {L : BLoc} {X : SLoc} {D : BSt}
theorem sjm_root (hn : 0 < L.n) (w : World) (h : SJ w0 w L X st0) : Calls Tryz.prog 12 #[.pointer (some ⟨L.P, 0, none⟩), .int .i64 10] w fun e w' => e = .returned (.tuple #[.int .i64 0, .int .i64 0, .nilIface]) ∧ SJ w0 w' L X jD1 ∧ UpT L.T w w' :=
  (bwroot_w (D := st0) 10 (by decide) (by decide) 0 (Lib.hid rfl) hn w h.k).mono (fun e w' h9 => ⟨h9.1, h.step h9.2.1 h9.2.2, h9.2.2.up⟩)
theorem sjm_node (hn : 0 < L.a.n) (vs vr : Value) (w : World) (hE : ErrsAt vs vr w) (h : SJ w0 w L X jD1) : Calls Tryz.prog 15 #[.pointer (some ⟨L.P, 0, none⟩), .int .i64 0, .slice none 0 0] w fun e w' => e = .returned (.tuple #[.int .i64 0, .int .i64 0, .nilIface]) ∧ SJ w0 w' L X jD2 ∧ UpT L.T w w' :=
  (bnode_w (D := jD1) 0 (by decide) vs vr none 0 0 (fun _ _ => 0) (Lib.hid (fun i hi => by omega)) (by decide) 0 hn (Lib.hid (by rfl)) (Lib.hid (fun i hi => by omega)) 0 (Lib.hid (by rfl)) (Lib.hid (by rw [chain0 h rfl rfl]; rfl)) (Lib.hid (fun i _ => by simp [jD1, openedB, st0, upd])) w h.k hE (srcv_none L w _)).mono (fun e w' h9 => ⟨h9.1, h.step h9.2.1 h9.2.2, h9.2.2.up⟩)
theorem sjm_page (hn : 0 < L.b.n) (w : World) (h : SJ w0 w L X jD2) : Calls Tryz.prog 17 #[.pointer (some ⟨L.P, 0, none⟩), .int .i64 0, .slice none 0 0] w fun e w' => e = .returned (.tuple #[.int .i64 0, .int .i64 0, .nilIface]) ∧ SJ w0 w' L X jD3 ∧ UpT L.T w w' :=
  (bpage_w (D := jD2) 0 (by decide) none 0 0 [] (Lib.hid rfl) (by decide) 0 hn (Lib.hid (by rfl)) (Lib.hid (fun i hi => by omega)) 0 (Lib.hid (by rfl)) (Lib.hid (by
    rw [chain0 h rfl rfl]
    have h1 := us2 0
    have h2 : jD2.lm 0 = 10 := rfl
    have h3 : ((0 : Nat) : Int).toNat = 0 := rfl
    simp only [List.any_cons, List.any_nil, Bool.or_false, fullB, h3, h2]
    exact decide_eq_false (by omega))) (Lib.hid (fun i _ => by have := us2 i; omega)) w h.k (srcw_none L w)).mono (fun e w' h9 => ⟨h9.1, h.step h9.2.1 h9.2.2, h9.2.2.up⟩)
theorem sjm_nodekey (hn : 0 < L.a.n) (h : SJ w0 w L X jD3) : Calls Tryz.prog 16 #[.pointer (some ⟨X.s, 0, none⟩), .int .i64 2, .int .i64 0] w fun e w' => e = .returned (.agg #[.int .i64 2, .int .i64 0, .int .i64 0, .int .i64 0, .int .u32 0]) ∧ Below w.heap.size w w' :=
  skey_node 0 2 0 0 0 0 w h.b L.S h.k.m.m0 (fun V hV => snodekey_in (a := L.a) (b := L.b) (th := jD3.nt) (vr_ := jD3.nv) (th2 := jD3.pt) (vr2 := jD3.pv) 0 0 0 (Lib.hid rfl) (by decide) (by decide) hn (Lib.hid rfl) 0 (Lib.hid rfl) V (h.below hV).k.m.sv.st)
theorem sjm_pagekey (hn : 0 < L.b.n) (h : SJ w0 w L X jD3) : Calls Tryz.prog 16 #[.pointer (some ⟨X.s, 0, none⟩), .int .i64 3, .int .i64 0] w fun e w' => e = .returned (.agg #[.int .i64 3, .int .i64 0, .int .i64 0, .int .i64 0, .int .u32 0]) ∧ Below w.heap.size w w' :=
  skey_page 0 3 0 0 0 0 w h.b L.S h.k.m.m0 (fun V hV => spagekey_in (a := L.a) (b := L.b) (th := jD3.nt) (vr_ := jD3.nv) (th2 := jD3.pt) (vr2 := jD3.pv) 0 0 (Lib.hid rfl) hn (Lib.hid rfl) 0 (Lib.hid rfl) V (h.below hV).k.m.sv.st)
/-- What is asked of memory alone. -/
theorem SJ.sm (h : SJ w0 w L X D) (sb : Nat) (hp : w.cell? ⟨sb, 0, none⟩ = some (.pointer (some ⟨X.s, 0, none⟩))) (hb : L.T ≤ sb) : SM w0 w L X.s sb w.heap.size D := by
  have m := h.k.md
  have d := h.k.dl
  have t := h.k.tt.1
  have z := h.k.tw
  have l := h.lo.1
  have c1 := cell_lt h.b.c0
  have c2 := cell_lt hp
  exact ⟨h.k.m, h.b.c0, ⟨by omega, by omega, by omega, c1, by omega, by omega, Nat.le_refl _⟩, hp, ⟨c2, by omega, by omega⟩⟩
theorem jD3_void (j : Nat) (hj : j < 16) : KAt (jD3.nW 0) j 0 0 0 0 0 := by
  match j, hj with
  | 0, _ => exact ⟨rfl, rfl, rfl, rfl, rfl⟩
  | 1, _ => exact ⟨rfl, rfl, rfl, rfl, rfl⟩
  | 2, _ => exact ⟨rfl, rfl, rfl, rfl, rfl⟩
  | 3, _ => exact ⟨rfl, rfl, rfl, rfl, rfl⟩
  | 4, _ => exact ⟨rfl, rfl, rfl, rfl, rfl⟩
  | 5, _ => exact ⟨rfl, rfl, rfl, rfl, rfl⟩
  | 6, _ => exact ⟨rfl, rfl, rfl, rfl, rfl⟩
  | 7, _ => exact ⟨rfl, rfl, rfl, rfl, rfl⟩
  | 8, _ => exact ⟨rfl, rfl, rfl, rfl, rfl⟩
  | 9, _ => exact ⟨rfl, rfl, rfl, rfl, rfl⟩
  | 10, _ => exact ⟨rfl, rfl, rfl, rfl, rfl⟩
  | 11, _ => exact ⟨rfl, rfl, rfl, rfl, rfl⟩
  | 12, _ => exact ⟨rfl, rfl, rfl, rfl, rfl⟩
  | 13, _ => exact ⟨rfl, rfl, rfl, rfl, rfl⟩
  | 14, _ => exact ⟨rfl, rfl, rfl, rfl, rfl⟩
  | 15, _ => exact ⟨rfl, rfl, rfl, rfl, rfl⟩
  | n + 16, hn => exact absurd hn (by omega)
end
end Go.Proofs.YtncopdhhchmpeaaGreatDoor
namespace Go.Proofs.YtncopdhhchmpeaaGreatDoor
open Go.ChangeShapes Go.WideShapes Go.ChangeAt Go.RowKit
set_option linter.unusedVariables false
set_option linter.unusedSimpArgs false
/-- The law's world while it asks: the system, the two keys. -/
structure LM (w1 W : World) (L : BLoc) (s sb N9 KN KP : Nat) (D : BSt) : Prop where
  sm : SM w1 W L s sb N9 D
  kn : KeyC W KN 2 0 0 0 0
  kp : KeyC W KP 3 0 0 0 0
  lo : N9 ≤ KN ∧ N9 ≤ KP
theorem LM.step {w1 W W' : World} {L : BLoc} {s sb N9 KN KP : Nat} {D D' : BSt} (h : LM w1 W L s sb N9 KN KP D) (hs : SM w1 W' L s sb N9 D') (hu : UpT N9 W W') : LM w1 W' L s sb N9 KN KP D' :=
  ⟨hs, h.kn.same' hu.1 (hu.2 KN h.lo.1 h.kn.lt), h.kp.same' hu.1 (hu.2 KP h.lo.2 h.kp.lt), h.lo⟩
theorem LM.below {w1 W W' : World} {L : BLoc} {s sb N9 KN KP : Nat} {D : BSt} (h : LM w1 W L s sb N9 KN KP D) (hb : Below W.heap.size W W') : LM w1 W' L s sb N9 KN KP D := h.step (h.sm.below hb) (UpT.below hb)
abbrev World.size' (w : World) : Nat := w.heap.size
set_option maxRecDepth 100000 in
set_option maxHeartbeats 2000000 in
theorem memory_bad (at_ w_ rt : Int) (a0 : 0 ≤ at_ ∧ at_ ≤ 4294967295) (b0 : 0 ≤ w_ ∧ w_ ≤ 4294967295) (c0 : 0 ≤ rt ∧ rt ≤ 4294967295) (ha : 32 ≤ at_ % 40) (vs vr : Value) (A : Nat → Addr) (w : World) (hE : ErrsAt vs vr w) (h6 : E6 A w) :
    Calls Tryz.prog 5 #[.int .u32 at_, .int .u32 w_, .int .u32 rt] w fun e w' => e = .returned (.bool true) ∧ Below w.heap.size w w' := by
  have HE := Lib.hid hE
  have H6 := Lib.hid h6
  clear hE h6
  go_enter Tryz.func5, Tryz.ntmps5; go_upto_region 5 with (first | (go_at_call 27; (with_reducible refine (first22_is vs vr _ HE.out).mono ?_); rintro e w1 ⟨rfl, hb⟩; have H1 : Hid (Below w.heap.size w w1) := Lib.hid hb; clear hb) | (go_at_call 11; (with_reducible refine (script_ok _).mono ?_); rintro e w2 ⟨L, X, x, rfl, hs, hn, hb⟩; have HJ2 := Lib.hid hs.sj; have HN := Lib.hid hn.out; clear hs hn hb)); generalize hg : World.alloc w2 _ = w3; obtain ⟨sb, hsb⟩ : ∃ sb, sb = w2.heap.size := ⟨_, rfl⟩; have H3 : Hid (SJ w1 w3 L X st0 ∧ w3.cell? ⟨sb, 0, none⟩ = some (.pointer (some ⟨X.s, 0, none⟩)) ∧ L.T ≤ sb ∧ sb < w3.heap.size) := (Lib.hid (by rw [← hg, hsb]; exact ⟨HJ2.out.below ((Below.refl _ _).alloc (Nat.le_refl _) _), by simp, HJ2.out.k.tw, by simp⟩)); rw [← hsb]; clear hg hsb; have hnb : 0 < L.n := (by have := HN.out.2.2.2.2.1; omega); have hna : 0 < L.a.n := (by have := HN.out.1; omega); have hnp : 0 < L.b.n := (by have := HN.out.2.1; omega); have HEB : Hid (∀ W D, SJ w1 W L X D → ErrsAt vs vr W) := (Lib.hid (fun W D h => HE.out.below (H1.out.trans (h.k.bel.mono H1.out.size)))); have sp := H3.out.2.1; have sc := H3.out.1.b.c3
  go_upto_region 10 with (first
    | (go_at_call 12; (with_reducible refine (sjm_root hnb _ H3.out.1).mono ?_); rintro e w4 ⟨rfl, hj, hu⟩; have H4 : Hid (SJ _ w4 L X _ ∧ World.cell? w4 ⟨sb, 0, none⟩ = some (.pointer (some ⟨X.s, 0, none⟩)) ∧ L.T ≤ sb ∧ sb < World.size' w4) := (Lib.hid ⟨hj, (World.cell?_of_block (a := ⟨sb, 0, none⟩) (hu.2 sb (H3).out.2.2.1 (H3).out.2.2.2)).trans (H3).out.2.1, (H3).out.2.2.1, Nat.lt_of_lt_of_le (H3).out.2.2.2 hu.1⟩); clear hj hu sc sp; have sc := H4.out.1.b.c3; have sp := H4.out.2.1)
    | (go_at_call 15; (with_reducible refine (sjm_node hna vs vr _ (HEB.out _ _ H4.out.1) H4.out.1).mono ?_); rintro e w5 ⟨rfl, hj, hu⟩; have H5 : Hid (SJ _ w5 L X _ ∧ World.cell? w5 ⟨sb, 0, none⟩ = some (.pointer (some ⟨X.s, 0, none⟩)) ∧ L.T ≤ sb ∧ sb < World.size' w5) := (Lib.hid ⟨hj, (World.cell?_of_block (a := ⟨sb, 0, none⟩) (hu.2 sb (H4).out.2.2.1 (H4).out.2.2.2)).trans (H4).out.2.1, (H4).out.2.2.1, Nat.lt_of_lt_of_le (H4).out.2.2.2 hu.1⟩); clear hj hu sc sp; have sc := H5.out.1.b.c3; have sp := H5.out.2.1)
    | (go_at_call 17; (with_reducible refine (sjm_page hnp _ H5.out.1).mono ?_); rintro e w6 ⟨rfl, hj, hu⟩; have H6' : Hid (SJ _ w6 L X _ ∧ World.cell? w6 ⟨sb, 0, none⟩ = some (.pointer (some ⟨X.s, 0, none⟩)) ∧ L.T ≤ sb ∧ sb < World.size' w6) := (Lib.hid ⟨hj, (World.cell?_of_block (a := ⟨sb, 0, none⟩) (hu.2 sb (H5).out.2.2.1 (H5).out.2.2.2)).trans (H5).out.2.1, (H5).out.2.2.1, Nat.lt_of_lt_of_le (H5).out.2.2.2 hu.1⟩); clear hj hu sc sp; have sp := H6'.out.2.1))
  have hz6 : Hid (L.T ≤ sb ∧ sb < w6.heap.size) := Lib.hid ⟨H6'.out.2.2.1, H6'.out.2.2.2⟩; have HSM := Lib.hid (H6'.out.1.sm sb H6'.out.2.1 H6'.out.2.2.1); go_upto_region 11 with (first | (go_at_call 16; (with_reducible refine (sjm_nodekey hna H6'.out.1).mono ?_); rintro e w7 ⟨rfl, hb⟩; have HB7 : Hid (Below w6.heap.size w6 w7) := Lib.hid hb; clear hb)); generalize hg : World.alloc w7 _ = wk; obtain ⟨KN, hKN⟩ : ∃ KN, KN = w7.heap.size := ⟨_, rfl⟩; have HKN : Hid (Below w6.heap.size w6 wk ∧ KeyC wk KN 2 0 0 0 0 ∧ w6.heap.size ≤ KN) := (Lib.hid (by rw [← hg, hKN]; exact ⟨HB7.out.alloc HB7.out.size _, KeyC.new _ _ _ _ _ _ _, HB7.out.size⟩)); rw [← hKN]; clear hg hKN sp; have sp := (HSM.out.below HKN.out.1).p; go_upto_region 12 with (first | (go_at_call 16; (with_reducible refine (sjm_pagekey hnp (H6'.out.1.below HKN.out.1)).mono ?_); rintro e w7' ⟨rfl, hb⟩; have HB7' : Hid (Below wk.heap.size wk w7') := Lib.hid hb; clear hb)); generalize hg : World.alloc w7' _ = w8; obtain ⟨KP, hKP⟩ : ∃ KP, KP = w7'.heap.size := ⟨_, rfl⟩; have HL8 : Hid (LM w1 w8 L X.s sb w6.heap.size KN KP jD3) := (Lib.hid (by have hb : Below wk.heap.size wk w8 := (by rw [← hg]; exact HB7'.out.alloc HB7'.out.size _); have hz := HB7'.out.size; have hz2 := HKN.out.1.size; exact ⟨(HSM.out.below HKN.out.1).below hb, HKN.out.2.1.below hb, (by rw [← hg, hKP]; exact KeyC.new _ _ _ _ _ _ _), HKN.out.2.2, (by omega)⟩)); rw [← hKP]; clear hg hKP sp; have HE1 := Lib.hid (HE.out.below H1.out); have H61 := Lib.hid (H6.out.below H1.out)
  have HMt : Hid (∃ k, at_ % 40 = k ∧ 32 ≤ k ∧ k < 40) := Lib.hid ⟨_, rfl, ha, by omega⟩
  have hr2 : Hid (rightB 3 0 0 0 0 = true) := Lib.hid (by decide)
  have hl2 : Hid (liveB L.a L.b jD3.nt jD3.nv jD3.pt jD3.pv 3 0 0 = true) := Lib.hid (lv3 hnp rfl rfl)
  have hz19 : (nB 3).toArray.size = 19 := rfl
  go_upto_region 14 with fail
  obtain ⟨kt, hkt, hk0, hk1⟩ := HMt.out
  rw [hkt]
  clear HMt
  have sp := HL8.out.sm.p
  obtain ⟨q0, q1, q2, q3, q4⟩ := ofive HL8.out.kp
  go_upto_region 15 with (first
    | (go_at_call 35; (with_reducible refine (ask_poke_bad (nt := nB 3) rfl vs vr _ HE1.out H61.out HL8.out.sm 0 hr2 hl2 kt (by omega) (by omega) (by omega) w_).mono ?_); rintro e w9 ⟨rfl, hb⟩; have HB9 : Hid (Below w8.heap.size w8 w9) := Lib.hid hb; clear hb)
    | (refine wpList_store_mid (by rfl) _ _ _ (by rfl) w9.heap.size 0 (nB 3).toArray (by rfl) (by rfl) (by rw [hz19]; exact nthere_new _ _ 19 (by rfl) _) (by rw [hz19]; exact infoNote) (all_one (nB_one 3)) ?_))
  generalize hg : World.setCells _ w9.heap.size 0 _ = wa; obtain ⟨N0, hN⟩ : ∃ N, N = w9.heap.size := ⟨_, rfl⟩; have HN0 : Hid (Below w9.heap.size w9 wa ∧ World.rangeAt wa N0 0 (nB 3) ∧ N0 < wa.heap.size) := (Lib.hid (by have hb : Below w9.heap.size w9 wa := (by rw [← hg]; exact nbelow_cells ((Below.refl w9.heap.size w9).alloc (Nat.le_refl _) _) (Nat.le_refl _) _ _); have hr : World.rangeAt wa N0 0 (nB 3) := (by rw [← hg, hN]; exact World.rangeAt_setCells_same _ w9.heap.size 0 (nB 3) (by rw [(nB_len 3)]; exact nthere_new _ _ 19 (by rfl) _)); exact ⟨hb, hr, cell_lt (CallC.cell hr 0 _ rfl)⟩)); rw [← hN]; clear hg hN
  have HBa : Hid (Below w8.heap.size w8 wa) := Lib.hid (HB9.out.trans (HN0.out.1.mono HB9.out.size))
  have HLa := Lib.hid (HL8.out.below HBa.out)
  clear sp q0 q1 q2 q3 q4
  have sp := HLa.out.sm.p
  obtain ⟨q0, q1, q2, q3, q4⟩ := ofive HLa.out.kp
  go_upto_region 16 with (first
    | (go_at_call 35; (with_reducible refine (ask_peek_bad (nt := nB 3) rfl vs vr _ HE1.out H61.out HLa.out.sm 0 hr2 hl2 kt (by omega) (by omega) (by omega)).mono ?_); rintro e wb ⟨rfl, hb⟩; have HBb : Hid (Below wa.heap.size wa wb) := Lib.hid hb; clear hb)
    | (refine wpList_store_mid (by rfl) _ _ _ (by rfl) wb.heap.size 0 (nB 3).toArray (by rfl) (by rfl) (by rw [hz19]; exact nthere_new _ _ 19 (by rfl) _) (by rw [hz19]; exact infoNote) (all_one (nB_one 3)) ?_))
  generalize hg : World.setCells _ wb.heap.size 0 _ = wc; obtain ⟨N1, hN⟩ : ∃ N, N = wb.heap.size := ⟨_, rfl⟩; have HN1 : Hid (Below wb.heap.size wb wc ∧ World.rangeAt wc N1 0 (nB 3) ∧ N1 < wc.heap.size) := (Lib.hid (by have hb : Below wb.heap.size wb wc := (by rw [← hg]; exact nbelow_cells ((Below.refl wb.heap.size wb).alloc (Nat.le_refl _) _) (Nat.le_refl _) _ _); have hr : World.rangeAt wc N1 0 (nB 3) := (by rw [← hg, hN]; exact World.rangeAt_setCells_same _ wb.heap.size 0 (nB 3) (by rw [(nB_len 3)]; exact nthere_new _ _ 19 (by rfl) _)); exact ⟨hb, hr, cell_lt (CallC.cell hr 0 _ rfl)⟩)); rw [← hN]; clear hg hN
  have HBc : Hid (Below wa.heap.size wa wc) := Lib.hid (HBb.out.trans (HN1.out.1.mono HBb.out.size))
  have n0 := CallC.cell (range_below HN0.out.2.1 HBc.out HN0.out.2.2) 0 _ rfl
  have n1 := CallC.cell HN1.out.2.1 0 _ rfl
  have d32 : decide (32 ≤ kt) = true := decide_eq_true (by omega)
  clear sp q0 q1 q2 q3 q4
  have HFB : Hid (Below w.heap.size w wc) := Lib.hid (H1.out.trans ((HLa.out.below HBc.out).sm.m.sv.bel.mono H1.out.size))
  go_wp2_with fail
  go_ret
  exact ⟨rfl, HFB.out⟩
end Go.Proofs.YtncopdhhchmpeaaGreatDoor
