/-
  Ja, Jb, BkT, BkU, BkV, Jc, Jd, Je, Jf: what BankEnds reaches of them.
-/
import Derived.Test.YtagiabcmbihoaaaDoorQE3
namespace Go.Proofs.YtagiabcmbihoaaaDoor
open Go.ChangeShapes Go.WideShapes Go.ChangeAt Go.RowKit
set_option linter.unusedVariables false
set_option linter.unusedSimpArgs false
theorem BE.n256 {w0 w : World} {L : BLoc} {D : BSt} {th : Nat → Bool} {vr : Nat → Int} (h : BE w0 w L D th vr) : L.n ≤ 256 := h.kk.ar.le
set_option maxRecDepth 100000 in
set_option maxHeartbeats 1000000 in
theorem eblive_is {w0 : World} {L : BLoc} {D : BSt} {th : Nat → Bool} {vr : Nat → Int} (k0 k1 k2 k3 k4 : Int) (t : Bool) (ht : Hid (liveK L D k0 k1 k2 = t)) (w : World) (h : BE w0 w L D th vr) :
    Calls Tryd.prog 48 #[.pointer (some ⟨L.P, 0, none⟩), (Value.agg #[.int .i64 k0, .int .i64 k1, .int .i64 k2, .int .i64 k3, .int .u32 k4])] w fun e w' => e = .returned (.bool t) ∧ Below w.heap.size w w' := by
  have H := Lib.hid h
  clear h
  by_cases h4 : k0 = 4
  · have t4 : (k0 == 4) = true := by simpa using h4
    have HT : Hid ((thereB L.dn D.dt k1 && (D.dv k1.toNat == k2)) = t) := Lib.hid (by have := ht.out; unfold liveK at this; rwa [if_pos h4] at this)
    clear ht h4
    go_enter Tryd.func48, Tryd.ntmps48
    go_upto_region 2 with fail
    generalize hw2 : World.alloc w _ = w2
    have HB2 : Hid (Below w.heap.size w w2) := Lib.hid (by rw [← hw2]; exact (Below.refl _ _).alloc (Nat.le_refl _) _)
    obtain ⟨kb, hkb⟩ : ∃ kb, kb = w.heap.size := ⟨_, rfl⟩
    have HK2 : Hid (KeyC w2 kb k0 k1 k2 k3 k4) := Lib.hid (by rw [← hw2, hkb]; exact KeyC.new w k0 k1 k2 k3 k4 _)
    rw [← hkb]
    clear hw2 hkb
    have HW2 := Lib.hid ((H.out.below HB2.out).below (Below.refl _ _).drew)
    have hS0 : (World.cell? w2.drew ⟨L.P, 2, none⟩ = some (.pointer (some ⟨L.dP, 0, none⟩)) ∧ World.cell? w2.drew ⟨L.dP, 0, none⟩ = some (.pointer (some ⟨L.dp, 0, none⟩)) ∧ (World.cell? w2.drew ⟨kb, 0, none⟩ = some (.int .i64 k0) ∧ World.cell? w2.drew ⟨kb, 1, none⟩ = some (.int .i64 k1) ∧ World.cell? w2.drew ⟨kb, 2, none⟩ = some (.int .i64 k2) ∧ World.cell? w2.drew ⟨kb, 3, none⟩ = some (.int .i64 k3) ∧ World.cell? w2.drew ⟨kb, 4, none⟩ = some (.int .u32 k4))) := ⟨HW2.out.kk.f2, HW2.out.dd.pl.f0, (HK2.out.below (Below.refl _ _).drew).k5⟩
    refine wp_region_noPanic ?_
    refine wp_region_held_drew (S := fun w' => (World.cell? w' ⟨L.P, 2, none⟩ = some (.pointer (some ⟨L.dP, 0, none⟩)) ∧ World.cell? w' ⟨L.dP, 0, none⟩ = some (.pointer (some ⟨L.dp, 0, none⟩)) ∧ (World.cell? w' ⟨kb, 0, none⟩ = some (.int .i64 k0) ∧ World.cell? w' ⟨kb, 1, none⟩ = some (.int .i64 k1) ∧ World.cell? w' ⟨kb, 2, none⟩ = some (.int .i64 k2) ∧ World.cell? w' ⟨kb, 3, none⟩ = some (.int .i64 k3) ∧ World.cell? w' ⟨kb, 4, none⟩ = some (.int .u32 k4)))) (by kernel_rfl) hS0 (fun hHeld => ?_)
    clear hS0
    refine wpAnyH_take (i := 0) (v := ?_) (by rfl) (by kernel_rfl) (by kernel_rfl) (by kernel_rfl) (fun _ _ _ h => h) (Or.inl ⟨by kernel_rfl, ?_⟩) (by assumption) ?_; rotate_left 1; (focus (intro w hSw; (try dsimp only at hSw); simp only [List.getElem_toArray, List.getElem_cons_succ, List.getElem_cons_zero]; all_goals go_simp; all_goals (try with_reducible rfl))); (try simp only [Act.put, List.getElem_toArray, List.getElem_cons_succ, List.getElem_cons_zero, List.setIfInBounds_toArray, List.set_cons_zero, List.set_cons_succ])
    refine wpAnyH_take (i := 1) (v := ?_) (by rfl) (by kernel_rfl) (by kernel_rfl) (by kernel_rfl) (fun _ _ _ h => h) (Or.inl ⟨by kernel_rfl, ?_⟩) (by assumption) ?_; rotate_left 1; (focus (intro w hSw; (try dsimp only at hSw); simp only [List.getElem_toArray, List.getElem_cons_succ, List.getElem_cons_zero]; all_goals go_simp; all_goals (try with_reducible rfl))); (try simp only [Act.put, List.getElem_toArray, List.getElem_cons_succ, List.getElem_cons_zero, List.setIfInBounds_toArray, List.set_cons_zero, List.set_cons_succ])
    refine wpAnyH_take (i := 2) (v := ?_) (by rfl) (by kernel_rfl) (by kernel_rfl) (by kernel_rfl) (fun _ _ _ h => h) (Or.inl ⟨by kernel_rfl, ?_⟩) (by assumption) ?_; rotate_left 1; (focus (intro w hSw; (try dsimp only at hSw); simp only [List.getElem_toArray, List.getElem_cons_succ, List.getElem_cons_zero]; all_goals go_simp; all_goals (try with_reducible rfl))); (try simp only [Act.put, List.getElem_toArray, List.getElem_cons_succ, List.getElem_cons_zero, List.setIfInBounds_toArray, List.set_cons_zero, List.set_cons_succ])
    refine wpAnyH_take (i := 3) (v := ?_) (by rfl) (by kernel_rfl) (by kernel_rfl) (by kernel_rfl) (fun _ _ _ h => h) (Or.inl ⟨by kernel_rfl, ?_⟩) (by assumption) ?_; rotate_left 1; (focus (intro w hSw; (try dsimp only at hSw); simp only [List.getElem_toArray, List.getElem_cons_succ, List.getElem_cons_zero]; all_goals go_simp; all_goals (try with_reducible rfl))); (try simp only [Act.put, List.getElem_toArray, List.getElem_cons_succ, List.getElem_cons_zero, List.setIfInBounds_toArray, List.set_cons_zero, List.set_cons_succ])
    refine wpAnyH_take (i := 4) (v := ?_) (by rfl) (by kernel_rfl) (by kernel_rfl) (by kernel_rfl) (fun _ _ _ h => h) (Or.inl ⟨by kernel_rfl, ?_⟩) (by assumption) ?_; rotate_left 1; (focus (intro w hSw; (try dsimp only at hSw); simp only [List.getElem_toArray, List.getElem_cons_succ, List.getElem_cons_zero]; all_goals go_simp; all_goals (try with_reducible rfl))); (try simp only [Act.put, List.getElem_toArray, List.getElem_cons_succ, List.getElem_cons_zero, List.setIfInBounds_toArray, List.set_cons_zero, List.set_cons_succ])
    refine wpAnyH_take (i := 5) (v := ?_) (by rfl) (by kernel_rfl) (by kernel_rfl) (by kernel_rfl) (fun _ _ _ h => h) (Or.inl ⟨by kernel_rfl, ?_⟩) (by assumption) ?_; rotate_left 1; (focus (intro w hSw; (try dsimp only at hSw); simp only [List.getElem_toArray, List.getElem_cons_succ, List.getElem_cons_zero]; all_goals go_simp; all_goals (try with_reducible rfl))); (try simp only [Act.put, List.getElem_toArray, List.getElem_cons_succ, List.getElem_cons_zero, List.setIfInBounds_toArray, List.set_cons_zero, List.set_cons_succ])
    refine wpAnyH_take (i := 6) (v := ?_) (by rfl) (by kernel_rfl) (by kernel_rfl) (by kernel_rfl) (fun _ _ _ h => h) (Or.inl ⟨by kernel_rfl, ?_⟩) (by assumption) ?_; rotate_left 1; (focus (intro w hSw; (try dsimp only at hSw); simp only [List.getElem_toArray, List.getElem_cons_succ, List.getElem_cons_zero]; all_goals go_simp; all_goals (try with_reducible rfl))); (try simp only [Act.put, List.getElem_toArray, List.getElem_cons_succ, List.getElem_cons_zero, List.setIfInBounds_toArray, List.set_cons_zero, List.set_cons_succ])
    refine wpAnyH_take (i := 7) (v := ?_) (by rfl) (by kernel_rfl) (by kernel_rfl) (by kernel_rfl) (fun _ _ _ h => h) (Or.inl ⟨by kernel_rfl, ?_⟩) (by assumption) ?_; rotate_left 1; (focus (intro w hSw; (try dsimp only at hSw); simp only [List.getElem_toArray, List.getElem_cons_succ, List.getElem_cons_zero]; all_goals go_simp; all_goals (try with_reducible rfl))); (try simp only [Act.put, List.getElem_toArray, List.getElem_cons_succ, List.getElem_cons_zero, List.setIfInBounds_toArray, List.set_cons_zero, List.set_cons_succ])
    refine wpAnyH_take (i := 8) (v := ?_) (by rfl) (by kernel_rfl) (by kernel_rfl) (by kernel_rfl) (fun _ _ _ h => h) (Or.inl ⟨by kernel_rfl, ?_⟩) (by assumption) ?_; rotate_left 1; (focus (intro w hSw; (try dsimp only at hSw); simp only [List.getElem_toArray, List.getElem_cons_succ, List.getElem_cons_zero]; all_goals go_simp; all_goals (try with_reducible rfl))); (try simp only [Act.put, List.getElem_toArray, List.getElem_cons_succ, List.getElem_cons_zero, List.setIfInBounds_toArray, List.set_cons_zero, List.set_cons_succ])
    refine wpAnyH_take (i := 9) (v := ?_) (by rfl) (by kernel_rfl) (by kernel_rfl) (by kernel_rfl) (fun _ _ _ h => h) (Or.inl ⟨by kernel_rfl, ?_⟩) (by assumption) ?_; rotate_left 1; (focus (intro w hSw; (try dsimp only at hSw); simp only [List.getElem_toArray, List.getElem_cons_succ, List.getElem_cons_zero]; all_goals go_simp; all_goals (try with_reducible rfl))); (try simp only [Act.put, List.getElem_toArray, List.getElem_cons_succ, List.getElem_cons_zero, List.setIfInBounds_toArray, List.set_cons_zero, List.set_cons_succ])
    refine wpAnyH_take (i := 10) (v := ?_) (by rfl) (by kernel_rfl) (by kernel_rfl) (by kernel_rfl) (fun _ _ _ h => h) (Or.inl ⟨by kernel_rfl, ?_⟩) (by assumption) ?_; rotate_left 1; (focus (intro w hSw; (try dsimp only at hSw); simp only [List.getElem_toArray, List.getElem_cons_succ, List.getElem_cons_zero]; all_goals go_simp; all_goals (try with_reducible rfl))); (try simp only [Act.put, List.getElem_toArray, List.getElem_cons_succ, List.getElem_cons_zero, List.setIfInBounds_toArray, List.set_cons_zero, List.set_cons_succ])
    refine wpAnyH_ready (rs := [11]) (by kernel_rfl) (by simp) ?_; refine AllReadyH.cons (by rfl) (fun K hK => ?_) AllReadyH.nil; rw [if_pos (by kernel_rfl)]; simp only [List.getElem_toArray, List.getElem_cons_succ, List.getElem_cons_zero]
    go_wp2_with (first
      | (go_at_call 19; (with_reducible refine (alive_is k1 k2 t HT _ HW2.out.dd.pl.ar).mono ?_); rintro e w3 ⟨rfl, rfl⟩))
    refine hK.out _ _ (by assumption) (fun hHeld => ?_)
    clear hK K
    (try simp only [Act.put, List.getElem_toArray, List.getElem_cons_succ, List.getElem_cons_zero, List.setIfInBounds_toArray, List.set_cons_zero, List.set_cons_succ])
    refine wpAnyH_take (i := 12) (v := ?_) (by rfl) (by kernel_rfl) (by kernel_rfl) (by kernel_rfl) (fun _ _ _ h => h) (Or.inl ⟨by kernel_rfl, ?_⟩) (by assumption) ?_; rotate_left 1; (focus (intro w hSw; (try dsimp only at hSw); simp only [List.getElem_toArray, List.getElem_cons_succ, List.getElem_cons_zero]; all_goals go_simp; all_goals (try with_reducible rfl))); (try simp only [Act.put, List.getElem_toArray, List.getElem_cons_succ, List.getElem_cons_zero, List.setIfInBounds_toArray, List.set_cons_zero, List.set_cons_succ])
    refine wpAnyH_done (by kernel_rfl) ?_ _
    refine NoPanic.normal ?_
    go_wp2_with fail
    go_ret
    exact ⟨rfl, HB2.out.drew⟩
  · have t4 : (k0 == 4) = false := by simpa using h4
    have HT : Hid ((if k0 = 2 then (thereB L.a.n D.nt k1 && (D.nv k1.toNat == k2)) else if k0 = 3 then (thereB L.b.n D.pt k1 && (D.pv k1.toNat == k2)) else false) = t) := Lib.hid (by have := ht.out; unfold liveK at this; rwa [if_neg h4] at this)
    clear ht h4
    go_enter Tryd.func48, Tryd.ntmps48
    go_upto_region 3 with fail
    generalize hw2 : World.alloc w _ = w2
    have HB2 : Hid (Below w.heap.size w w2) := Lib.hid (by rw [← hw2]; exact (Below.refl _ _).alloc (Nat.le_refl _) _)
    obtain ⟨kb, hkb⟩ : ∃ kb, kb = w.heap.size := ⟨_, rfl⟩
    have HK2 : Hid (KeyC w2 kb k0 k1 k2 k3 k4) := Lib.hid (by rw [← hw2, hkb]; exact KeyC.new w k0 k1 k2 k3 k4 _)
    rw [← hkb]
    clear hw2 hkb
    have HW2 := Lib.hid ((H.out.below HB2.out).below (Below.refl _ _).drew)
    have HKd := Lib.hid (HK2.out.below (Below.refl _ _).drew)
    have hS0 : (World.cell? w2.drew ⟨L.P, 1, none⟩ = some (.pointer (some ⟨L.mb, 0, none⟩)) ∧ World.cell? w2.drew ⟨L.mb, 0, none⟩ = some (.pointer (some ⟨L.S, 0, none⟩)) ∧ (World.cell? w2.drew ⟨kb, 0, none⟩ = some (.int .i64 k0) ∧ World.cell? w2.drew ⟨kb, 1, none⟩ = some (.int .i64 k1) ∧ World.cell? w2.drew ⟨kb, 2, none⟩ = some (.int .i64 k2) ∧ World.cell? w2.drew ⟨kb, 3, none⟩ = some (.int .i64 k3) ∧ World.cell? w2.drew ⟨kb, 4, none⟩ = some (.int .u32 k4))) := ⟨HW2.out.kk.f1, HW2.out.mm.m0, HKd.out.k5⟩
    refine wp_region_noPanic ?_
    refine wp_region_held_drew (S := fun w' => (World.cell? w' ⟨L.P, 1, none⟩ = some (.pointer (some ⟨L.mb, 0, none⟩)) ∧ World.cell? w' ⟨L.mb, 0, none⟩ = some (.pointer (some ⟨L.S, 0, none⟩)) ∧ (World.cell? w' ⟨kb, 0, none⟩ = some (.int .i64 k0) ∧ World.cell? w' ⟨kb, 1, none⟩ = some (.int .i64 k1) ∧ World.cell? w' ⟨kb, 2, none⟩ = some (.int .i64 k2) ∧ World.cell? w' ⟨kb, 3, none⟩ = some (.int .i64 k3) ∧ World.cell? w' ⟨kb, 4, none⟩ = some (.int .u32 k4)))) (by kernel_rfl) hS0 (fun hHeld => ?_)
    clear hS0
    refine wpAnyH_take (i := 0) (v := ?_) (by rfl) (by kernel_rfl) (by kernel_rfl) (by kernel_rfl) (fun _ _ _ h => h) (Or.inl ⟨by kernel_rfl, ?_⟩) (by assumption) ?_; rotate_left 1; (focus (intro w hSw; (try dsimp only at hSw); simp only [List.getElem_toArray, List.getElem_cons_succ, List.getElem_cons_zero]; all_goals go_simp; all_goals (try with_reducible rfl))); (try simp only [Act.put, List.getElem_toArray, List.getElem_cons_succ, List.getElem_cons_zero, List.setIfInBounds_toArray, List.set_cons_zero, List.set_cons_succ])
    refine wpAnyH_take (i := 1) (v := ?_) (by rfl) (by kernel_rfl) (by kernel_rfl) (by kernel_rfl) (fun _ _ _ h => h) (Or.inl ⟨by kernel_rfl, ?_⟩) (by assumption) ?_; rotate_left 1; (focus (intro w hSw; (try dsimp only at hSw); simp only [List.getElem_toArray, List.getElem_cons_succ, List.getElem_cons_zero]; all_goals go_simp; all_goals (try with_reducible rfl))); (try simp only [Act.put, List.getElem_toArray, List.getElem_cons_succ, List.getElem_cons_zero, List.setIfInBounds_toArray, List.set_cons_zero, List.set_cons_succ])
    refine wpAnyH_take (i := 2) (v := ?_) (by rfl) (by kernel_rfl) (by kernel_rfl) (by kernel_rfl) (fun _ _ _ h => h) (Or.inl ⟨by kernel_rfl, ?_⟩) (by assumption) ?_; rotate_left 1; (focus (intro w hSw; (try dsimp only at hSw); simp only [List.getElem_toArray, List.getElem_cons_succ, List.getElem_cons_zero]; all_goals go_simp; all_goals (try with_reducible rfl))); (try simp only [Act.put, List.getElem_toArray, List.getElem_cons_succ, List.getElem_cons_zero, List.setIfInBounds_toArray, List.set_cons_zero, List.set_cons_succ])
    refine wpAnyH_take (i := 3) (v := ?_) (by rfl) (by kernel_rfl) (by kernel_rfl) (by kernel_rfl) (fun _ _ _ h => h) (Or.inl ⟨by kernel_rfl, ?_⟩) (by assumption) ?_; rotate_left 1; (focus (intro w hSw; (try dsimp only at hSw); simp only [List.getElem_toArray, List.getElem_cons_succ, List.getElem_cons_zero]; all_goals go_simp; all_goals (try with_reducible rfl))); (try simp only [Act.put, List.getElem_toArray, List.getElem_cons_succ, List.getElem_cons_zero, List.setIfInBounds_toArray, List.set_cons_zero, List.set_cons_succ])
    refine wpAnyH_take (i := 4) (v := ?_) (by rfl) (by kernel_rfl) (by kernel_rfl) (by kernel_rfl) (fun _ _ _ h => h) (Or.inl ⟨by kernel_rfl, ?_⟩) (by assumption) ?_; rotate_left 1; (focus (intro w hSw; (try dsimp only at hSw); simp only [List.getElem_toArray, List.getElem_cons_succ, List.getElem_cons_zero]; all_goals go_simp; all_goals (try with_reducible rfl))); (try simp only [Act.put, List.getElem_toArray, List.getElem_cons_succ, List.getElem_cons_zero, List.setIfInBounds_toArray, List.set_cons_zero, List.set_cons_succ])
    refine wpAnyH_take (i := 5) (v := ?_) (by rfl) (by kernel_rfl) (by kernel_rfl) (by kernel_rfl) (fun _ _ _ h => h) (Or.inl ⟨by kernel_rfl, ?_⟩) (by assumption) ?_; rotate_left 1; (focus (intro w hSw; (try dsimp only at hSw); simp only [List.getElem_toArray, List.getElem_cons_succ, List.getElem_cons_zero]; all_goals go_simp; all_goals (try with_reducible rfl))); (try simp only [Act.put, List.getElem_toArray, List.getElem_cons_succ, List.getElem_cons_zero, List.setIfInBounds_toArray, List.set_cons_zero, List.set_cons_succ])
    refine wpAnyH_take (i := 6) (v := ?_) (by rfl) (by kernel_rfl) (by kernel_rfl) (by kernel_rfl) (fun _ _ _ h => h) (Or.inl ⟨by kernel_rfl, ?_⟩) (by assumption) ?_; rotate_left 1; (focus (intro w hSw; (try dsimp only at hSw); simp only [List.getElem_toArray, List.getElem_cons_succ, List.getElem_cons_zero]; all_goals go_simp; all_goals (try with_reducible rfl))); (try simp only [Act.put, List.getElem_toArray, List.getElem_cons_succ, List.getElem_cons_zero, List.setIfInBounds_toArray, List.set_cons_zero, List.set_cons_succ])
    refine wpAnyH_take (i := 7) (v := ?_) (by rfl) (by kernel_rfl) (by kernel_rfl) (by kernel_rfl) (fun _ _ _ h => h) (Or.inl ⟨by kernel_rfl, ?_⟩) (by assumption) ?_; rotate_left 1; (focus (intro w hSw; (try dsimp only at hSw); simp only [List.getElem_toArray, List.getElem_cons_succ, List.getElem_cons_zero]; all_goals go_simp; all_goals (try with_reducible rfl))); (try simp only [Act.put, List.getElem_toArray, List.getElem_cons_succ, List.getElem_cons_zero, List.setIfInBounds_toArray, List.set_cons_zero, List.set_cons_succ])
    refine wpAnyH_ready (rs := [8]) (by kernel_rfl) (by simp) ?_; refine AllReadyH.cons (by rfl) (fun K hK => ?_) AllReadyH.nil; rw [if_pos (by kernel_rfl)]; simp only [List.getElem_toArray, List.getElem_cons_succ, List.getElem_cons_zero]
    go_wp2_with (first
      | (go_at_call 18; (with_reducible refine (slive_is k0 k1 k2 k3 k4 t HT _ HW2.out.mm.sv.st).mono ?_); rintro e w3 ⟨rfl, hb⟩; have HW3 := Lib.hid (HW2.out.below hb); have HK3 := Lib.hid (HKd.out.below hb); have HB3 := Lib.hid hb; clear hb))
    refine hK.out _ _ ⟨HW3.out.kk.f1, HW3.out.mm.m0, HK3.out.k5⟩ (fun hHeld => ?_)
    clear hK K
    (try simp only [Act.put, List.getElem_toArray, List.getElem_cons_succ, List.getElem_cons_zero, List.setIfInBounds_toArray, List.set_cons_zero, List.set_cons_succ])
    refine wpAnyH_take (i := 9) (v := ?_) (by rfl) (by kernel_rfl) (by kernel_rfl) (by kernel_rfl) (fun _ _ _ h => h) (Or.inl ⟨by kernel_rfl, ?_⟩) (by assumption) ?_; rotate_left 1; (focus (intro w hSw; (try dsimp only at hSw); simp only [List.getElem_toArray, List.getElem_cons_succ, List.getElem_cons_zero]; all_goals go_simp; all_goals (try with_reducible rfl))); (try simp only [Act.put, List.getElem_toArray, List.getElem_cons_succ, List.getElem_cons_zero, List.setIfInBounds_toArray, List.set_cons_zero, List.set_cons_succ])
    refine wpAnyH_done (by kernel_rfl) ?_ _
    refine NoPanic.normal ?_
    go_wp2_with fail
    go_ret
    exact ⟨rfl, HB2.out.drew.trans (HB3.out.mono (by simpa using HB2.out.size))⟩
theorem ebtitles_is {w0 : World} {L : BLoc} {D : BSt} {th : Nat → Bool} {vr : Nat → Int} (k0 : Int) (G : Nat) (hk : k0 = 2 ∧ G = L.G1 ∨ k0 = 3 ∧ G = L.G2 ∨ ¬ k0 = 2 ∧ ¬ k0 = 3 ∧ G = L.G3) (w : World) (h : BE w0 w L D th vr) :
    Calls Tryd.prog 49 #[.pointer (some ⟨L.P, 0, none⟩), .int .i64 k0] w fun e w' => e = .returned (.slice (some ⟨G, 0, none⟩) 256 256) ∧ w = w' := by
  have f4 := h.kk.f4
  have f5 := h.kk.f5
  have f6 := h.kk.f6
  clear h
  rcases hk with ⟨rfl, rfl⟩ | ⟨rfl, rfl⟩ | ⟨h2, h3, rfl⟩
  · go_enter Tryd.func49, Tryd.ntmps49
    go_wp2_with fail
    go_ret
    exact ⟨rfl, rfl⟩
  · go_enter Tryd.func49, Tryd.ntmps49
    go_wp2_with fail
    go_ret
    exact ⟨rfl, rfl⟩
  · have t2 : (k0 == 2) = false := by simpa using h2
    have t3 : (k0 == 3) = false := by simpa using h3
    clear h2 h3
    go_enter Tryd.func49, Tryd.ntmps49
    go_wp2_with fail
    go_ret
    exact ⟨rfl, rfl⟩
theorem ebowner_dead {w0 : World} {L : BLoc} {D : BSt} {th : Nat → Bool} {vr : Nat → Int} (k0 k1 k2 k3 k4 : Int) (ht : Hid (liveK L D k0 k1 k2 = false)) (w : World) (h : BE w0 w L D th vr) :
    Calls Tryd.prog 20 #[.pointer (some ⟨L.P, 0, none⟩), (Value.agg #[.int .i64 k0, .int .i64 k1, .int .i64 k2, .int .i64 k3, .int .u32 k4])] w fun e w' => e = .returned (.int .i64 (-1)) ∧ Below w.heap.size w w' := by
  have H := Lib.hid (fun o => h.below ((Below.refl _ _).alloc (Nat.le_refl _) _ : Below w.heap.size w (w.alloc o)))
  clear h
  go_enter Tryd.func20, Tryd.ntmps20
  go_wp2_with (first
    | (go_at_call 48; (with_reducible refine (eblive_is k0 k1 k2 k3 k4 false ht _ (H.out _)).mono ?_); rintro e w3 ⟨rfl, hb⟩; have HB := Lib.hid hb; clear hb))
  go_ret
  exact ⟨rfl, ((Below.refl _ _).alloc (Nat.le_refl _) _ : Below w.heap.size w _).trans (HB.out.mono (by simp))⟩
set_option maxRecDepth 100000 in
set_option maxHeartbeats 2000000 in
theorem ebowner_live {w0 : World} {L : BLoc} {D : BSt} {th : Nat → Bool} {vr : Nat → Int} (k0 : Int) (k1 : Nat) (k2 k3 k4 : Int) (G q : Nat) (hj2 : k1 < 256) (hqn : q < L.n) (hth : Hid (th q = true)) (ht : Hid (liveK L D k0 k1 k2 = true)) (w : World) (h : BE w0 w L D th vr) (hT : TiAt w L k0 G k1 q k2) :
    Calls Tryd.prog 20 #[.pointer (some ⟨L.P, 0, none⟩), (Value.agg #[.int .i64 k0, .int .i64 k1, .int .i64 k2, .int .i64 k3, .int .u32 k4])] w fun e w' => e = .returned (.int .i64 (q : Int)) ∧ Below w.heap.size w w' := by
  have H := Lib.hid h
  have HT := Lib.hid hT
  have HKk := Lib.hid hT.hk
  have hn := h.n256
  have j0 : (0 : Int) ≤ k1 := by omega
  have j1 : (k1 : Int) < 256 := by omega
  clear h hT
  go_enter Tryd.func20, Tryd.ntmps20
  go_upto_region 1 with fail
  generalize hw2 : World.alloc w _ = w2
  have HB2 : Hid (Below w.heap.size w w2) := Lib.hid (by rw [← hw2]; exact (Below.refl _ _).alloc (Nat.le_refl _) _)
  obtain ⟨kb, hkb⟩ : ∃ kb, kb = w.heap.size := ⟨_, rfl⟩
  have HK2 : Hid (KeyC w2 kb (k0) (k1 : Int) k2 k3 k4) := Lib.hid (by rw [← hw2, hkb]; exact KeyC.new w k0 (k1 : Int) k2 k3 k4 _)
  rw [← hkb]
  clear hw2 hkb
  have HW2 := Lib.hid (H.out.below HB2.out)
  have q0 := HK2.out.c0
  have q1 := HK2.out.c1
  have q2 := HK2.out.c2
  have q3 := HK2.out.c3
  have q4 := HK2.out.c4
  go_upto_region 3 with (first
    | (go_at_call 48; (with_reducible refine (eblive_is k0 (k1 : Int) k2 k3 k4 true ht _ HW2.out).mono ?_); rintro e w3 ⟨rfl, hb⟩; have HB3 := Lib.hid (HB2.out.trans (hb.mono HB2.out.size)); have HK3 := Lib.hid (HK2.out.below hb); have HW3 := Lib.hid (HW2.out.below hb); clear hb q0 q1 q2 q3 q4))
  obtain ⟨wD, hwD⟩ : ∃ wD, wD = w3.drew := ⟨_, rfl⟩
  have HBD : Hid (Below w3.heap.size w3 wD) := Lib.hid (by rw [hwD]; exact (Below.refl _ _).drew)
  have HKD := Lib.hid (HK3.out.below HBD.out)
  have HTD := Lib.hid (HT.out.below (HB3.out.trans (HBD.out.mono HB3.out.size)))
  have HWD := Lib.hid (HW3.out.below HBD.out)
  have HSO : Hid (∀ W, Below wD.heap.size wD W → ((World.cell? W ⟨kb, 0, none⟩ = some (.int .i64 k0) ∧ World.cell? W ⟨kb, 1, none⟩ = some (.int .i64 k1) ∧ World.cell? W ⟨kb, 2, none⟩ = some (.int .i64 k2) ∧ World.cell? W ⟨kb, 3, none⟩ = some (.int .i64 k3) ∧ World.cell? W ⟨kb, 4, none⟩ = some (.int .u32 k4)) ∧ World.cell? W ⟨G, k1 * 2, none⟩ = some (.int .i64 (q : Int)) ∧ World.cell? W ⟨G, k1 * 2 + 1, none⟩ = some (.int .i64 k2))) := Lib.hid (fun W hb => ⟨(HKD.out.below hb).k5, (HTD.out.below hb).c0, (HTD.out.below hb).c1⟩)
  refine wp_region_noPanic ?_
  refine wp_region_held_drew (S := fun w' => ((World.cell? w' ⟨kb, 0, none⟩ = some (.int .i64 k0) ∧ World.cell? w' ⟨kb, 1, none⟩ = some (.int .i64 k1) ∧ World.cell? w' ⟨kb, 2, none⟩ = some (.int .i64 k2) ∧ World.cell? w' ⟨kb, 3, none⟩ = some (.int .i64 k3) ∧ World.cell? w' ⟨kb, 4, none⟩ = some (.int .u32 k4)) ∧ World.cell? w' ⟨G, k1 * 2, none⟩ = some (.int .i64 (q : Int)) ∧ World.cell? w' ⟨G, k1 * 2 + 1, none⟩ = some (.int .i64 k2))) (by kernel_rfl) (by rw [← hwD]; exact HSO.out _ (Below.refl _ _)) (fun hHeld => ?_)
  rw [← hwD] at hHeld ⊢
  clear hwD
  refine wpAnyH_take (i := 0) (v := ?_) (by rfl) (by kernel_rfl) (by kernel_rfl) (by kernel_rfl) (fun _ _ _ h => h) (Or.inl ⟨by kernel_rfl, ?_⟩) (by assumption) ?_; rotate_left 1; (focus (intro w hSw; (try dsimp only at hSw); simp only [List.getElem_toArray, List.getElem_cons_succ, List.getElem_cons_zero]; all_goals go_simp; all_goals (try with_reducible rfl))); (try simp only [Act.put, List.getElem_toArray, List.getElem_cons_succ, List.getElem_cons_zero, List.setIfInBounds_toArray, List.set_cons_zero, List.set_cons_succ])
  refine wpAnyH_take (i := 1) (v := ?_) (by rfl) (by kernel_rfl) (by kernel_rfl) (by kernel_rfl) (fun _ _ _ h => h) (Or.inl ⟨by kernel_rfl, ?_⟩) (by assumption) ?_; rotate_left 1; (focus (intro w hSw; (try dsimp only at hSw); simp only [List.getElem_toArray, List.getElem_cons_succ, List.getElem_cons_zero]; all_goals go_simp; all_goals (try with_reducible rfl))); (try simp only [Act.put, List.getElem_toArray, List.getElem_cons_succ, List.getElem_cons_zero, List.setIfInBounds_toArray, List.set_cons_zero, List.set_cons_succ])
  refine wpAnyH_take (i := 2) (v := ?_) (by rfl) (by kernel_rfl) (by kernel_rfl) (by kernel_rfl) (fun _ _ _ h => h) (Or.inl ⟨by kernel_rfl, ?_⟩) (by assumption) ?_; rotate_left 1; (focus (intro w hSw; (try dsimp only at hSw); simp only [List.getElem_toArray, List.getElem_cons_succ, List.getElem_cons_zero]; all_goals go_simp; all_goals (try with_reducible rfl))); (try simp only [Act.put, List.getElem_toArray, List.getElem_cons_succ, List.getElem_cons_zero, List.setIfInBounds_toArray, List.set_cons_zero, List.set_cons_succ])
  refine wpAnyH_take (i := 4) (v := ?_) (by rfl) (by kernel_rfl) (by kernel_rfl) (by kernel_rfl) (fun _ _ _ h => h) (Or.inl ⟨by kernel_rfl, ?_⟩) (by assumption) ?_; rotate_left 1; (focus (intro w hSw; (try dsimp only at hSw); simp only [List.getElem_toArray, List.getElem_cons_succ, List.getElem_cons_zero]; all_goals go_simp; all_goals (try with_reducible rfl))); (try simp only [Act.put, List.getElem_toArray, List.getElem_cons_succ, List.getElem_cons_zero, List.setIfInBounds_toArray, List.set_cons_zero, List.set_cons_succ])
  refine wpAnyH_take (i := 5) (v := ?_) (by rfl) (by kernel_rfl) (by kernel_rfl) (by kernel_rfl) (fun _ _ _ h => h) (Or.inl ⟨by kernel_rfl, ?_⟩) (by assumption) ?_; rotate_left 1; (focus (intro w hSw; (try dsimp only at hSw); simp only [List.getElem_toArray, List.getElem_cons_succ, List.getElem_cons_zero]; all_goals go_simp; all_goals (try with_reducible rfl))); (try simp only [Act.put, List.getElem_toArray, List.getElem_cons_succ, List.getElem_cons_zero, List.setIfInBounds_toArray, List.set_cons_zero, List.set_cons_succ])
  refine wpAnyH_ready (rs := [3, 8]) (by kernel_rfl) (by simp) ?_
  refine AllReadyH.cons (by rfl) (fun K' hK => ?_) (AllReadyH.cons (by rfl) (fun K' hK => ?_) AllReadyH.nil)
  · rw [if_pos (by kernel_rfl)]; simp only [List.getElem_toArray, List.getElem_cons_succ, List.getElem_cons_zero]
    go_wp2_with (first
      | (go_at_call 49; (with_reducible refine (ebtitles_is k0 G HKk.out _ HWD.out).mono ?_); rintro e w5 ⟨rfl, rfl⟩))
    refine hK.out _ _ (HSO.out _ (Below.refl _ _)) (fun hHeld => ?_); clear hK; (try simp only [Act.put, List.getElem_toArray, List.getElem_cons_succ, List.getElem_cons_zero, List.setIfInBounds_toArray, List.set_cons_zero, List.set_cons_succ])
    refine wpAnyH_take (i := 6) (v := ?_) (by rfl) (by kernel_rfl) (by kernel_rfl) (by kernel_rfl) (fun _ _ _ h => h) (Or.inl ⟨by kernel_rfl, ?_⟩) (by assumption) ?_; rotate_left 1; (focus (intro w hSw; (try dsimp only at hSw); simp only [List.getElem_toArray, List.getElem_cons_succ, List.getElem_cons_zero]; all_goals go_simp; all_goals (try with_reducible rfl))); (try simp only [Act.put, List.getElem_toArray, List.getElem_cons_succ, List.getElem_cons_zero, List.setIfInBounds_toArray, List.set_cons_zero, List.set_cons_succ])
    refine wpAnyH_take (i := 7) (v := ?_) (by rfl) (by kernel_rfl) (by kernel_rfl) (by kernel_rfl) (fun _ _ _ h => h) (Or.inl ⟨by kernel_rfl, ?_⟩) (by assumption) ?_; rotate_left 1; (focus (intro w hSw; (try dsimp only at hSw); simp only [List.getElem_toArray, List.getElem_cons_succ, List.getElem_cons_zero]; all_goals go_simp; all_goals (try with_reducible rfl))); (try simp only [Act.put, List.getElem_toArray, List.getElem_cons_succ, List.getElem_cons_zero, List.setIfInBounds_toArray, List.set_cons_zero, List.set_cons_succ])
    refine wpAnyH_ready (rs := [8]) (by kernel_rfl) (by simp) ?_; refine AllReadyH.cons (by rfl) (fun K hK => ?_) AllReadyH.nil; rw [if_pos (by kernel_rfl)]; simp only [List.getElem_toArray, List.getElem_cons_succ, List.getElem_cons_zero]
    go_wp2_with fail
    refine hK.out _ _ (HSO.out _ ((Below.refl _ _).alloc (Nat.le_refl _) _)) (fun hHeld => ?_); clear hK; (try simp only [Act.put, List.getElem_toArray, List.getElem_cons_succ, List.getElem_cons_zero, List.setIfInBounds_toArray, List.set_cons_zero, List.set_cons_succ])
    refine wpAnyH_ready (rs := [9]) (by kernel_rfl) (by simp) ?_; refine AllReadyH.cons (by rfl) (fun K hK => ?_) AllReadyH.nil; rw [if_pos (by kernel_rfl)]; simp only [List.getElem_toArray, List.getElem_cons_succ, List.getElem_cons_zero]
    go_wp2_with fail
    refine hK.out _ _ (HSO.out _ ((Below.refl _ _).alloc (Nat.le_refl _) _)) (fun hHeld => ?_); clear hK; (try simp only [Act.put, List.getElem_toArray, List.getElem_cons_succ, List.getElem_cons_zero, List.setIfInBounds_toArray, List.set_cons_zero, List.set_cons_succ])
    clear hHeld
    refine wpAnyH_done (by kernel_rfl) ?_ _; refine NoPanic.normal ?_
    generalize hw7 : World.alloc wD _ = w7
    have HB7 : Hid (Below wD.heap.size wD w7) := Lib.hid (by rw [← hw7]; exact (Below.refl _ _).alloc (Nat.le_refl _) _); have HC7 : Hid (w7.cell? ⟨wD.heap.size, 0, none⟩ = some (.int .i64 (q : Int)) ∧ w7.cell? ⟨wD.heap.size, 1, none⟩ = some (.int .i64 k2)) := Lib.hid (by rw [← hw7]; simp); clear hw7; have HK7 := Lib.hid (HKD.out.below HB7.out); have HW7 := Lib.hid ((HWD.out.below HB7.out).below (Below.refl _ _).drew); have HA9 := Lib.hid (fun n => ((HWD.out.below HB7.out).below (below_drewN (Below.refl _ _) n)).kk.ar); obtain ⟨c0, c1⟩ := HC7.out; have q2 := HK7.out.c2; have f0 := HW7.out.kk.f0; have f9 := (HWD.out.below HB7.out).kk.f0; clear HC7; have hk2 : (k2 != k2) = false := (by simp); go_wp2_with fail; go_quiet ((go_at_call 17; exact kquiet_left (athere_in q hqn true hth _ (HA9.out _)))); go_wp2_with fail; go_ret; exact ⟨rfl, (HB3.out.trans (HBD.out.mono HB3.out.size)).trans ((below_drewN HB7.out _).mono (Nat.le_trans HB3.out.size HBD.out.size))⟩
  · rw [if_pos (by kernel_rfl)]; simp only [List.getElem_toArray, List.getElem_cons_succ, List.getElem_cons_zero]
    go_wp2_with fail
    refine hK.out _ _ (HSO.out _ ((Below.refl _ _).alloc (Nat.le_refl _) _)) (fun hHeld => ?_); clear hK; (try simp only [Act.put, List.getElem_toArray, List.getElem_cons_succ, List.getElem_cons_zero, List.setIfInBounds_toArray, List.set_cons_zero, List.set_cons_succ])
    refine wpAnyH_ready (rs := [3]) (by kernel_rfl) (by simp) ?_; refine AllReadyH.cons (by rfl) (fun K hK => ?_) AllReadyH.nil; rw [if_pos (by kernel_rfl)]; simp only [List.getElem_toArray, List.getElem_cons_succ, List.getElem_cons_zero]
    go_wp2_with (first
      | (go_at_call 49; (with_reducible refine (ebtitles_is k0 G HKk.out _ (HWD.out.below ((Below.refl _ _).alloc (Nat.le_refl _) _))).mono ?_); rintro e w5 ⟨rfl, rfl⟩))
    refine hK.out _ _ (HSO.out _ ((Below.refl _ _).alloc (Nat.le_refl _) _)) (fun hHeld => ?_); clear hK; (try simp only [Act.put, List.getElem_toArray, List.getElem_cons_succ, List.getElem_cons_zero, List.setIfInBounds_toArray, List.set_cons_zero, List.set_cons_succ])
    refine wpAnyH_take (i := 6) (v := ?_) (by rfl) (by kernel_rfl) (by kernel_rfl) (by kernel_rfl) (fun _ _ _ h => h) (Or.inl ⟨by kernel_rfl, ?_⟩) (by assumption) ?_; rotate_left 1; (focus (intro w hSw; (try dsimp only at hSw); simp only [List.getElem_toArray, List.getElem_cons_succ, List.getElem_cons_zero]; all_goals go_simp; all_goals (try with_reducible rfl))); (try simp only [Act.put, List.getElem_toArray, List.getElem_cons_succ, List.getElem_cons_zero, List.setIfInBounds_toArray, List.set_cons_zero, List.set_cons_succ])
    refine wpAnyH_take (i := 7) (v := ?_) (by rfl) (by kernel_rfl) (by kernel_rfl) (by kernel_rfl) (fun _ _ _ h => h) (Or.inl ⟨by kernel_rfl, ?_⟩) (by assumption) ?_; rotate_left 1; (focus (intro w hSw; (try dsimp only at hSw); simp only [List.getElem_toArray, List.getElem_cons_succ, List.getElem_cons_zero]; all_goals go_simp; all_goals (try with_reducible rfl))); (try simp only [Act.put, List.getElem_toArray, List.getElem_cons_succ, List.getElem_cons_zero, List.setIfInBounds_toArray, List.set_cons_zero, List.set_cons_succ])
    refine wpAnyH_ready (rs := [9]) (by kernel_rfl) (by simp) ?_; refine AllReadyH.cons (by rfl) (fun K hK => ?_) AllReadyH.nil; rw [if_pos (by kernel_rfl)]; simp only [List.getElem_toArray, List.getElem_cons_succ, List.getElem_cons_zero]
    go_wp2_with fail
    refine hK.out _ _ (HSO.out _ ((Below.refl _ _).alloc (Nat.le_refl _) _)) (fun hHeld => ?_); clear hK; (try simp only [Act.put, List.getElem_toArray, List.getElem_cons_succ, List.getElem_cons_zero, List.setIfInBounds_toArray, List.set_cons_zero, List.set_cons_succ])
    clear hHeld
    refine wpAnyH_done (by kernel_rfl) ?_ _; refine NoPanic.normal ?_
    generalize hw7 : World.alloc wD _ = w7
    have HB7 : Hid (Below wD.heap.size wD w7) := Lib.hid (by rw [← hw7]; exact (Below.refl _ _).alloc (Nat.le_refl _) _); have HC7 : Hid (w7.cell? ⟨wD.heap.size, 0, none⟩ = some (.int .i64 (q : Int)) ∧ w7.cell? ⟨wD.heap.size, 1, none⟩ = some (.int .i64 k2)) := Lib.hid (by rw [← hw7]; simp); clear hw7; have HK7 := Lib.hid (HKD.out.below HB7.out); have HW7 := Lib.hid ((HWD.out.below HB7.out).below (Below.refl _ _).drew); have HA9 := Lib.hid (fun n => ((HWD.out.below HB7.out).below (below_drewN (Below.refl _ _) n)).kk.ar); obtain ⟨c0, c1⟩ := HC7.out; have q2 := HK7.out.c2; have f0 := HW7.out.kk.f0; have f9 := (HWD.out.below HB7.out).kk.f0; clear HC7; have hk2 : (k2 != k2) = false := (by simp); go_wp2_with fail; go_quiet ((go_at_call 17; exact kquiet_left (athere_in q hqn true hth _ (HA9.out _)))); go_wp2_with fail; go_ret; exact ⟨rfl, (HB3.out.trans (HBD.out.mono HB3.out.size)).trans ((below_drewN HB7.out _).mono (Nat.le_trans HB3.out.size HBD.out.size))⟩
set_option maxRecDepth 100000 in
set_option maxHeartbeats 1000000 in
theorem ebchain_is {base P p B A G1 G2 G3 n c mb db : Nat} {th : Nat → Bool} {vr pr us lm o1 v1 o2 v2 o3 v3 : Nat → Int} (y0 : Int) (nb : Nat) (hy0 : -1 ≤ y0) (hy1 : y0 < nb) (hnb : nb ≤ n) (hth : Hid (∀ z, z ∈ chL pr y0 → th z.toNat = true)) (hpr : Hid (PrOk nb pr)) (w : World) (h : (BkAt w base P p B A G1 G2 G3 n c mb db th vr pr us lm o1 v1 o2 v2 o3 v3)) :
    Calls Tryd.prog 35 #[.pointer (some ⟨P, 0, none⟩), .int .i64 y0] w fun e w' => ∃ v, e = .returned v ∧ w'.ownsRow w.heap.size 3 1 v (chL pr y0).length ((chL pr y0).map (Value.int .i64)) ∧ Below w.heap.size w w' := by
  have H := Lib.hid h
  have hn := h.ar.le
  obtain ⟨i0, hi, hz0, hz1, hz2⟩ := info_parts infoIntB
  have HI := Lib.hid (⟨hi, hz0, hz1, hz2⟩ : Tryd.prog.info? 3 = some i0 ∧ i0.zero = some (.int .i64 0) ∧ i0.size = 1 ∧ i0.bytes = 8)
  obtain ⟨LL, HLL⟩ : ∃ LL, Hid (chL pr y0 = LL) := ⟨_, Lib.hid rfl⟩
  have hLn : LL.length ≤ nb := by rw [← HLL.out]; exact (chL_bound hpr.out (by omega) nb y0 (by omega) (Nat.le_refl _)).1
  rw [HLL.out] at hth ⊢
  clear h hi hz0 hz1 hz2
  go_enter Tryd.func35, Tryd.ntmps35
  go_wp2_with fail
  go_loopw [1, 5] (fun x v wr => ∃ (y : Int) (xs : List Int), x = .int .i64 y ∧ -1 ≤ y ∧ y < nb ∧ Hid (xs ++ chL pr y = LL) ∧ wr.ownsRow w.heap.size 3 1 v xs.length (xs.map (Value.int .i64)) ∧ Below w.heap.size w wr) (fun x _ _ => (intOf x + 1).toNat)
  case atStart => exact ⟨y0, [], rfl, by omega, by omega, Lib.hid (by simpa using HLL.out), World.ownsRow_nil _ _ _ _, Below.refl _ _⟩
  case round =>
    obtain ⟨y, xs, rfl, hy0, hy1, HE, hown, hbel⟩ := hrel
    have HW := Lib.hid hown
    have HL := Lib.hid hbel
    have HM := Lib.hid (H.out.below hbel)
    have f0 := HM.out.f0
    have f3 := HM.out.f3
    have hxs : xs.length ≤ nb := by have := HE.out; rw [← this] at hLn; simp at hLn; omega
    clear hown hbel
    by_cases hlt : 0 ≤ y
    · obtain ⟨q, rfl⟩ : ∃ q : Nat, y = q := ⟨y.toNat, by omega⟩
      have hqj : q < nb := by omega
      obtain ⟨r, HR⟩ : ∃ r, Hid (pr q = r) := ⟨_, Lib.hid rfl⟩
      have hr := hpr.out q hqj
      rw [HR.out] at hr
      obtain ⟨hr0, hr1⟩ := hr
      have c0 := HM.out.ac0 q (by omega)
      rw [HR.out] at c0
      have HT : Hid (th q = true) := Lib.hid (by have := hth.out (q : Int) (by rw [← HE.out, chL_cons hpr.out q hqj (by omega)]; simp); simpa using this)
      have HE2 : Hid ((xs ++ [(q : Int)]) ++ chL pr r = LL) := Lib.hid (by
        rw [← HE.out, ← HR.out, chL_cons hpr.out q hqj (by omega)]
        simp)
      obtain ⟨nl, HNL⟩ : ∃ nl, Hid (xs.length = nl) := ⟨_, Lib.hid rfl⟩
      have hnl : nl ≤ 256 := by have := HNL.out; omega
      rw [HNL.out] at HW
      have k0 : (0 : Int) ≤ q := by omega
      have k1 : (q : Int) < n := by omega
      clear HE
      go_wp2_with (first
        | (go_at_call 17; (with_reducible refine (athere_in q (by omega) true HT _ HM.out.ar).mono ?_); rintro e w1 ⟨rfl, rfl⟩)
        | (at_builtin; refine wpList_append_own _ rfl _ _ 22 rfl w.heap.size 3 i0 (.int .i64 0) 1 8 Tryd.underlying22 HI.out.1 HI.out.2.1 HI.out.2.2.1 HI.out.2.2.2 rfl (by decide) _ _ _ rfl (HW.out.alloc _) ⟨wr.heap.size, 0, none⟩ 1 1 [.int .i64 q] rfl rfl (cell_one_new _ _ _) (ints_oneCell .i64 [(q : Int)]) (by unfold maxLen; omega) (by omega) (by have := HL.out.size; simp; omega) ?_; intro v' w2 hown' hgrow' _; have HB2 : Hid (Below w.heap.size w w2) := Lib.hid ((HL.out.alloc HL.out.size _).grown hgrow' (by have := HL.out.size; simp; omega) (fun g hg => (HW.out.lt g hg).1)); have HO2 : Hid (w2.ownsRow w.heap.size 3 1 v' (nl + 1) ((xs ++ [(q : Int)]).map (Value.int .i64))) := Lib.hid (by rw [List.map_append]; exact hown'); have HM2 := Lib.hid (H.out.below HB2.out); have f0' := HM2.out.f0; have f3' := HM2.out.f3; have c0' := HM2.out.ac0 q (by omega); rw [HR.out] at c0'; clear hown' hgrow' f0 f3 c0))
      go_roundw
      case rel => exact ⟨r, xs ++ [(q : Int)], rfl, by omega, by omega, HE2, by rw [show (xs ++ [(q : Int)]).length = nl + 1 by have := HNL.out; simp; omega]; exact HO2.out, HB2.out⟩
      case measure => simp [intOf]; omega
    · have HE3 : Hid (xs = LL) := Lib.hid (by have h := HE.out; rw [chL_neg _ _ (by omega)] at h; simpa using h)
      go_wp2_with (first
        | (go_at_call 17; (with_reducible refine (athere_out _ (by omega) _ HM.out.ar).mono ?_); rintro e w1 ⟨rfl, rfl⟩))
      go_ret
      exact ⟨_, rfl, by rw [← HE3.out]; exact HW.out, HL.out⟩
set_option maxRecDepth 100000 in
theorem ebwithin_is {base P p B A G1 G2 G3 n c mb db : Nat} {th : Nat → Bool} {vr pr us lm o1 v1 o2 v2 o3 v3 : Nat → Int} (nb : Nat) (y z : Int) (t : Bool) (hy0 : -1 ≤ y) (hy1 : y < nb) (hnb : nb ≤ n) (hpr : Hid (PrOk nb pr)) (ht : Hid ((chL pr y).contains z = t)) (w : World) (hth : Hid (∀ z, z ∈ chL pr y → th z.toNat = true)) (h : (BkAt w base P p B A G1 G2 G3 n c mb db th vr pr us lm o1 v1 o2 v2 o3 v3)) :
    Calls Tryd.prog 12 #[.pointer (some ⟨P, 0, none⟩), .int .i64 y, .int .i64 z] w fun e w' => e = .returned (.bool t) ∧ Below w.heap.size w w' := by
  have H := Lib.hid h
  have hn := h.ar.le
  obtain ⟨m, hm⟩ : ∃ m, Hid ((chL pr y).length = m) := ⟨_, Lib.hid rfl⟩
  have hmn : m ≤ 1000 := by rw [← hm.out]; have := (chL_bound hpr.out (by omega) nb y hy1 (Nat.le_refl _)).1; omega
  clear h
  go_enter Tryd.func12, Tryd.ntmps12
  go_wp2_with (first
    | (go_at_call 35; (with_reducible refine (ebchain_is y nb hy0 hy1 hnb hth hpr _ H.out).mono ?_); rintro e w1 ⟨v', rfl, hr, hb⟩; obtain ⟨a9, c9, hv9⟩ := own_slice hr m hm; have HCo := Lib.hid (scon_any w1 _ v' _ m hm hmn z t ht a9 c9 hv9 hr); subst hv9; have HB1 := Lib.hid hb; clear hr hb)
    | (go_at_call 34; (with_reducible refine HCo.out.mono ?_); rintro e w2 ⟨rfl, rfl⟩))
  go_ret
  exact ⟨rfl, HB1.out⟩
set_option maxRecDepth 100000 in
theorem dmake_full {base P p B G Q n c : Nat} {th : Nat → Bool} {vr_ : Nat → Int} {W : Nat → Nat → Value} (hno : Hid (∀ i, i < n → freeB th vr_ i = false)) (z : Addr) (w : World) (h : DsAt w base P p B G Q n c th vr_ W) (hF : w.cell? ⟨4, 0, none⟩ = some (eV z)) (hl : 4 < w.heap.size) :
    Calls Tryd.prog 33 #[.pointer (some ⟨P, 0, none⟩)] w fun e w' => e = .returned (.tuple #[.int .i64 0, .int .i64 0, eV z]) ∧ Below w.heap.size w w' := by
  have H := Lib.hid h
  have f0 := h.pl.f0
  clear h
  go_enter Tryd.func33, Tryd.ntmps33
  go_wp2_with (first
    | (go_at_call 56; (with_reducible refine (atake_full _ H.out.pl.ar hno _ hF hl).mono ?_); rintro e w1 ⟨rfl, hb⟩; have HB := Lib.hid hb; clear hb))
  go_ret3
  exact ⟨rfl, HB.out⟩
set_option maxRecDepth 100000 in
set_option maxHeartbeats 2000000 in
theorem bbuyd_full {w0 : World} {L : BLoc} {D : BSt} (q : Nat) (hq : q < D.nb) (z : Addr) (hfull : Hid ((chL D.pr q).any (fullB D.us D.lm) = false)) (w : World) (h : BW w0 w L D)
    (hcl : ∀ W, Below w.heap.size w W → Calls Tryd.prog 33 #[.pointer (some ⟨L.dP, 0, none⟩)] W fun e w' => e = .returned (.tuple #[.int .i64 0, .int .i64 0, eV z]) ∧ Below W.heap.size W w') :
    Calls Tryd.prog 26 #[.pointer (some ⟨L.P, 0, none⟩), .int .i64 (q : Int), .slice (some ⟨L.G3, 0, none⟩) 256 256, .nilIface, (Value.func (.func 33) #[.pointer (some ⟨L.dP, 0, none⟩)] #[])] w fun e w' => e = .returned (.tuple #[.int .i64 0, .int .i64 0, eV z]) ∧ Below w.heap.size w w' := by
  have H := Lib.hid h
  have HCl := Lib.hid hcl
  have hn := h.n256
  have hnn := h.nn
  have hin := chL_in h.pk h.nn (by omega) q hq
  obtain ⟨l, hl⟩ : ∃ l, Hid (chL D.pr q = l) := ⟨_, Lib.hid rfl⟩
  rw [hl.out] at hin hfull
  obtain ⟨m, hm⟩ : ∃ m, Hid (l.length = m) := ⟨_, Lib.hid rfl⟩
  have hm1 : m ≤ 1000 := by rw [← hm.out]; omega
  have HIn := Lib.hid hin.1
  have HPk := Lib.hid h.pk
  have HTw := Lib.hid h.tw
  have f0 := h.kk.f0
  clear h hcl hin
  go_enter Tryd.func26, Tryd.ntmps26
  go_wp2_with (first
    | (go_at_call 17; (with_reducible refine (athere_in q (by omega) true (Lib.hid (thN_at hq)) _ H.out.kk.ar).mono ?_); rintro e w1 ⟨rfl, rfl⟩)
    | (go_at_call 35; (with_reducible refine (bchain_is (q : Int) D.nb (by omega) (by omega) hnn (Lib.hid (fun i hi => thN_at hi)) HPk _ H.out.kk).mono ?_); rintro e w1 ⟨v9, rfl, hr, hb⟩; rw [hl.out] at hr; obtain ⟨a9, c9, hv9⟩ := own_slice hr m hm; have HRw := Lib.hid (rowT hr hv9 hm.out HTw.out); subst hv9; have H1 := Lib.hid (H.out.below hb); have HB1 := Lib.hid hb; clear hr hb f0)
    | (go_at_call 57; (with_reducible refine (bcf_is l m hm hm1 a9 c9 HIn false hfull _ H1.out.kk (fun i hi => by obtain ⟨g, h1, h2, h3, h4⟩ := HRw.out w1 (UpT.refl _ _) i hi; exact ⟨g, h1, h3, h4⟩)).mono ?_); rintro e w2 ⟨rfl, hb⟩; have HB2 := Lib.hid hb; clear hb)
    | (go_at_call 33; (with_reducible refine (HCl.out _ (HB1.out.trans (HB2.out.mono HB1.out.size))).mono ?_); rintro e w3 ⟨rfl, hb⟩; have HB3 := Lib.hid ((HB1.out.trans (HB2.out.mono HB1.out.size)).trans (hb.mono (Nat.le_trans HB1.out.size HB2.out.size))); clear hb))
  go_ret3
  exact ⟨rfl, HB3.out⟩
set_option maxRecDepth 100000 in
set_option maxHeartbeats 2000000 in
theorem bdomain_full {w0 : World} {L : BLoc} {D : BSt} (q : Nat) (hq : q < D.nb) (hno : Hid (∀ i, i < L.dn → freeB D.dt D.dv i = false)) (hfull : Hid ((chL D.pr q).any (fullB D.us D.lm) = false)) (z : Addr) (w : World) (h : BW w0 w L D) (hF : w.cell? ⟨4, 0, none⟩ = some (eV z)) :
    Calls Tryd.prog 11 #[.pointer (some ⟨L.P, 0, none⟩), .int .i64 (q : Int)] w fun e w' => e = .returned (.tuple #[.int .i64 0, .int .i64 0, eV z]) ∧ Below w.heap.size w w' := by
  have HFc := Lib.hid (⟨cell_lt hF, hF⟩ : 4 < w.heap.size ∧ w.cell? ⟨4, 0, none⟩ = some (eV z))
  clear hF
  obtain ⟨wD, hwD⟩ : ∃ wD, wD = w.drew := ⟨_, rfl⟩
  have HBD : Hid (Below w.heap.size w wD) := Lib.hid (by rw [hwD]; exact (Below.refl _ _).drew)
  have HD := Lib.hid (h.below HBD.out)
  have HTw := Lib.hid h.tw
  clear h
  go_enter Tryd.func11, Tryd.ntmps11
  go_upto_region 1 with fail
  refine wp_region_noPanic ?_
  refine wp_region_held_drew (S := fun w' => (World.cell? w' ⟨L.P, 6, none⟩ = some (.slice (some ⟨L.G3, 0, none⟩) 256 256) ∧ World.cell? w' ⟨L.P, 2, none⟩ = some (.pointer (some ⟨L.dP, 0, none⟩)))) (by kernel_rfl) (by rw [← hwD]; exact ⟨HD.out.kk.f6, HD.out.kk.f2⟩) (fun hHeld => ?_)
  rw [← hwD] at hHeld ⊢
  clear hwD
  refine wpAnyH_take (i := 0) (v := ?_) (by rfl) (by kernel_rfl) (by kernel_rfl) (by kernel_rfl) (fun _ _ _ h => h) (Or.inl ⟨by kernel_rfl, ?_⟩) (by assumption) ?_; rotate_left 1; (focus (intro w hSw; (try dsimp only at hSw); simp only [List.getElem_toArray, List.getElem_cons_succ, List.getElem_cons_zero]; all_goals go_simp; all_goals (try with_reducible rfl))); (try simp only [Act.put, List.getElem_toArray, List.getElem_cons_succ, List.getElem_cons_zero, List.setIfInBounds_toArray, List.set_cons_zero, List.set_cons_succ])
  refine wpAnyH_take (i := 1) (v := ?_) (by rfl) (by kernel_rfl) (by kernel_rfl) (by kernel_rfl) (fun _ _ _ h => h) (Or.inl ⟨by kernel_rfl, ?_⟩) (by assumption) ?_; rotate_left 1; (focus (intro w hSw; (try dsimp only at hSw); simp only [List.getElem_toArray, List.getElem_cons_succ, List.getElem_cons_zero]; all_goals go_simp; all_goals (try with_reducible rfl))); (try simp only [Act.put, List.getElem_toArray, List.getElem_cons_succ, List.getElem_cons_zero, List.setIfInBounds_toArray, List.set_cons_zero, List.set_cons_succ])
  refine wpAnyH_take (i := 2) (v := ?_) (by rfl) (by kernel_rfl) (by kernel_rfl) (by kernel_rfl) (fun _ _ _ h => h) (Or.inl ⟨by kernel_rfl, ?_⟩) (by assumption) ?_; rotate_left 1; (focus (intro w hSw; (try dsimp only at hSw); simp only [List.getElem_toArray, List.getElem_cons_succ, List.getElem_cons_zero]; all_goals go_simp; all_goals (try with_reducible rfl))); (try simp only [Act.put, List.getElem_toArray, List.getElem_cons_succ, List.getElem_cons_zero, List.setIfInBounds_toArray, List.set_cons_zero, List.set_cons_succ])
  refine wpAnyH_take (i := 3) (v := ?_) (by rfl) (by kernel_rfl) (by kernel_rfl) (by kernel_rfl) (fun _ _ _ h => h) (Or.inl ⟨by kernel_rfl, ?_⟩) (by assumption) ?_; rotate_left 1; (focus (intro w hSw; (try dsimp only at hSw); simp only [List.getElem_toArray, List.getElem_cons_succ, List.getElem_cons_zero]; all_goals go_simp; all_goals (try with_reducible rfl))); (try simp only [Act.put, List.getElem_toArray, List.getElem_cons_succ, List.getElem_cons_zero, List.setIfInBounds_toArray, List.set_cons_zero, List.set_cons_succ])
  refine wpAnyH_take (i := 4) (v := ?_) (by rfl) (by kernel_rfl) (by kernel_rfl) (by kernel_rfl) (fun _ _ _ h => h) (Or.inl ⟨by kernel_rfl, ?_⟩) (by assumption) ?_; rotate_left 1; (focus (intro w hSw; (try dsimp only at hSw); simp only [List.getElem_toArray, List.getElem_cons_succ, List.getElem_cons_zero]; all_goals go_simp; all_goals (try with_reducible rfl))); (try simp only [Act.put, List.getElem_toArray, List.getElem_cons_succ, List.getElem_cons_zero, List.setIfInBounds_toArray, List.set_cons_zero, List.set_cons_succ])
  refine wpAnyH_take (i := 5) (v := ?_) (by rfl) (by kernel_rfl) (by kernel_rfl) (by kernel_rfl) (fun _ _ _ h => h) (Or.inl ⟨by kernel_rfl, ?_⟩) (by assumption) ?_; rotate_left 1; (focus (intro w hSw; (try dsimp only at hSw); simp only [List.getElem_toArray, List.getElem_cons_succ, List.getElem_cons_zero]; all_goals go_simp; all_goals (try with_reducible rfl))); (try simp only [Act.put, List.getElem_toArray, List.getElem_cons_succ, List.getElem_cons_zero, List.setIfInBounds_toArray, List.set_cons_zero, List.set_cons_succ])
  refine wpAnyH_take (i := 6) (v := ?_) (by rfl) (by kernel_rfl) (by kernel_rfl) (by kernel_rfl) (fun _ _ _ h => h) (Or.inl ⟨by kernel_rfl, ?_⟩) (by assumption) ?_; rotate_left 1; (focus (intro w hSw; (try dsimp only at hSw); simp only [List.getElem_toArray, List.getElem_cons_succ, List.getElem_cons_zero]; all_goals go_simp; all_goals (try with_reducible rfl))); (try simp only [Act.put, List.getElem_toArray, List.getElem_cons_succ, List.getElem_cons_zero, List.setIfInBounds_toArray, List.set_cons_zero, List.set_cons_succ])
  refine wpAnyH_take (i := 7) (v := ?_) (by rfl) (by kernel_rfl) (by kernel_rfl) (by kernel_rfl) (fun _ _ _ h => h) (Or.inl ⟨by kernel_rfl, ?_⟩) (by assumption) ?_; rotate_left 1; (focus (intro w hSw; (try dsimp only at hSw); simp only [List.getElem_toArray, List.getElem_cons_succ, List.getElem_cons_zero]; all_goals go_simp; all_goals (try with_reducible rfl))); (try simp only [Act.put, List.getElem_toArray, List.getElem_cons_succ, List.getElem_cons_zero, List.setIfInBounds_toArray, List.set_cons_zero, List.set_cons_succ])
  refine wpAnyH_take (i := 8) (v := ?_) (by rfl) (by kernel_rfl) (by kernel_rfl) (by kernel_rfl) (fun _ _ _ h => h) (Or.inl ⟨by kernel_rfl, ?_⟩) (by assumption) ?_; rotate_left 1; (focus (intro w hSw; (try dsimp only at hSw); simp only [List.getElem_toArray, List.getElem_cons_succ, List.getElem_cons_zero]; all_goals go_simp; all_goals (try with_reducible rfl))); (try simp only [Act.put, List.getElem_toArray, List.getElem_cons_succ, List.getElem_cons_zero, List.setIfInBounds_toArray, List.set_cons_zero, List.set_cons_succ])
  refine wpAnyH_take (i := 9) (v := ?_) (by rfl) (by kernel_rfl) (by kernel_rfl) (by kernel_rfl) (fun _ _ _ h => h) (Or.inl ⟨by kernel_rfl, ?_⟩) (by assumption) ?_; rotate_left 1; (focus (intro w hSw; (try dsimp only at hSw); simp only [List.getElem_toArray, List.getElem_cons_succ, List.getElem_cons_zero]; all_goals go_simp; all_goals (try with_reducible rfl))); (try simp only [Act.put, List.getElem_toArray, List.getElem_cons_succ, List.getElem_cons_zero, List.setIfInBounds_toArray, List.set_cons_zero, List.set_cons_succ])
  refine wpAnyH_take (i := 10) (v := ?_) (by rfl) (by kernel_rfl) (by kernel_rfl) (by kernel_rfl) (fun _ _ _ h => h) (Or.inl ⟨by kernel_rfl, ?_⟩) (by assumption) ?_; rotate_left 1; (focus (intro w hSw; (try dsimp only at hSw); simp only [List.getElem_toArray, List.getElem_cons_succ, List.getElem_cons_zero]; all_goals go_simp; all_goals (try with_reducible rfl))); (try simp only [Act.put, List.getElem_toArray, List.getElem_cons_succ, List.getElem_cons_zero, List.setIfInBounds_toArray, List.set_cons_zero, List.set_cons_succ])
  refine wpAnyH_ready (rs := [11]) (by kernel_rfl) (by simp) ?_; refine AllReadyH.cons (by rfl) (fun K hK => ?_) AllReadyH.nil; rw [if_pos (by kernel_rfl)]; simp only [List.getElem_toArray, List.getElem_cons_succ, List.getElem_cons_zero]
  go_wp2_with (first
    | (go_at_call 26; (with_reducible refine (bbuyd_full q hq z hfull _ HD.out (fun V hV => dmake_full hno z V (HD.out.below hV).dd (((HBD.out.trans (hV.mono HBD.out.size)).cell (p := ⟨4, 0, none⟩) HFc.out.1).trans HFc.out.2) (Nat.lt_of_lt_of_le HFc.out.1 (Nat.le_trans HBD.out.size hV.size)))).mono ?_); rintro e w4 ⟨rfl, hb⟩; have HW4 := Lib.hid (HD.out.below hb); have HB4 := Lib.hid hb; clear hb))
  refine hK.out _ _ ⟨HW4.out.kk.f6, HW4.out.kk.f2⟩ (fun hHeld => ?_)
  clear hK K
  (try simp only [Act.put, List.getElem_toArray, List.getElem_cons_succ, List.getElem_cons_zero, List.setIfInBounds_toArray, List.set_cons_zero, List.set_cons_succ])
  refine wpAnyH_take (i := 12) (v := ?_) (by rfl) (by kernel_rfl) (by kernel_rfl) (by kernel_rfl) (fun _ _ _ h => h) (Or.inl ⟨by kernel_rfl, ?_⟩) (by assumption) ?_; rotate_left 1; (focus (intro w hSw; (try dsimp only at hSw); simp only [List.getElem_toArray, List.getElem_cons_succ, List.getElem_cons_zero]; all_goals go_simp; all_goals (try with_reducible rfl))); (try simp only [Act.put, List.getElem_toArray, List.getElem_cons_succ, List.getElem_cons_zero, List.setIfInBounds_toArray, List.set_cons_zero, List.set_cons_succ])
  refine wpAnyH_take (i := 13) (v := ?_) (by rfl) (by kernel_rfl) (by kernel_rfl) (by kernel_rfl) (fun _ _ _ h => h) (Or.inl ⟨by kernel_rfl, ?_⟩) (by assumption) ?_; rotate_left 1; (focus (intro w hSw; (try dsimp only at hSw); simp only [List.getElem_toArray, List.getElem_cons_succ, List.getElem_cons_zero]; all_goals go_simp; all_goals (try with_reducible rfl))); (try simp only [Act.put, List.getElem_toArray, List.getElem_cons_succ, List.getElem_cons_zero, List.setIfInBounds_toArray, List.set_cons_zero, List.set_cons_succ])
  refine wpAnyH_take (i := 14) (v := ?_) (by rfl) (by kernel_rfl) (by kernel_rfl) (by kernel_rfl) (fun _ _ _ h => h) (Or.inl ⟨by kernel_rfl, ?_⟩) (by assumption) ?_; rotate_left 1; (focus (intro w hSw; (try dsimp only at hSw); simp only [List.getElem_toArray, List.getElem_cons_succ, List.getElem_cons_zero]; all_goals go_simp; all_goals (try with_reducible rfl))); (try simp only [Act.put, List.getElem_toArray, List.getElem_cons_succ, List.getElem_cons_zero, List.setIfInBounds_toArray, List.set_cons_zero, List.set_cons_succ])
  refine wpAnyH_take (i := 15) (v := ?_) (by rfl) (by kernel_rfl) (by kernel_rfl) (by kernel_rfl) (fun _ _ _ h => h) (Or.inl ⟨by kernel_rfl, ?_⟩) (by assumption) ?_; rotate_left 1; (focus (intro w hSw; (try dsimp only at hSw); simp only [List.getElem_toArray, List.getElem_cons_succ, List.getElem_cons_zero]; all_goals go_simp; all_goals (try with_reducible rfl))); (try simp only [Act.put, List.getElem_toArray, List.getElem_cons_succ, List.getElem_cons_zero, List.setIfInBounds_toArray, List.set_cons_zero, List.set_cons_succ])
  refine wpAnyH_take (i := 16) (v := ?_) (by rfl) (by kernel_rfl) (by kernel_rfl) (by kernel_rfl) (fun _ _ _ h => h) (Or.inl ⟨by kernel_rfl, ?_⟩) (by assumption) ?_; rotate_left 1; (focus (intro w hSw; (try dsimp only at hSw); simp only [List.getElem_toArray, List.getElem_cons_succ, List.getElem_cons_zero]; all_goals go_simp; all_goals (try with_reducible rfl))); (try simp only [Act.put, List.getElem_toArray, List.getElem_cons_succ, List.getElem_cons_zero, List.setIfInBounds_toArray, List.set_cons_zero, List.set_cons_succ])
  refine wpAnyH_take (i := 17) (v := ?_) (by rfl) (by kernel_rfl) (by kernel_rfl) (by kernel_rfl) (fun _ _ _ h => h) (Or.inl ⟨by kernel_rfl, ?_⟩) (by assumption) ?_; rotate_left 1; (focus (intro w hSw; (try dsimp only at hSw); simp only [List.getElem_toArray, List.getElem_cons_succ, List.getElem_cons_zero]; all_goals go_simp; all_goals (try with_reducible rfl))); (try simp only [Act.put, List.getElem_toArray, List.getElem_cons_succ, List.getElem_cons_zero, List.setIfInBounds_toArray, List.set_cons_zero, List.set_cons_succ])
  refine wpAnyH_done (by kernel_rfl) ?_ _
  refine NoPanic.normal ?_
  go_wp2_with fail
  go_ret3
  exact ⟨rfl, HBD.out.trans (HB4.out.mono HBD.out.size)⟩
end Go.Proofs.YtagiabcmbihoaaaDoor
namespace Go.Proofs.YtagiabcmbihoaaaDoor
open Go.ChangeShapes Go.WideShapes Go.ChangeAt Go.RowKit
set_option linter.unusedVariables false
set_option linter.unusedSimpArgs false
/-- Banks within bank 0 that have taken a nodes, b pages, c domains. -/
structure CE (L : BLoc) (D : BSt) (a b c : Nat) : Prop where
  n1 : 1 ≤ D.nb
  n8 : D.nb ≤ 6
  pk : PrOk D.nb D.pr
  rt : ∀ i, 1 ≤ i → i < D.nb → 0 ≤ D.pr i
  nt : D.nt = thN a
  pt : D.pt = thN b
  dt : D.dt = thN c
  nv : D.nv = fun _ => 0
  pv : D.pv = fun _ => 0
  dv : D.dv = fun _ => 0
  on : ∀ i, i < a → ∃ q' : Nat, q' < D.nb ∧ D.o1 i = (q' : Int) ∧ D.v1 i = 0
  op : ∀ i, i < b → ∃ q' : Nat, q' < D.nb ∧ D.o2 i = (q' : Int) ∧ D.v2 i = 0
  od : ∀ i, i < c → ∃ q' : Nat, q' < D.nb ∧ D.o3 i = (q' : Int) ∧ D.v3 i = 0
  u0 : D.us 0 = (a : Int) + (b : Int) + (c : Int)
  ub : ∀ i, 0 ≤ D.us i ∧ D.us i ≤ (a : Int) + (b : Int) + (c : Int)
  lm : ∀ i, i < D.nb → D.lm i = 100
  ab : a ≤ 10 ∧ b ≤ 10 ∧ c ≤ 8
section
variable {L : BLoc} {D : BSt} {a b c : Nat}
theorem CE.ow (h : CE L D a b c) : OwI L D where
  n := fun i hi ht => by
    rw [h.nt] at ht
    obtain ⟨q', h1, h2, h3⟩ := h.on i (by simpa [thN] using ht)
    exact ⟨q', h1, h2, by rw [h3, h.nv]⟩
  p := fun i hi ht => by
    rw [h.pt] at ht
    obtain ⟨q', h1, h2, h3⟩ := h.op i (by simpa [thN] using ht)
    exact ⟨q', h1, h2, by rw [h3, h.pv]⟩
  d := fun i hi ht => by
    rw [h.dt] at ht
    obtain ⟨q', h1, h2, h3⟩ := h.od i (by simpa [thN] using ht)
    exact ⟨q', h1, h2, by rw [h3, h.dv]⟩
theorem CE.ver (h : CE L D a b c) : VerOk D := ⟨fun i => by rw [h.nv]; show (-1000000 : Int) ≤ 0 ∧ (0 : Int) ≤ 1000000; decide, fun i => by rw [h.pv]; show (-1000000 : Int) ≤ 0 ∧ (0 : Int) ≤ 1000000; decide, fun i => by rw [h.dv]; show (-1000000 : Int) ≤ 0 ∧ (0 : Int) ≤ 1000000; decide⟩
theorem CE.zero (h : CE L D a b c) : ∀ (m q : Nat), q < m → q < D.nb → (0 : Int) ∈ chL D.pr (q : Int) := by
  have hn := h.n8
  intro m
  induction m with
  | zero => intro q hq; omega
  | succ m ih =>
    intro q hq hqn
    rw [chL_cons h.pk q hqn (by omega)]
    by_cases e : q = 0
    · subst e; simp
    · have h1 := h.rt q (by omega) hqn
      have h2 := (h.pk q hqn).2
      obtain ⟨p, hp⟩ : ∃ p : Nat, D.pr q = (p : Int) := ⟨(D.pr q).toNat, by omega⟩
      rw [hp] at h2 ⊢
      exact List.mem_cons_of_mem _ (ih p (by omega) (by omega))
theorem CE.room (h : CE L D a b c) (q : Nat) (hq : q < D.nb) : (chL D.pr (q : Int)).any (fullB D.us D.lm) = false := by
  have hn := h.n8
  have hab := h.ab
  rw [List.any_eq_false]
  intro z hz
  have hb := (chL_bound h.pk (by omega) D.nb q (by omega) (Nat.le_refl _)).2 z hz
  have h1 := h.ub z.toNat
  have h2 := h.lm z.toNat (by omega)
  unfold fullB
  rw [h2]
  simp only [decide_eq_true_eq]
  omega
theorem CE.wide (h : CE L D a b c) : ∀ i, i < L.n → -1000000 ≤ D.us i ∧ D.us i ≤ 1000000 := fun i _ => by have := h.ub i; have := h.ab; omega
theorem CE.open_ (h : CE L D a b c) (q : Nat) (hq : q < D.nb) (hn : D.nb < 6) (h0 : a = 0 ∧ b = 0 ∧ c = 0) : CE L (openedB D (q : Int) 100) 0 0 0 := by
  obtain ⟨rfl, rfl, rfl⟩ := h0
  refine ⟨Nat.le_add_left 1 _, hn, prok_put h.pk _ (by omega) (by omega), fun i h1 h2 => ?_, h.nt, h.pt, h.dt, h.nv, h.pv, h.dv, fun i hi => by omega, fun i hi => by omega, fun i hi => by omega, ?_, fun i => ?_, fun i hi => ?_, by decide⟩
  · show 0 ≤ upd D.pr D.nb (q : Int) i
    by_cases e : i = D.nb
    · subst e; rw [upd_at]; omega
    · rw [upd_other _ _ _ _ e]; exact h.rt i h1 (by have : i < D.nb + 1 := h2; omega)
  · show upd D.us D.nb 0 0 = _
    by_cases e : 0 = D.nb
    · have := h.n1; omega
    · rw [upd_other _ _ _ _ e]; exact h.u0
  · show 0 ≤ upd D.us D.nb 0 i ∧ upd D.us D.nb 0 i ≤ _
    by_cases e : i = D.nb
    · subst e; rw [upd_at]; decide
    · rw [upd_other _ _ _ _ e]; exact h.ub i
  · show upd D.lm D.nb 100 i = 100
    by_cases e : i = D.nb
    · subst e; rw [upd_at]
    · rw [upd_other _ _ _ _ e]; exact h.lm i (by have : i < D.nb + 1 := hi; omega)
theorem addL_0 {us : Nat → Int} {l : List Int} (h : (0 : Int) ∈ l) (x : Int) : addL us l x 0 = us 0 + x := by
  unfold addL; rw [if_pos (by rw [List.contains_iff_mem]; exact h)]
theorem addL_le {us : Nat → Int} {l : List Int} {z : Int} (h : ∀ i, 0 ≤ us i ∧ us i ≤ z) (i : Nat) : 0 ≤ addL us l 1 i ∧ addL us l 1 i ≤ z + 1 := by
  have := h i
  unfold addL
  split <;> omega
theorem CE.node (h : CE L D a b c) (q : Nat) (hq : q < D.nb) (nW : Nat → Nat → Value) (ha : a < 10) : CE L (boughtN D q a 0 nW) (a + 1) b c := by
  have hab := h.ab
  refine ⟨h.n1, h.n8, h.pk, h.rt, by show upd D.nt a true = _; rw [h.nt, thN_put], h.pt, h.dt, h.nv, h.pv, h.dv, fun i hi => ?_, h.op, h.od, ?_, fun i => ?_, h.lm, by omega⟩
  · show ∃ q' : Nat, q' < D.nb ∧ upd D.o1 a (q : Int) i = (q' : Int) ∧ upd D.v1 a 0 i = 0
    by_cases e : i = a
    · subst e; exact ⟨q, hq, by rw [upd_at], by rw [upd_at]⟩
    · rw [upd_other _ _ _ _ e, upd_other _ _ _ _ e]; exact h.on i (by omega)
  · show addL D.us (chL D.pr q) 1 0 = _
    rw [addL_0 (h.zero _ q (Nat.lt_succ_self q) hq), h.u0]; omega
  · have := addL_le (l := chL D.pr q) h.ub i
    show 0 ≤ addL D.us (chL D.pr q) 1 i ∧ addL D.us (chL D.pr q) 1 i ≤ _
    omega
theorem CE.page (h : CE L D a b c) (q : Nat) (hq : q < D.nb) (pW : Nat → Nat → Int) (ha : b < 10) : CE L (boughtP D q b 0 pW) a (b + 1) c := by
  have hab := h.ab
  refine ⟨h.n1, h.n8, h.pk, h.rt, h.nt, by show upd D.pt b true = _; rw [h.pt, thN_put], h.dt, h.nv, h.pv, h.dv, h.on, fun i hi => ?_, h.od, ?_, fun i => ?_, h.lm, by omega⟩
  · show ∃ q' : Nat, q' < D.nb ∧ upd D.o2 b (q : Int) i = (q' : Int) ∧ upd D.v2 b 0 i = 0
    by_cases e : i = b
    · subst e; exact ⟨q, hq, by rw [upd_at], by rw [upd_at]⟩
    · rw [upd_other _ _ _ _ e, upd_other _ _ _ _ e]; exact h.op i (by omega)
  · show addL D.us (chL D.pr q) 1 0 = _
    rw [addL_0 (h.zero _ q (Nat.lt_succ_self q) hq), h.u0]; omega
  · have := addL_le (l := chL D.pr q) h.ub i
    show 0 ≤ addL D.us (chL D.pr q) 1 i ∧ addL D.us (chL D.pr q) 1 i ≤ _
    omega
theorem CE.dom (h : CE L D a b c) (q : Nat) (hq : q < D.nb) (ha : c < 8) : CE L (boughtD D q c 0) a b (c + 1) := by
  have hab := h.ab
  refine ⟨h.n1, h.n8, h.pk, h.rt, h.nt, h.pt, by show upd D.dt c true = _; rw [h.dt, thN_put], h.nv, h.pv, h.dv, h.on, h.op, fun i hi => ?_, ?_, fun i => ?_, h.lm, by omega⟩
  · show ∃ q' : Nat, q' < D.nb ∧ upd D.o3 c (q : Int) i = (q' : Int) ∧ upd D.v3 c 0 i = 0
    by_cases e : i = c
    · subst e; exact ⟨q, hq, by rw [upd_at], by rw [upd_at]⟩
    · rw [upd_other _ _ _ _ e, upd_other _ _ _ _ e]; exact h.od i (by omega)
  · show addL D.us (chL D.pr q) 1 0 = _
    rw [addL_0 (h.zero _ q (Nat.lt_succ_self q) hq), h.u0]; omega
  · have := addL_le (l := chL D.pr q) h.ub i
    show 0 ≤ addL D.us (chL D.pr q) 1 i ∧ addL D.us (chL D.pr q) 1 i ≤ _
    omega
end
/-- Of a kind: what is counted free behind an end. -/
theorem cnt_gone (T : Nat → Bool) (V : Nat → Int) (l : List Nat) (hl : ∀ i, i ∈ l → T i = true ∧ V i = 0) : ∀ k, cntB (freeB (gT T l) (gV V l)) k = cntB (freeB T V) k + cntB (fun i => decide (i ∈ l)) k := by
  intro k
  induction k with
  | zero => rfl
  | succ k ih =>
    simp only [cntB, ih]
    by_cases e : k ∈ l
    · obtain ⟨h1, h2⟩ := hl k e
      have e1 : freeB (gT T l) (gV V l) k = true := by unfold freeB gT gV; rw [if_pos e, if_pos e, h2]; rfl
      have e2 : freeB T V k = false := by unfold freeB; rw [h1]; rfl
      rw [e1, e2, if_pos rfl, if_neg (by decide), if_pos (decide_eq_true e)]
      omega
    · have e1 : freeB (gT T l) (gV V l) k = freeB T V k := by unfold freeB gT gV; rw [if_neg e, if_neg e]
      rw [e1, if_neg (show ¬ decide (k ∈ l) = true by simpa using e)]
      omega
theorem sum_one (il : List Nat) (hn : il.Nodup) (P : Prop) [Decidable P] (x : Int) : (il.map (fun q => if P ∧ x = ((q : Nat) : Int) then 1 else 0)).sum = (if P ∧ ∃ q, q ∈ il ∧ x = ((q : Nat) : Int) then 1 else 0) := by
  induction il with
  | nil => simp
  | cons q il ih =>
    have hq := List.nodup_cons.1 hn
    rw [List.map_cons, List.sum_cons, ih hq.2]
    by_cases hP : P
    · by_cases hx : x = ((q : Nat) : Int)
      · have hno : ¬ ∃ q', q' ∈ il ∧ x = ((q' : Nat) : Int) := fun ⟨q', h1, h2⟩ => hq.1 ((show q' = q by omega) ▸ h1)
        rw [if_pos ⟨hP, hx⟩, if_neg (fun h => hno h.2), if_pos ⟨hP, q, List.mem_cons_self, hx⟩]
      · rw [if_neg (fun h => hx h.2)]
        by_cases hy : ∃ q', q' ∈ il ∧ x = ((q' : Nat) : Int)
        · obtain ⟨q', h1, h2⟩ := hy
          rw [if_pos ⟨hP, q', h1, h2⟩, if_pos ⟨hP, q', List.mem_cons_of_mem _ h1, h2⟩]
        · rw [if_neg (fun h => hy h.2), if_neg (fun ⟨_, q', h1, h2⟩ => by
            rcases List.mem_cons.1 h1 with rfl | h1
            · exact hx h2
            · exact hy ⟨q', h1, h2⟩)]
    · rw [if_neg (fun h => hP h.1), if_neg (fun h => hP h.1), if_neg (fun h => hP h.1)]
theorem sum_add (il : List Nat) (f g : Nat → Nat) : (il.map (fun q => f q + g q)).sum = (il.map f).sum + (il.map g).sum := by
  induction il with
  | nil => rfl
  | cons q il ih => simp only [List.map_cons, List.sum_cons, ih]; omega
theorem oks_step13 (T : Nat → Bool) (o : Nat → Int) (k n : Nat) : (oks T o k (n + 1)).length = (oks T o k n).length + (if T n = true ∧ o n = (k : Int) then 1 else 0) := by
  by_cases h : T n = true
  · by_cases h2 : o n = (k : Int)
    · rw [oks_yes T o k n h h2, if_pos ⟨h, h2⟩]; simp
    · rw [oks_no T o k n h2, if_neg (fun h => h2 h.2)]; rfl
  · rw [oks_dead T o k n (by simpa using h), if_neg (fun h2 => h h2.1)]; rfl
theorem cnt_ofL (T : Nat → Bool) (o : Nat → Int) (n : Nat) (il : List Nat) (hn : il.Nodup) : ∀ k, k ≤ n → cntB (fun i => decide (i ∈ ofL T o n il)) k = (il.map (fun q => (oks T o q k).length)).sum := by
  intro k
  induction k with
  | zero =>
    intro _
    show 0 = (il.map (fun _ => 0)).sum
    clear hn
    induction il with
    | nil => rfl
    | cons q il ih2 => simp only [List.map_cons, List.sum_cons, ← ih2]
  | succ k ih =>
    intro hk
    have e : (fun q => (oks T o q (k + 1)).length) = fun q => (oks T o q k).length + (if T k = true ∧ o k = (q : Int) then 1 else 0) := by
      funext q; exact oks_step13 T o q k
    rw [e, sum_add, ← ih (by omega), sum_one il hn]
    simp only [cntB]
    congr 1
    by_cases h : T k = true ∧ ∃ q, q ∈ il ∧ o k = ((q : Nat) : Int)
    · rw [if_pos h, if_pos (decide_eq_true (ofL_mem.2 ⟨by omega, h.1, h.2⟩))]
    · rw [if_neg h, if_neg (fun hd => h (by have := ofL_mem.1 (of_decide_eq_true hd); exact this.2))]
theorem sum_N (L : BLoc) (D : BSt) (il : List Nat) : sumN L D il = (il.map (fun q => (oks D.nt D.o1 q L.a.n).length)).sum + (il.map (fun q => (oks D.pt D.o2 q L.b.n).length)).sum + (il.map (fun q => (oks D.dt D.o3 q L.dn).length)).sum := by
  unfold sumN
  have e : ownN L D = fun q => ((oks D.nt D.o1 q L.a.n).length + (oks D.pt D.o2 q L.b.n).length) + (oks D.dt D.o3 q L.dn).length := rfl
  rw [e, sum_add, sum_add]
end Go.Proofs.YtagiabcmbihoaaaDoor
namespace Go.Proofs.YtagiabcmbihoaaaDoor
set_option linter.unusedVariables false
set_option linter.unusedSimpArgs false
/-- The sum over those whose parent is k, of those below n. -/
def sumC (f : Nat → Int) (pr : Nat → Int) (k : Nat) : Nat → Int
  | 0 => 0
  | n + 1 => sumC f pr k n + (if pr n = (k : Int) then f n else 0)
/-- Is it in that list: 1, or 0. -/
def indL (l : List Int) (i : Nat) : Int := if l.contains (i : Int) = true then 1 else 0
theorem addL_ind (us : Nat → Int) (l : List Int) : addL us l 1 = fun i => us i + indL l i := by
  funext i
  unfold addL indL
  split <;> simp
theorem sumC_add (f g : Nat → Int) (pr : Nat → Int) (k : Nat) : ∀ n, sumC (fun i => f i + g i) pr k n = sumC f pr k n + sumC g pr k n := by
  intro n
  induction n with
  | zero => rfl
  | succ n ih => unfold sumC; rw [ih]; split <;> omega
theorem sumC_one (pr : Nat → Int) (k q : Nat) : ∀ n, sumC (fun i => if i = q then 1 else 0) pr k n = if q < n ∧ pr q = (k : Int) then 1 else 0 := by
  intro n
  induction n with
  | zero => simp [sumC]
  | succ n ih =>
    unfold sumC
    rw [ih]
    by_cases h : n = q
    · subst h
      by_cases h2 : pr n = (k : Int)
      · simp [h2]
      · simp [h2]
    · have e0 : (if pr n = (k : Int) then (if n = q then (1 : Int) else 0) else 0) = 0 := by simp [h]
      rw [e0]
      by_cases h3 : q < n ∧ pr q = (k : Int)
      · rw [if_pos h3, if_pos (show q < n + 1 ∧ pr q = (k : Int) from ⟨by omega, h3.2⟩)]; rfl
      · rw [if_neg h3, if_neg (show ¬ (q < n + 1 ∧ pr q = (k : Int)) from fun h4 => h3 ⟨by omega, h4.2⟩)]; rfl
theorem sumC_zero (pr : Nat → Int) (k : Nat) : ∀ n, sumC (fun _ => 0) pr k n = 0 := by
  intro n
  induction n with
  | zero => rfl
  | succ n ih => unfold sumC; rw [ih]; simp
theorem indL_cons (x : Nat) (l : List Int) (i : Nat) (h : (x : Int) ∉ l) : indL ((x : Int) :: l) i = (if i = x then 1 else 0) + indL l i := by
  unfold indL
  by_cases e : i = x
  · subst e
    rw [if_pos (by simp), if_pos rfl, if_neg (by simpa using h)]; rfl
  · rw [if_neg e]
    have : ¬ ((i : Int) = (x : Int)) := by omega
    simp [this]
/-- Of a chain, all but the first are parents of one in it. -/
theorem ind_sum {nb : Nat} {pr : Nat → Int} (hp : PrOk nb pr) (hb : nb ≤ 256) (k : Nat) : ∀ (m q : Nat), q < m → q < nb → indL (chL pr (q : Int)) k = (if k = q then 1 else 0) + sumC (indL (chL pr (q : Int))) pr k nb := by
  intro m
  induction m with
  | zero => intro q h; omega
  | succ m ih =>
    intro q hq hqn
    have hpq := hp q hqn
    have hnot : (q : Int) ∉ chL pr (pr q) := fun hm => by have := ((chL_bound hp hb q (pr q) hpq.2 (by omega)).2 _ hm).2; omega
    rw [chL_cons hp q hqn hb, show indL ((q : Int) :: chL pr (pr q)) = fun i => (if i = q then 1 else 0) + indL (chL pr (pr q)) i from funext fun i => indL_cons q _ i hnot, sumC_add, sumC_one]
    by_cases h0 : 0 ≤ pr q
    · obtain ⟨p, hpp⟩ : ∃ p : Nat, pr q = (p : Int) := ⟨(pr q).toNat, by omega⟩
      have h := ih p (by omega) (by omega)
      rw [hpp]
      show (if k = q then (1 : Int) else 0) + indL (chL pr (p : Int)) k = _
      rw [h]
      by_cases e : k = p
      · subst e
        rw [if_pos rfl, if_pos (show q < nb ∧ (k : Int) = (k : Int) from ⟨hqn, rfl⟩)]
      · rw [if_neg e, if_neg (show ¬ (q < nb ∧ (p : Int) = (k : Int)) from fun h => e (by omega))]
    · show (if k = q then (1 : Int) else 0) + indL (chL pr (pr q)) k = _
      have e : indL [] = fun _ => (0 : Int) := by funext i; simp [indL]
      rw [chL_neg _ _ (by omega), e, sumC_zero, if_neg (show ¬ (q < nb ∧ pr q = (k : Int)) from fun h => by omega)]
      simp
theorem oks_step (T : Nat → Bool) (o : Nat → Int) (k n : Nat) : (oks T o k (n + 1)).length = (oks T o k n).length + (if T n = true ∧ o n = (k : Int) then 1 else 0) := by
  by_cases h : T n = true
  · by_cases h2 : o n = (k : Int)
    · rw [oks_yes T o k n h h2, if_pos ⟨h, h2⟩]; simp
    · rw [oks_no T o k n h2, if_neg (fun h => h2 h.2)]; rfl
  · rw [oks_dead T o k n (by simpa using h), if_neg (fun h2 => h h2.1)]; rfl
theorem oks_upd (T : Nat → Bool) (o : Nat → Int) (k j q : Nat) (h : T j = false) : ∀ n, (oks (upd T j true) (upd o j (q : Int)) k n).length = (oks T o k n).length + (if j < n ∧ q = k then 1 else 0) := by
  intro n
  induction n with
  | zero => simp [oks_zero]
  | succ n ih =>
    rw [oks_step, oks_step, ih]
    by_cases e : n = j
    · subst e
      by_cases h2 : q = k
      · subst h2
        simp [upd, h]
      · have : ¬ ((q : Int) = (k : Int)) := by omega
        simp [upd, h, h2, this]
    · have e1 : upd T j true n = T n := by simp [upd, e]
      have e2 : upd o j (q : Int) n = o n := by simp [upd, e]
      rw [e1, e2]
      by_cases h3 : j < n ∧ q = k
      · rw [if_pos h3, if_pos (show j < n + 1 ∧ q = k from ⟨by omega, h3.2⟩)]; omega
      · rw [if_neg h3, if_neg (show ¬ (j < n + 1 ∧ q = k) from fun h4 => h3 ⟨by omega, h4.2⟩)]; omega
end Go.Proofs.YtagiabcmbihoaaaDoor
namespace Go.Proofs.YtagiabcmbihoaaaDoor
set_option linter.unusedVariables false
set_option linter.unusedSimpArgs false
theorem thN_s (i : Nat) : upd (thN i) i true = thN (i + 1) := by
  funext j
  unfold upd thN
  by_cases e : j = i
  · subst e; simp
  · rw [if_neg e]; simp; omega
/-- Banks within bank 0, that have taken a nodes and b pages. -/
structure CI (L : BLoc) (D : BSt) (a b : Nat) : Prop where
  n1 : 1 ≤ D.nb
  n256 : D.nb ≤ 256
  pk : PrOk D.nb D.pr
  rt : ∀ i, 1 ≤ i → i < D.nb → 0 ≤ D.pr i
  nt : D.nt = thN a
  pt : D.pt = thN b
  dt : D.dt = fun _ => false
  nv : D.nv = fun _ => 0
  pv : D.pv = fun _ => 0
  tot : (a : Int) + (b : Int) = D.us 0
  on : ∀ i, i < a → ∃ q' : Nat, q' < D.nb ∧ D.o1 i = (q' : Int) ∧ D.v1 i = 0
  op : ∀ i, i < b → ∃ q' : Nat, q' < D.nb ∧ D.o2 i = (q' : Int) ∧ D.v2 i = 0
  sum : ∀ k, k < D.nb → D.us k = (ownN L D k : Int) + sumC D.us D.pr k D.nb
  le : ∀ k, k < D.nb → D.us k ≤ D.lm k
  lm : ∀ k, k < D.nb → D.lm k ≤ 20
  ub : ∀ i, 0 ≤ D.us i ∧ D.us i ≤ 20
section
variable {L : BLoc} {D : BSt} {a b : Nat}
theorem CI.ow (h : CI L D a b) : OwI L D where
  n := fun i hi ht => by
    rw [h.nt] at ht
    obtain ⟨q', h1, h2, h3⟩ := h.on i (by simpa [thN] using ht)
    exact ⟨q', h1, h2, by rw [h3, h.nv]⟩
  p := fun i hi ht => by
    rw [h.pt] at ht
    obtain ⟨q', h1, h2, h3⟩ := h.op i (by simpa [thN] using ht)
    exact ⟨q', h1, h2, by rw [h3, h.pv]⟩
  d := fun i hi ht => by rw [h.dt] at ht; simp at ht
/-- Each bank is within bank 0. -/
theorem CI.zero (h : CI L D a b) : ∀ (m q : Nat), q < m → q < D.nb → (0 : Int) ∈ chL D.pr (q : Int) := by
  intro m
  induction m with
  | zero => intro q hq; omega
  | succ m ih =>
    intro q hq hqn
    rw [chL_cons h.pk q hqn h.n256]
    by_cases e : q = 0
    · subst e; simp
    · have h1 := h.rt q (by omega) hqn
      have h2 := (h.pk q hqn).2
      obtain ⟨p, hp⟩ : ∃ p : Nat, D.pr q = (p : Int) := ⟨(D.pr q).toNat, by omega⟩
      rw [hp] at h2 ⊢
      exact List.mem_cons_of_mem _ (ih p (by omega) (by omega))
theorem ind_01 (l : List Int) (i : Nat) : indL l i = 0 ∧ (i : Int) ∉ l ∨ indL l i = 1 ∧ (i : Int) ∈ l := by
  unfold indL
  by_cases h : (i : Int) ∈ l
  · exact .inr ⟨by rw [if_pos (by simpa using h)], h⟩
  · exact .inl ⟨by rw [if_neg (by simpa using h)], h⟩
/-- What a purchase does to the numbers. -/
theorem CI.us (h : CI L D a b) (q : Nat) (hq : q < D.nb) (hf : (chL D.pr q).any (fullB D.us D.lm) = false) :
    (∀ k, k < D.nb → addL D.us (chL D.pr q) 1 k ≤ D.lm k) ∧ (∀ i, 0 ≤ addL D.us (chL D.pr q) 1 i ∧ addL D.us (chL D.pr q) 1 i ≤ 20) ∧ addL D.us (chL D.pr q) 1 0 = D.us 0 + 1
    ∧ ∀ k, k < D.nb → addL D.us (chL D.pr q) 1 k = (ownN L D k : Int) + (if k = q then 1 else 0) + sumC (addL D.us (chL D.pr q) 1) D.pr k D.nb := by
  have hin := (chL_bound h.pk h.n256 (q + 1) q (by omega) (by omega)).2
  have hfull : ∀ i : Nat, (i : Int) ∈ chL D.pr q → i < D.nb ∧ D.us i < D.lm i := fun i hi => by
    refine ⟨by have := hin _ hi; omega, ?_⟩
    have := List.any_eq_false.mp hf _ hi
    simp [fullB] at this
    exact this
  rw [addL_ind]
  refine ⟨fun k hk => ?_, fun i => ?_, ?_, fun k hk => ?_⟩
  · have := h.le k hk
    rcases ind_01 (chL D.pr q) k with ⟨e, _⟩ | ⟨e, hm⟩
    · show D.us k + indL (chL D.pr q) k ≤ _; omega
    · have := (hfull k hm).2; show D.us k + indL (chL D.pr q) k ≤ _; omega
  · have := h.ub i
    show 0 ≤ D.us i + indL (chL D.pr q) i ∧ D.us i + indL (chL D.pr q) i ≤ 20
    rcases ind_01 (chL D.pr q) i with ⟨e, _⟩ | ⟨e, hm⟩
    · omega
    · have h1 := hfull i hm; have := h.lm i h1.1; omega
  · show D.us 0 + indL (chL D.pr q) 0 = _
    rcases ind_01 (chL D.pr q) 0 with ⟨e, hm⟩ | ⟨e, hm⟩
    · exact absurd (h.zero (q + 1) q (by omega) hq) hm
    · omega
  · rw [sumC_add]
    have h1 := h.sum k hk
    have h2 := ind_sum h.pk h.n256 k (q + 1) q (by omega) hq
    show D.us k + indL (chL D.pr q) k = _
    omega
theorem CI.node (h : CI L D a b) (q : Nat) (hq : q < D.nb) (hf : (chL D.pr q).any (fullB D.us D.lm) = false) (ha : a < L.a.n) (nW : Nat → Nat → Value) : CI L (boughtN D q a 0 nW) (a + 1) b := by
  obtain ⟨u1, u2, u3, u4⟩ := h.us q hq hf
  refine ⟨h.n1, h.n256, h.pk, h.rt, ?_, h.pt, h.dt, h.nv, h.pv, ?_, ?_, h.op, ?_, u1, h.lm, u2⟩
  · show upd D.nt a true = _
    rw [h.nt, thN_s]
  · show ((a + 1 : Nat) : Int) + (b : Int) = addL D.us (chL D.pr q) 1 0
    rw [u3, ← h.tot]; omega
  · intro i hi
    by_cases e : i = a
    · subst e; exact ⟨q, hq, upd_at _ _ _, upd_at _ _ _⟩
    · obtain ⟨q', h1, h2, h3⟩ := h.on i (by omega)
      exact ⟨q', h1, (upd_other _ _ _ _ e).trans h2, (upd_other _ _ _ _ e).trans h3⟩
  · intro k hk
    have e := oks_upd D.nt D.o1 k a q (by rw [h.nt]; simp [thN]) L.a.n
    have e2 : ownN L (boughtN D q a 0 nW) k = ownN L D k + (if a < L.a.n ∧ q = k then 1 else 0) := by
      show (oks (upd D.nt a true) (upd D.o1 a (q : Int)) k L.a.n).length + _ + _ = _
      rw [e]; unfold ownN boughtN; simp only []; omega
    show addL D.us (chL D.pr q) 1 k = (ownN L (boughtN D q a 0 nW) k : Int) + sumC (addL D.us (chL D.pr q) 1) D.pr k D.nb
    rw [u4 k hk, e2]
    by_cases e3 : k = q
    · rw [if_pos e3, if_pos ⟨ha, e3.symm⟩]; omega
    · rw [if_neg e3, if_neg (fun h => e3 h.2.symm)]; omega
theorem CI.page (h : CI L D a b) (q : Nat) (hq : q < D.nb) (hf : (chL D.pr q).any (fullB D.us D.lm) = false) (hb : b < L.b.n) (pW : Nat → Nat → Int) : CI L (boughtP D q b 0 pW) a (b + 1) := by
  obtain ⟨u1, u2, u3, u4⟩ := h.us q hq hf
  refine ⟨h.n1, h.n256, h.pk, h.rt, h.nt, ?_, h.dt, h.nv, h.pv, ?_, h.on, ?_, ?_, u1, h.lm, u2⟩
  · show upd D.pt b true = _
    rw [h.pt, thN_s]
  · show (a : Int) + ((b + 1 : Nat) : Int) = addL D.us (chL D.pr q) 1 0
    rw [u3, ← h.tot]; omega
  · intro i hi
    by_cases e : i = b
    · subst e; exact ⟨q, hq, upd_at _ _ _, upd_at _ _ _⟩
    · obtain ⟨q', h1, h2, h3⟩ := h.op i (by omega)
      exact ⟨q', h1, (upd_other _ _ _ _ e).trans h2, (upd_other _ _ _ _ e).trans h3⟩
  · intro k hk
    have e := oks_upd D.pt D.o2 k b q (by rw [h.pt]; simp [thN]) L.b.n
    have e2 : ownN L (boughtP D q b 0 pW) k = ownN L D k + (if b < L.b.n ∧ q = k then 1 else 0) := by
      show _ + (oks (upd D.pt b true) (upd D.o2 b (q : Int)) k L.b.n).length + _ = _
      rw [e]; unfold ownN boughtP; simp only []; omega
    show addL D.us (chL D.pr q) 1 k = (ownN L (boughtP D q b 0 pW) k : Int) + sumC (addL D.us (chL D.pr q) 1) D.pr k D.nb
    rw [u4 k hk, e2]
    by_cases e3 : k = q
    · rw [if_pos e3, if_pos ⟨hb, e3.symm⟩]; omega
    · rw [if_neg e3, if_neg (fun h => e3 h.2.symm)]; omega
end
end Go.Proofs.YtagiabcmbihoaaaDoor
namespace Go.Proofs.YtagiabcmbihoaaaDoor
open Go.ChangeShapes Go.WideShapes Go.ChangeAt Go.RowKit
set_option linter.unusedVariables false
set_option linter.unusedSimpArgs false
/-- A law's row of numbers. -/
structure RowF (w : World) (a : Option Addr) (len : Nat) (f : Nat → Int) : Prop where
  src : ∀ j, j < len → ∃ ad, a = some ad ∧ (ad.add j).block < w.heap.size ∧ w.cell? (ad.add j) = some (.int .i64 (f j))
  fit : ∀ j, j < len → -9223372036854775808 ≤ f j ∧ f j ≤ 9223372036854775807
  le : len ≤ 9223372036854775807
theorem RowF.below {w w' : World} {a : Option Addr} {len : Nat} {f : Nat → Int} (h : RowF w a len f) (hb : Below w.heap.size w w') : RowF w' a len f :=
  ⟨fun j hj => by obtain ⟨ad, h1, h2, h3⟩ := h.src j hj; exact ⟨ad, h1, Nat.lt_of_lt_of_le h2 hb.size, (hb.cell h2).trans h3⟩, h.fit, h.le⟩
theorem bc_row {w : World} {a : Option Addr} {len cap : Nat} {zs : List Int} (h : IsRow .i64 w a len cap zs) : ∃ xs : List Int, xs.length = len ∧ (∀ j, j < len → ∃ ad, a = some ad ∧ w.cell? (ad.add j) = some (.int .i64 (xs.getD j 0))) ∧ (∀ j, j < len → -9223372036854775808 ≤ xs.getD j 0 ∧ xs.getD j 0 ≤ 9223372036854775807) ∧ len ≤ 9223372036854775807 := by
  rcases h with ⟨rfl, rfl, -, -⟩ | ⟨x, rfl, h1, h2, h3, h4, h5⟩
  · exact ⟨[], rfl, fun i hi => by omega, fun j hj => by omega, by omega⟩
  · refine ⟨zs.take len, by simp; omega, fun i hi => ?_, fun i hi => ?_, by unfold maxLen at h2; omega⟩
    · refine ⟨x, rfl, ?_⟩
      rw [h4 i (by omega)]
      simp [List.getD, hi]
    · have hz : zs.getD i 0 ∈ zs := by
        have hil : i < zs.length := by omega
        simp [List.getD, hil]
      have h6 := fit64 (h5 _ hz)
      have e : (zs.take len).getD i 0 = zs.getD i 0 := by simp [List.getD, hi]
      rw [e]
      exact h6
theorem rowF_of {w : World} {a : Option Addr} {len cap : Nat} {zs : List Int} (h : IsRow .i64 w a len cap zs) : ∃ f, RowF w a len f := by
  obtain ⟨xs, h1, h2, h3, h4⟩ := bc_row h
  refine ⟨fun j => xs.getD j 0, fun j hj => ?_, h3, h4⟩
  obtain ⟨ad, e, hc⟩ := h2 j hj
  refine ⟨ad, e, ?_, hc⟩
  rcases Nat.lt_or_ge (ad.add j).block w.heap.size with h' | h'
  · exact h'
  · simp [World.cell?, Array.getElem?_eq_none h'] at hc
/-- Banks, and nothing taken yet. -/
structure CO (L : BLoc) (D : BSt) (k : Nat) : Prop where
  nb : D.nb = k
  k6 : k ≤ 6
  pk : PrOk D.nb D.pr
  rt : ∀ i, 1 ≤ i → i < D.nb → 0 ≤ D.pr i
  nt : D.nt = thN 0
  pt : D.pt = thN 0
  dt : D.dt = fun _ => false
  nv : D.nv = fun _ => 0
  pv : D.pv = fun _ => 0
  us : D.us = fun _ => 0
  lm : ∀ k, k < D.nb → 0 ≤ D.lm k ∧ D.lm k ≤ 20
theorem thN_zero : (fun _ => false) = thN 0 := by funext i; simp [thN]
theorem CO.st (L : BLoc) : CO L st0 0 := ⟨rfl, by decide, fun i hi => absurd hi (by show ¬ i < 0; omega), fun i _ hi => absurd hi (by show ¬ i < 0; omega), thN_zero, thN_zero, rfl, rfl, rfl, rfl, fun i hi => absurd hi (by show ¬ i < 0; omega)⟩
theorem CO.open {L : BLoc} {D : BSt} {k : Nat} (h : CO L D k) (y lim : Int) (hy0 : -1 ≤ y) (hy1 : y < k) (hy2 : 1 ≤ k → 0 ≤ y) (h0 : 0 ≤ lim) (h1 : lim ≤ 20) (hk : k < 6) : CO L (openedB D y lim) (k + 1) := by
  have hnb := h.nb
  refine ⟨by show D.nb + 1 = k + 1; omega, hk, ?_, ?_, h.nt, h.pt, h.dt, h.nv, h.pv, ?_, ?_⟩
  · exact prok_put h.pk y hy0 (by omega)
  · intro i hi hi2
    show 0 ≤ upd D.pr D.nb y i
    have hi2' : i < D.nb + 1 := hi2
    by_cases e : i = D.nb
    · rw [e, upd_at]; exact hy2 (by omega)
    · rw [upd_other _ _ _ _ e]; exact h.rt i hi (by omega)
  · show upd D.us D.nb 0 = _
    rw [h.us]; funext i; simp [upd]
  · intro i hi
    show 0 ≤ upd D.lm D.nb lim i ∧ upd D.lm D.nb lim i ≤ 20
    have hi2' : i < D.nb + 1 := hi
    by_cases e : i = D.nb
    · rw [e, upd_at]; exact ⟨h0, h1⟩
    · rw [upd_other _ _ _ _ e]; exact h.lm i (by omega)
/-- Number, of a number in a row. -/
theorem num_f (x : Int) (h : -9223372036854775808 ≤ x ∧ x ≤ 9223372036854775807) (m : Nat) (hm0 : 0 < m) (hm1 : m ≤ 1000) (y : Int) (hy : Hid (y = (m : Int))) : ∃ r : Nat, r < m ∧ ∀ w, Calls Tryd.prog 8 #[.int .i64 x, .int .i64 y] w fun e w' => e = .returned (.int .i64 (r : Int)) ∧ w = w' := by
  rw [hy.out]
  exact number_nat x m m rfl hm0 hm1 h.1 h.2
end Go.Proofs.YtagiabcmbihoaaaDoor
namespace Go.Proofs.YtagiabcmbihoaaaDoor
open Go.ChangeShapes Go.WideShapes Go.ChangeAt Go.RowKit
set_option linter.unusedVariables false
set_option linter.unusedSimpArgs false
def kk1 (x : Int) : Nat → Nat → Int := fun _ q => if q = 0 then 1 else if q = 4 then x else 0
theorem srcv_one {L : BLoc} {w : World} {K : Nat} {x : Int} (hK : L.T ≤ K) (h : KeyC w K 1 0 0 0 x) : SrcV L w (some ⟨K, 0, none⟩) 1 (kk1 x) := fun W hW B G hB hG => ⟨fun i hi => by
  obtain rfl : i = 0 := by omega
  have hl := h.lt
  have h2 := h.below hW
  refine ⟨⟨K, 0, none⟩, rfl, h2.lt, by show K ≠ B; omega, by show K ≠ G; omega, fun q hq => ?_⟩
  match q, hq with
  | 0, _ => exact h2.c0
  | 1, _ => exact h2.c1
  | 2, _ => exact h2.c2
  | 3, _ => exact h2.c3
  | 4, _ => exact h2.c4⟩
theorem srcw_one {L : BLoc} {w : World} {K : Nat} {x : Int} (hK : L.T ≤ K) (h : w.cell? ⟨K, 0, none⟩ = some (.int .u32 x)) : SrcW L w (some ⟨K, 0, none⟩) [x] := fun W hW B G hB hG => ⟨fun i hi => by
  obtain rfl : i = 0 := by simp at hi; omega
  have hl := cell_lt h
  exact ⟨⟨K, 0, none⟩, rfl, Nat.lt_of_lt_of_le hl hW.size, by show K ≠ B; have : K < w.heap.size := hl; omega, by show K ≠ G; have : K < w.heap.size := hl; omega, (hW.cell (p := ⟨K, 0, none⟩) hl).trans h⟩⟩
/-- Banks as they are while BankEnds takes. -/
def EJ (w0 : World) (L : BLoc) (nb a b c : Nat) (W : World) : Prop := ∃ D, BW w0 W L D ∧ CE L D a b c ∧ D.nb = nb
section
variable {w0 w w' : World} {L : BLoc} {nb a b c : Nat}
theorem EJ.below (h : EJ w0 L nb a b c w) (hb : Below w.heap.size w w') : EJ w0 L nb a b c w' := by obtain ⟨D, h1, h2⟩ := h; exact ⟨D, h1.below hb, h2⟩
theorem EJ.bel (h : EJ w0 L nb a b c w) : Below w0.heap.size w0 w := by obtain ⟨D, h1, h2⟩ := h; exact h1.bel
theorem EJ.sub (h : EJ w0 L nb 0 0 0 w) (hn : L.n = 8) (hnb : nb < 6) (q : Nat) (hq : q < nb) : Calls Tryd.prog 7 #[.pointer (some ⟨L.P, 0, none⟩), .int .i64 (q : Int), .int .i64 100] w fun e w' => e = .returned (.tuple #[.int .i64 (nb : Int), .int .i64 0, .nilIface]) ∧ EJ w0 L (nb + 1) 0 0 0 w' := by
  obtain ⟨D, h1, h2, h3⟩ := h
  refine (bwsub_ok (D := D) (q : Int) q (Lib.hid rfl) 100 (by decide) (by decide) (by omega) (nb : Int) (Lib.hid (by rw [h3])) (by omega) (Lib.hid (by
    have := (chL_bound h2.pk (by have := h2.n8; omega) D.nb q (by omega) (Nat.le_refl _)).1
    have := h2.n8
    omega)) w h1).mono ?_
  rintro e w' ⟨he, hW, hu⟩
  exact ⟨he, _, hW, h2.open_ q (by omega) (by omega) ⟨rfl, rfl, rfl⟩, by show D.nb + 1 = nb + 1; omega⟩
theorem right_num (x : Int) (h0 : 0 ≤ x) (h1 : x ≤ 30) : rightB 1 0 0 0 x = true := by
  obtain ⟨n, rfl⟩ : ∃ n : Nat, x = n := ⟨x.toNat, by omega⟩
  have hn : n ≤ 30 := by omega
  unfold rightB
  simp
  have e : (30 : Int) ≤ dataMost 1 := by decide
  exact ⟨by decide, by decide, by decide, by decide, by omega⟩
theorem EJ.node (h : EJ w0 L nb a b c w) (hn : L.a.n = 32) (ha : a < 10) (q : Nat) (hq : q < nb) (x : Int) (h0 : 0 ≤ x) (h1 : x ≤ 30) (T : TypeId) (vs vr : Value) (hE : ErrsAt vs vr w) : Calls Tryd.prog 9 #[.pointer (some ⟨L.P, 0, none⟩), .int .i64 (q : Int), .slice (some ⟨w.heap.size, 0, none⟩) 1 1] (w.alloc (.cells #[.int .i64 1, .int .i64 0, .int .i64 0, .int .i64 0, .int .u32 x] T (0, 0))) fun e w' => (∃ r s t, e = .returned (.tuple #[r, s, t])) ∧ EJ w0 L nb (a + 1) b c w' := by
  obtain ⟨D, g1, g2, g3⟩ := h
  have hb : Below w.heap.size w (w.alloc (.cells #[.int .i64 1, .int .i64 0, .int .i64 0, .int .i64 0, .int .u32 x] T (0, 0))) := (Below.refl _ _).alloc (Nat.le_refl _) _
  refine (bnode_ok (D := D) q (by omega) vs vr (some ⟨w.heap.size, 0, none⟩) 1 1 (kk1 x) (Lib.hid (fun i _ => right_num x h0 h1)) (by decide) a (by omega) (Lib.hid (by rw [g2.nt, g2.nv]; exact thN_free a)) (Lib.hid (by rw [g2.nt, g2.nv]; exact thN_not a)) 0 (Lib.hid (by rw [g2.nv])) (Lib.hid (g2.room q (by omega))) (Lib.hid g2.wide) _ (g1.below hb) (hE.below hb) (srcv_one g1.tw (KeyC.new w 1 0 0 0 x T))).mono ?_
  rintro e w' ⟨he, hW, hu⟩
  exact ⟨⟨_, _, _, he⟩, _, hW, g2.node q (by omega) _ ha, g3⟩
theorem EJ.page (h : EJ w0 L nb a b c w) (hn : L.b.n = 32) (ha : b < 10) (q : Nat) (hq : q < nb) (x : Int) (T : TypeId) : Calls Tryd.prog 10 #[.pointer (some ⟨L.P, 0, none⟩), .int .i64 (q : Int), .slice (some ⟨w.heap.size, 0, none⟩) 1 1] (w.alloc (.cells #[.int .u32 x] T (0, 0))) fun e w' => (∃ r s t, e = .returned (.tuple #[r, s, t])) ∧ EJ w0 L nb a (b + 1) c w' := by
  obtain ⟨D, g1, g2, g3⟩ := h
  have hb : Below w.heap.size w (w.alloc (.cells #[.int .u32 x] T (0, 0))) := (Below.refl _ _).alloc (Nat.le_refl _) _
  refine (bpage_ok (D := D) q (by omega) (some ⟨w.heap.size, 0, none⟩) 1 1 [x] (Lib.hid rfl) (by decide) b (by omega) (Lib.hid (by rw [g2.pt, g2.pv]; exact thN_free b)) (Lib.hid (by rw [g2.pt, g2.pv]; exact thN_not b)) 0 (Lib.hid (by rw [g2.pv])) (Lib.hid (g2.room q (by omega))) (Lib.hid g2.wide) _ (g1.below hb) (srcw_one g1.tw (by simp))).mono ?_
  rintro e w' ⟨he, hW, hu⟩
  exact ⟨⟨_, _, _, he⟩, _, hW, g2.page q (by omega) _ ha, g3⟩
theorem EJ.dom (h : EJ w0 L nb a b c w) (hn : L.dn = 8) (q : Nat) (hq : q < nb) (z : Addr) (hF : w.cell? ⟨4, 0, none⟩ = some (eV z)) : Calls Tryd.prog 11 #[.pointer (some ⟨L.P, 0, none⟩), .int .i64 (q : Int)] w fun e w' => (∃ r s t, e = .returned (.tuple #[r, s, t])) ∧ ∃ c', EJ w0 L nb a b c' w' := by
  obtain ⟨D, g1, g2, g3⟩ := h
  have hab := g2.ab
  by_cases hc : c < 8
  · refine (bdomain_ok (D := D) q (by omega) c 0 (by omega) (Lib.hid (by rw [g2.dt, g2.dv]; exact thN_free c)) (Lib.hid (by rw [g2.dt, g2.dv]; exact thN_not c)) (Lib.hid (by rw [g2.dv])) (Lib.hid (g2.room q (by omega))) (Lib.hid g2.wide) w g1).mono ?_
    rintro e w' ⟨he, hW, hu⟩
    exact ⟨⟨_, _, _, he⟩, c + 1, _, hW, g2.dom q (by omega) hc, g3⟩
  · obtain rfl : c = 8 := by omega
    refine (bdomain_full (D := D) q (by omega) (Lib.hid (by rw [g2.dt, g2.dv, hn]; exact thN_not 8)) (Lib.hid (g2.room q (by omega))) z w g1 hF).mono ?_
    rintro e w' ⟨he, hb⟩
    exact ⟨⟨_, _, _, he⟩, 8, D, g1.below hb, g2, g3⟩
end
end Go.Proofs.YtagiabcmbihoaaaDoor
namespace Go.Proofs.YtagiabcmbihoaaaDoor
open Go.ChangeShapes Go.WideShapes Go.ChangeAt Go.RowKit
set_option linter.unusedVariables false
set_option linter.unusedSimpArgs false
theorem ebused_is {base P p B A G1 G2 G3 n c mb db : Nat} {th : Nat → Bool} {vr pr us lm o1 v1 o2 v2 o3 v3 : Nat → Int} (q : Nat) (x z : Int) (hx : Hid (x = (q : Int))) (hq : q < n) (hth : Hid (th q = true)) (hz : Hid (us q = z)) (w : World) (h : (BkAt w base P p B A G1 G2 G3 n c mb db th vr pr us lm o1 v1 o2 v2 o3 v3)) :
    Calls Tryd.prog 15 #[.pointer (some ⟨P, 0, none⟩), .int .i64 x] w fun e w' => e = .returned (.int .i64 z) ∧ w = w' := by
  rw [hx.out]
  have H := Lib.hid h
  have f0 := h.f0
  have f3 := h.f3
  have c0 := h.ac1 q (by omega)
  rw [hz.out] at c0
  have k0 : (0 : Int) ≤ q := by omega
  have k1 : (q : Int) < n := by omega
  clear h hx
  go_enter Tryd.func15, Tryd.ntmps15
  go_wp2_with (first
    | (go_at_call 17; (with_reducible refine (athere_in q (by omega) true hth _ H.out.ar).mono ?_); rintro e w1 ⟨rfl, rfl⟩))
  go_ret
  exact ⟨rfl, rfl⟩
theorem inL_full {nb : Nat} {pr : Nat → Int} {z : Int} : ∀ n, nb ≤ n → inL nb pr z n = inL nb pr z nb := by
  intro n hn
  induction n with
  | zero => rw [show nb = 0 by omega]
  | succ n ih =>
    by_cases e : nb = n + 1
    · rw [e]
    · rw [inL_no n (by rw [decide_eq_false (by omega)]; rfl)]; exact ih (by omega)
/-- The banks not within. -/
def stL (pr : Nat → Int) (z : Int) (n : Nat) : List Nat := (List.range n).filter (fun i => !(chL pr (i : Int)).contains z)
theorem stL_yes {pr : Nat → Int} {z : Int} (n : Nat) (h : (chL pr (n : Int)).contains z = false) : stL pr z (n + 1) = stL pr z n ++ [n] := by
  unfold stL; rw [List.range_succ, List.filter_append]; simp only [List.filter_cons, List.filter_nil, h]; rfl
theorem stL_no {pr : Nat → Int} {z : Int} (n : Nat) (h : (chL pr (n : Int)).contains z = true) : stL pr z (n + 1) = stL pr z n := by
  unfold stL; rw [List.range_succ, List.filter_append]; simp only [List.filter_cons, List.filter_nil, h]; simp
theorem stL_mem {pr : Nat → Int} {z : Int} {n i : Nat} : i ∈ stL pr z n ↔ i < n ∧ (chL pr (i : Int)).contains z = false := by
  unfold stL; rw [List.mem_filter, List.mem_range]; simp
theorem stL_nodup (pr : Nat → Int) (z : Int) (n : Nat) : (stL pr z n).Nodup := List.nodup_range.filter _
theorem inL_mem {nb : Nat} {pr : Nat → Int} {z : Int} {n i : Nat} : i ∈ inL nb pr z n ↔ i < n ∧ i < nb ∧ (chL pr (i : Int)).contains z = true := by
  unfold inL; rw [List.mem_filter, List.mem_range]; simp
theorem chL_trans {nb : Nat} {pr : Nat → Int} (hp : PrOk nb pr) (hb : nb ≤ 256) : ∀ (m q : Nat), q < m → q < nb → ∀ p : Nat, (p : Int) ∈ chL pr (q : Int) → ∀ z, z ∈ chL pr (p : Int) → z ∈ chL pr (q : Int) := by
  intro m
  induction m with
  | zero => intro q hq; omega
  | succ m ih =>
    intro q hq hqn p hpm z hz
    rw [chL_cons hp q hqn hb] at hpm ⊢
    rcases List.mem_cons.1 hpm with e | hpm
    · have : p = q := by omega
      subst this
      rw [chL_cons hp p hqn hb] at hz
      exact hz
    · have h2 := (hp q hqn).2
      by_cases e : 0 ≤ pr q
      · obtain ⟨p', hp'⟩ : ∃ p' : Nat, pr q = (p' : Int) := ⟨(pr q).toNat, by omega⟩
        rw [hp'] at h2 hpm ⊢
        exact List.mem_cons_of_mem _ (ih p' (by omega) (by omega) p hpm z hz)
      · rw [chL_neg _ _ (by omega)] at hpm
        cases hpm
/-- What these banks own, as keys. -/
def itL (L : BLoc) (D : BSt) (l : List Nat) : List (Nat × Nat × Int) := l.flatMap (items L D)
theorem itL_snoc (L : BLoc) (D : BSt) (l : List Nat) (q : Nat) : itL L D (l ++ [q]) = itL L D l ++ items L D q := by simp [itL]
theorem itL_len (L : BLoc) (D : BSt) (l : List Nat) : (itL L D l).length = sumN L D l := by
  unfold itL sumN
  induction l with
  | nil => rfl
  | cons q l ih => rw [List.flatMap_cons, List.length_append, ih, items_len, List.map_cons, List.sum_cons]
theorem keyL_app (a b : List (Nat × Nat × Int)) : keyL (a ++ b) = keyL a ++ keyL b := by simp [keyL]
theorem items_mem {L : BLoc} {D : BSt} {q : Nat} {y : Nat × Nat × Int} (h : y ∈ items L D q) : (y.1 = 2 ∧ y.2.1 ∈ oks D.nt D.o1 q L.a.n ∧ y.2.2 = D.nv y.2.1) ∨ (y.1 = 3 ∧ y.2.1 ∈ oks D.pt D.o2 q L.b.n ∧ y.2.2 = D.pv y.2.1) ∨ (y.1 = 4 ∧ y.2.1 ∈ oks D.dt D.o3 q L.dn ∧ y.2.2 = D.dv y.2.1) := by
  unfold items itK at h
  rw [List.mem_append, List.mem_append] at h
  rcases h with (h | h) | h
  · obtain ⟨i, hi, rfl⟩ := List.mem_map.1 h
    exact .inl ⟨rfl, hi, rfl⟩
  · obtain ⟨i, hi, rfl⟩ := List.mem_map.1 h
    exact .inr (.inl ⟨rfl, hi, rfl⟩)
  · obtain ⟨i, hi, rfl⟩ := List.mem_map.1 h
    exact .inr (.inr ⟨rfl, hi, rfl⟩)
theorem sumN_cnt (L : BLoc) (D : BSt) (il : List Nat) (hn : il.Nodup) : sumN L D il = cntB (fun i => decide (i ∈ ofL D.nt D.o1 L.a.n il)) L.a.n + cntB (fun i => decide (i ∈ ofL D.pt D.o2 L.b.n il)) L.b.n + cntB (fun i => decide (i ∈ ofL D.dt D.o3 L.dn il)) L.dn := by
  rw [sum_N, cnt_ofL _ _ _ _ hn _ (Nat.le_refl _), cnt_ofL _ _ _ _ hn _ (Nat.le_refl _), cnt_ofL _ _ _ _ hn _ (Nat.le_refl _)]
theorem sumN_le (L : BLoc) (D : BSt) (il : List Nat) (hn : il.Nodup) : sumN L D il ≤ L.a.n + L.b.n + L.dn := by
  rw [sumN_cnt L D il hn]
  have h1 := cntB_le (fun i => decide (i ∈ ofL D.nt D.o1 L.a.n il)) L.a.n
  have h2 := cntB_le (fun i => decide (i ∈ ofL D.pt D.o2 L.b.n il)) L.b.n
  have h3 := cntB_le (fun i => decide (i ∈ ofL D.dt D.o3 L.dn il)) L.dn
  omega
/-- The banks behind an end. -/
def afterE (L : BLoc) (D : BSt) (q K : Nat) (il : List Nat) : BSt := { gB L D il with us := addL D.us (chL D.pr (D.pr q)) (-(K : Int)) }
section
variable {L : BLoc} {D : BSt} {a b c : Nat}
/-- What is counted free: behind an end, so many more. -/
theorem CE.left (h : CE L D a b c) (il : List Nat) (hn : il.Nodup) (q K : Nat) : cntB (freeB (afterE L D q K il).nt (afterE L D q K il).nv) L.a.n + cntB (freeB (afterE L D q K il).pt (afterE L D q K il).pv) L.b.n + cntB (freeB (afterE L D q K il).dt (afterE L D q K il).dv) L.dn = cntB (freeB D.nt D.nv) L.a.n + cntB (freeB D.pt D.pv) L.b.n + cntB (freeB D.dt D.dv) L.dn + sumN L D il := by
  show cntB (freeB (gT D.nt (ofL D.nt D.o1 L.a.n il)) (gV D.nv (ofL D.nt D.o1 L.a.n il))) L.a.n + cntB (freeB (gT D.pt (ofL D.pt D.o2 L.b.n il)) (gV D.pv (ofL D.pt D.o2 L.b.n il))) L.b.n + cntB (freeB (gT D.dt (ofL D.dt D.o3 L.dn il)) (gV D.dv (ofL D.dt D.o3 L.dn il))) L.dn = _
  rw [cnt_gone _ _ _ (fun i hi => ⟨(ofL_mem.1 hi).2.1, by rw [h.nv]⟩), cnt_gone _ _ _ (fun i hi => ⟨(ofL_mem.1 hi).2.1, by rw [h.pv]⟩), cnt_gone _ _ _ (fun i hi => ⟨(ofL_mem.1 hi).2.1, by rw [h.dv]⟩), sumN_cnt L D il hn]
  omega
theorem CE.root (h : CE L D a b c) (q K : Nat) (hq : q < D.nb) (h0 : 0 < q) (il : List Nat) : (afterE L D q K il).us 0 = D.us 0 - (K : Int) := by
  show addL D.us (chL D.pr (D.pr q)) (-(K : Int)) 0 = _
  have h1 := h.rt q (by omega) hq
  have h2 := (h.pk q hq).2
  obtain ⟨p, hp⟩ : ∃ p : Nat, D.pr q = (p : Int) := ⟨(D.pr q).toNat, by omega⟩
  rw [hp] at h2 ⊢
  rw [addL_0 (h.zero _ p (Nat.lt_succ_self p) (by omega))]
  omega
/-- Bank 0 is within no other. -/
theorem CE.top (h : CE L D a b c) (q n : Nat) (h0 : 0 < q) : 0 ∉ inL D.nb D.pr (q : Int) n := fun hm => by
  have h1 := (inL_mem.1 hm).2.2
  have hn := h.n8
  have hz := h.pk 0 (by have := h.n1; omega)
  have e : D.pr 0 = -1 := by omega
  rw [chL_root h.pk (by omega) 0 (by have := h.n1; omega) e] at h1
  simp at h1
  omega
theorem CE.self (h : CE L D a b c) (q n : Nat) (hq : q < D.nb) (hn : D.nb ≤ n) : q ∈ inL D.nb D.pr (q : Int) n := by
  have hn := h.n8
  refine inL_mem.2 ⟨by omega, hq, ?_⟩
  rw [chL_cons h.pk q hq (by omega)]
  simp
/-- A key to what is gone. -/
theorem gone_live (L : BLoc) (D : BSt) (q K : Nat) (il : List Nat) (q' : Nat) (hq : q' ∈ il) (y : Nat × Nat × Int) (hy : y ∈ items L D q') : liveK L (afterE L D q K il) (y.1 : Int) (y.2.1 : Int) y.2.2 = false ∧ (y.1 = 2 ∨ y.1 = 3 ∨ y.1 = 4) := by
  obtain ⟨y0, y1, y2⟩ := y
  rcases items_mem hy with ⟨e0, hm, e2⟩ | ⟨e0, hm, e2⟩ | ⟨e0, hm, e2⟩
  · have hmm := oks_mem.1 hm
    have e : gT D.nt (ofL D.nt D.o1 L.a.n il) y1 = false := if_pos (ofL_mem.2 ⟨hmm.1, hmm.2.1, q', hq, hmm.2.2⟩)
    simp only at e0
    subst e0
    refine ⟨?_, .inl rfl⟩
    unfold liveK
    dsimp only
    rw [if_neg (by decide), if_pos (by decide)]
    show (thereB L.a.n (gT D.nt (ofL D.nt D.o1 L.a.n il)) (y1 : Int) && _) = false
    simp [thereB, e]
  · have hmm := oks_mem.1 hm
    have e : gT D.pt (ofL D.pt D.o2 L.b.n il) y1 = false := if_pos (ofL_mem.2 ⟨hmm.1, hmm.2.1, q', hq, hmm.2.2⟩)
    simp only at e0
    subst e0
    refine ⟨?_, .inr (.inl rfl)⟩
    unfold liveK
    dsimp only
    rw [if_neg (by decide), if_neg (by decide), if_pos (by decide)]
    show (thereB L.b.n (gT D.pt (ofL D.pt D.o2 L.b.n il)) (y1 : Int) && _) = false
    simp [thereB, e]
  · have hmm := oks_mem.1 hm
    have e : gT D.dt (ofL D.dt D.o3 L.dn il) y1 = false := if_pos (ofL_mem.2 ⟨hmm.1, hmm.2.1, q', hq, hmm.2.2⟩)
    simp only at e0
    subst e0
    refine ⟨?_, .inr (.inr rfl)⟩
    unfold liveK
    dsimp only
    rw [if_pos (by decide)]
    show (thereB L.dn (gT D.dt (ofL D.dt D.o3 L.dn il)) (y1 : Int) && _) = false
    simp [thereB, e]
/-- A key to what stays. -/
theorem stay_live (h : CE L D a b c) (q K : Nat) (il : List Nat) (q' : Nat) (hq : q' ∉ il) (y : Nat × Nat × Int) (hy : y ∈ items L D q') : liveK L (afterE L D q K il) (y.1 : Int) (y.2.1 : Int) y.2.2 = true ∧ ((y.1 = 2 ∧ y.2.1 < L.a.n ∧ (afterE L D q K il).o1 y.2.1 = (q' : Int) ∧ (afterE L D q K il).v1 y.2.1 = y.2.2) ∨ (y.1 = 3 ∧ y.2.1 < L.b.n ∧ (afterE L D q K il).o2 y.2.1 = (q' : Int) ∧ (afterE L D q K il).v2 y.2.1 = y.2.2) ∨ (y.1 = 4 ∧ y.2.1 < L.dn ∧ (afterE L D q K il).o3 y.2.1 = (q' : Int) ∧ (afterE L D q K il).v3 y.2.1 = y.2.2)) := by
  have ho := h.ow
  obtain ⟨y0, y1, y2⟩ := y
  rcases items_mem hy with ⟨e0, hm, e2⟩ | ⟨e0, hm, e2⟩ | ⟨e0, hm, e2⟩
  · have hmm := oks_mem.1 hm
    have hno := ofL_dis hq y1 hm
    have e : gT D.nt (ofL D.nt D.o1 L.a.n il) y1 = true := (if_neg hno : gT D.nt _ y1 = D.nt y1).trans hmm.2.1
    have e3 : gV D.nv (ofL D.nt D.o1 L.a.n il) y1 = D.nv y1 := if_neg hno
    obtain ⟨q1, h1, h2, h3⟩ := ho.n y1 hmm.1 hmm.2.1
    simp only at e0 e2
    subst e0
    subst e2
    refine ⟨?_, .inl ⟨rfl, hmm.1, (if_neg hno : gO D.o1 _ _ y1 = D.o1 y1).trans hmm.2.2, (if_neg hno : gO D.v1 _ _ y1 = D.v1 y1).trans h3⟩⟩
    unfold liveK
    dsimp only
    rw [if_neg (by decide), if_pos (by decide)]
    show (thereB L.a.n (gT D.nt (ofL D.nt D.o1 L.a.n il)) (y1 : Int) && (gV D.nv (ofL D.nt D.o1 L.a.n il) (y1 : Int).toNat == D.nv y1)) = true
    simp [thereB, e, e3, hmm.1]
  · have hmm := oks_mem.1 hm
    have hno := ofL_dis hq y1 hm
    have e : gT D.pt (ofL D.pt D.o2 L.b.n il) y1 = true := (if_neg hno : gT D.pt _ y1 = D.pt y1).trans hmm.2.1
    have e3 : gV D.pv (ofL D.pt D.o2 L.b.n il) y1 = D.pv y1 := if_neg hno
    obtain ⟨q1, h1, h2, h3⟩ := ho.p y1 hmm.1 hmm.2.1
    simp only at e0 e2
    subst e0
    subst e2
    refine ⟨?_, .inr (.inl ⟨rfl, hmm.1, (if_neg hno : gO D.o2 _ _ y1 = D.o2 y1).trans hmm.2.2, (if_neg hno : gO D.v2 _ _ y1 = D.v2 y1).trans h3⟩)⟩
    unfold liveK
    dsimp only
    rw [if_neg (by decide), if_neg (by decide), if_pos (by decide)]
    show (thereB L.b.n (gT D.pt (ofL D.pt D.o2 L.b.n il)) (y1 : Int) && (gV D.pv (ofL D.pt D.o2 L.b.n il) (y1 : Int).toNat == D.pv y1)) = true
    simp [thereB, e, e3, hmm.1]
  · have hmm := oks_mem.1 hm
    have hno := ofL_dis hq y1 hm
    have e : gT D.dt (ofL D.dt D.o3 L.dn il) y1 = true := (if_neg hno : gT D.dt _ y1 = D.dt y1).trans hmm.2.1
    have e3 : gV D.dv (ofL D.dt D.o3 L.dn il) y1 = D.dv y1 := if_neg hno
    obtain ⟨q1, h1, h2, h3⟩ := ho.d y1 hmm.1 hmm.2.1
    simp only at e0 e2
    subst e0
    subst e2
    refine ⟨?_, .inr (.inr ⟨rfl, hmm.1, (if_neg hno : gO D.o3 _ _ y1 = D.o3 y1).trans hmm.2.2, (if_neg hno : gO D.v3 _ _ y1 = D.v3 y1).trans h3⟩)⟩
    unfold liveK
    dsimp only
    rw [if_pos (by decide)]
    show (thereB L.dn (gT D.dt (ofL D.dt D.o3 L.dn il)) (y1 : Int) && (gV D.dv (ofL D.dt D.o3 L.dn il) (y1 : Int).toNat == D.dv y1)) = true
    simp [thereB, e, e3, hmm.1]
/-- Of a bank that stays, all that it is within stays. -/
theorem CE.chain (h : CE L D a b c) (q q' n : Nat) (hq : q' < D.nb) (hs : (chL D.pr (q' : Int)).contains (q : Int) = false) : ∀ z, z ∈ chL D.pr (q' : Int) → thE D.nb (inL D.nb D.pr (q : Int) n) z.toNat = true := fun z hz => by
  have hn := h.n8
  have hb := (chL_bound h.pk (by omega) D.nb (q' : Int) (by omega) (Nat.le_refl _)).2 z hz
  obtain ⟨p, rfl⟩ : ∃ p : Nat, z = (p : Int) := ⟨z.toNat, by omega⟩
  have hno : p ∉ inL D.nb D.pr (q : Int) n := fun hm => by
    have h1 := (inL_mem.1 hm).2.2
    rw [List.contains_iff_mem] at h1
    have h2 := chL_trans h.pk (by omega) (q' + 1) q' (by omega) hq p hz _ h1
    rw [← List.contains_iff_mem, hs] at h2
    cases h2
  rw [Int.toNat_natCast]
  unfold thE
  rw [if_neg hno]
  exact thN_at (by omega)
end
section
variable {w0 w w' : World} {L : BLoc} {D : BSt} {th : Nat → Bool} {vr : Nat → Int}
theorem BE.title1 (h : BE w0 w L D th vr) (j : Nat) (hj : j < 256) : TiAt w L 2 L.G1 j (D.o1 j) (D.v1 j) := ⟨.inl ⟨rfl, rfl⟩, h.kk.t1.lt.2, (h.kk.t1.ti j hj).1, (h.kk.t1.ti j hj).2⟩
theorem BE.title2 (h : BE w0 w L D th vr) (j : Nat) (hj : j < 256) : TiAt w L 3 L.G2 j (D.o2 j) (D.v2 j) := ⟨.inr (.inl ⟨rfl, rfl⟩), h.kk.t2.lt.2, (h.kk.t2.ti j hj).1, (h.kk.t2.ti j hj).2⟩
theorem BE.title3 (h : BE w0 w L D th vr) (j : Nat) (hj : j < 256) : TiAt w L 4 L.G3 j (D.o3 j) (D.v3 j) := ⟨.inr (.inr ⟨by decide, by decide, rfl⟩), h.kk.t3.lt.2, (h.kk.t3.ti j hj).1, (h.kk.t3.ti j hj).2⟩
end
end Go.Proofs.YtagiabcmbihoaaaDoor
namespace Go.Proofs.YtagiabcmbihoaaaDoor
open Go.ChangeShapes Go.WideShapes Go.ChangeAt Go.RowKit
set_option linter.unusedVariables false
set_option linter.unusedSimpArgs false
theorem CE.st (L : BLoc) : CE L (openedB st0 (-1) 100) 0 0 0 := by
  refine ⟨Nat.le_refl _, by decide, ?_, fun i h1 h2 => absurd h2 (by show ¬ i < 1; omega), thN_zero, thN_zero, thN_zero, rfl, rfl, rfl, fun i hi => by omega, fun i hi => by omega, fun i hi => by omega, ?_, fun i => ?_, fun i hi => ?_, by decide⟩
  · exact prok_put (show PrOk 0 st0.pr from fun i hi => absurd hi (by omega)) (-1) (by decide) (by decide)
  · show upd st0.us 0 0 0 = _
    rw [upd_at]; rfl
  · show 0 ≤ upd st0.us 0 0 i ∧ upd st0.us 0 0 i ≤ _
    by_cases e : i = 0
    · subst e; rw [upd_at]; decide
    · rw [upd_other _ _ _ _ e]; exact ⟨Int.le_refl 0, Int.le_refl 0⟩
  · show upd st0.lm 0 100 i = 100
    have : i < 1 := hi
    obtain rfl : i = 0 := by omega
    rw [upd_at]
/-- A row of one's own takes another's cells, nil or not. -/
theorem app_any {P : Program} {w : World} {ops : Array Oper} {rest : List Oper} {o : Oper} {a : Act} {Q : Exit → Act → World → Prop} (hgd : o.guard = none) (s x : Operand) (t : TypeId)
    (ho : o.op = .call { callee := .builtin .append, args := #[s, x], argTypes := #[t, t] })
    (base : Nat) (e : TypeId) (i : TypeInfo) (z : Value) (size bytes : Nat) (ht : P.underlying t = some (.slice e)) (hi : P.info? e = some i) (hz : i.zero = some z)
    (hsize : i.size = size) (hby : i.bytes = bytes) (hzs : z.cells.size = size) (hsz : 0 < size)
    (v : Value) (n : Nat) (xs : List Value) (hs : a.eval s = v) (hown : w.ownsRow base e size v n xs)
    (v2 : Value) (m B2 : Nat) (news : List Value) (hx : a.eval x = v2) (hr : w.ownsRow B2 e size v2 m news) (h1 : ∀ u ∈ news, u.oneCell' = true)
    (h63 : n + m ≤ maxLen) (hbytes : (n + m) * bytes ≤ 140737488355328) (hbase : base ≤ w.heap.size)
    (h : ∀ v' w', w'.ownsRow base e size v' (n + m) (xs ++ news) → w.grownBy w' v.ownBlock → (v'.ownBlock = v.ownBlock ∨ v'.ownBlock = some w.heap.size) → wpList P ops Q rest (a.put o.dst v') w') : wpList P ops Q (o :: rest) a w := by
  have hr2 := hr
  rcases hr.2 with ⟨rfl, h0⟩ | ⟨g, cap, cur, rfl, hB, hg, hrest⟩
  · subst h0
    have hn : news = [] := List.eq_nil_of_length_eq_zero (by have := hr.1; simpa using this)
    subst hn
    refine wpList_append_own_none hgd s x t ho base e i size ht hi v n xs hs hown hx ?_
    exact h v w (by rw [List.append_nil]; exact hown) ⟨rfl, rfl, rfl, Nat.le_refl _, fun k _ _ => rfl⟩ (.inl rfl)
  · refine wpList_append_own_at w hgd s x t ho base e i z size bytes ht hi hz hsize hby hzs hsz v n xs hs hown ⟨g, 0, none⟩ m cap news hx hr.1 (fun j u hj => hr2.cells rfl j u hj) h1 h63 hbytes hbase ?_
    intro v' w' h2 h3 _ h5
    exact h v' w' h2 h3 h5
theorem keyL_one (l : List (Nat × Nat × Int)) : ∀ u ∈ keyL l, u.oneCell' = true := by
  intro u hu
  unfold keyL at hu
  obtain ⟨y, _, hy⟩ := List.mem_flatMap.1 hu
  simp only [List.mem_cons, List.not_mem_nil, or_false] at hy
  rcases hy with rfl | rfl | rfl | rfl | rfl <;> rfl
/-- Two rows of keys, apart. -/
structure TwoR (w : World) (B : Nat) (x y : Value) (lx ly : List (Nat × Nat × Int)) : Prop where
  rx : w.ownsRow B 38 5 x lx.length (keyL lx)
  ry : w.ownsRow B 38 5 y ly.length (keyL ly)
  ne : ∀ g, x.ownBlock = some g → y.ownBlock = some g → False
section
variable {w w' : World} {B : Nat} {x y v' : Value} {lx ly : List (Nat × Nat × Int)}
theorem TwoR.below (h : TwoR w B x y lx ly) (hb : Below w.heap.size w w') : TwoR w' B x y lx ly := ⟨own_below h.rx hb, own_below h.ry hb, h.ne⟩
theorem TwoR.swap (h : TwoR w B x y lx ly) : TwoR w B y x ly lx := ⟨h.ry, h.rx, fun g h1 h2 => h.ne g h2 h1⟩
theorem TwoR.put (h : TwoR w B x y lx ly) (l : List (Nat × Nat × Int)) (k m : Nat) (hk : lx.length = k) (hm : l.length = m) (hr : w'.ownsRow B 38 5 v' (k + m) (keyL lx ++ keyL l)) (hg : w.grownBy w' x.ownBlock) (ho : v'.ownBlock = x.ownBlock ∨ v'.ownBlock = some w.heap.size) : TwoR w' B v' y (lx ++ l) ly := by
  refine ⟨?_, ?_, fun g h1 h2 => ?_⟩
  · rw [keyL_app, List.length_append, hk, hm]; exact hr
  · refine h.ry.kept hg ?_
    cases e : y.ownBlock with
    | none => exact .inl rfl
    | some g => exact .inr (fun e2 => h.ne g e2.symm e)
  · rcases ho with e | e
    · exact h.ne g (e.symm.trans h1) h2
    · have := (h.ry.lt g h2).2
      rw [e] at h1
      injection h1 with h1
      omega
end
/-- A row of keys, and where it lies, for as long as it stays. -/
theorem row_keys {w : World} {B T : Nat} {l : List (Nat × Nat × Int)} {v : Value} {k : Nat} (hk : l.length = k) (h : w.ownsRow B 38 5 v l.length (keyL l)) (hT : T ≤ B) : ∃ a c, v = .slice a k c ∧ ∀ W, UpT T w W → ∀ j y, l[j]? = some y → ∃ g, a = some ⟨g, 0, none⟩ ∧ KeyJ W g j y := by
  subst hk
  obtain ⟨a, c, hv, hr⟩ := key_row h
  refine ⟨a, c, hv, fun W hu j y hj => ?_⟩
  have hl : j < l.length := by
    by_cases e : j < l.length
    · exact e
    · rw [List.getElem?_eq_none (by omega)] at hj; cases hj
  obtain ⟨g, hg, hB, hlt, hc⟩ := hr (by omega)
  have hk := keyL_at _ _ _ hj
  have hb := hu.2 g (by omega) hlt
  have cc : ∀ i, i < l.length * 5 → W.cell? ⟨g, i, none⟩ = (keyL l)[i]? := fun i hi => (World.cell?_of_block (a := ⟨g, i, none⟩) hb).trans (hc i hi)
  exact ⟨g, hg, ⟨(cc _ (by omega)).trans hk.1, (cc _ (by omega)).trans hk.2.1, (cc _ (by omega)).trans hk.2.2.1, (cc _ (by omega)).trans hk.2.2.2.1, (cc _ (by omega)).trans hk.2.2.2.2⟩⟩
theorem KeyJ.below {w w' : World} {g j : Nat} {y : Nat × Nat × Int} (h : KeyJ w g j y) (hb : Below w.heap.size w w') : KeyJ w' g j y :=
  ⟨(hb.cell (p := ⟨g, j * 5, none⟩) (cell_lt h.c0)).trans h.c0, (hb.cell (p := ⟨g, j * 5 + 1, none⟩) (cell_lt h.c1)).trans h.c1, (hb.cell (p := ⟨g, j * 5 + 2, none⟩) (cell_lt h.c2)).trans h.c2, (hb.cell (p := ⟨g, j * 5 + 3, none⟩) (cell_lt h.c3)).trans h.c3, (hb.cell (p := ⟨g, j * 5 + 4, none⟩) (cell_lt h.c4)).trans h.c4⟩
/-- What is read of the banks, the memory, the domains. -/
structure KL (W0 w : World) (L : BLoc) : Prop where
  bel : Below W0.heap.size W0 w
  c0 : w.cell? ⟨L.mb, 0, none⟩ = some (.pointer (some ⟨L.S, 0, none⟩))
  c1 : w.cell? ⟨L.S, 0, none⟩ = some (.pointer (some ⟨L.a.P, 0, none⟩))
  c2 : w.cell? ⟨L.a.P, 0, none⟩ = some (.pointer (some ⟨L.a.p, 0, none⟩))
  c3 : w.cell? ⟨L.S, 1, none⟩ = some (.pointer (some ⟨L.b.P, 0, none⟩))
  c4 : w.cell? ⟨L.b.P, 0, none⟩ = some (.pointer (some ⟨L.b.p, 0, none⟩))
  c5 : w.cell? ⟨L.dP, 0, none⟩ = some (.pointer (some ⟨L.dp, 0, none⟩))
  c6 : w.cell? ⟨L.P, 0, none⟩ = some (.pointer (some ⟨L.p, 0, none⟩))
section
variable {W0 w w' : World} {L : BLoc}
theorem KL.below (h : KL W0 w L) (hb : Below w.heap.size w w') : KL W0 w' L :=
  ⟨h.bel.trans (hb.mono h.bel.size), (hb.cell (p := ⟨L.mb, 0, none⟩) (cell_lt h.c0)).trans h.c0, (hb.cell (p := ⟨L.S, 0, none⟩) (cell_lt h.c1)).trans h.c1, (hb.cell (p := ⟨L.a.P, 0, none⟩) (cell_lt h.c2)).trans h.c2, (hb.cell (p := ⟨L.S, 1, none⟩) (cell_lt h.c3)).trans h.c3, (hb.cell (p := ⟨L.b.P, 0, none⟩) (cell_lt h.c4)).trans h.c4, (hb.cell (p := ⟨L.dP, 0, none⟩) (cell_lt h.c5)).trans h.c5, (hb.cell (p := ⟨L.P, 0, none⟩) (cell_lt h.c6)).trans h.c6⟩
theorem KL.sk (h : KL W0 w L) : (KL W0 w L ∧ (World.cell? w ⟨L.mb, 0, none⟩ = some (.pointer (some ⟨L.S, 0, none⟩)) ∧ World.cell? w ⟨L.S, 0, none⟩ = some (.pointer (some ⟨L.a.P, 0, none⟩)) ∧ World.cell? w ⟨L.a.P, 0, none⟩ = some (.pointer (some ⟨L.a.p, 0, none⟩)) ∧ World.cell? w ⟨L.S, 1, none⟩ = some (.pointer (some ⟨L.b.P, 0, none⟩)) ∧ World.cell? w ⟨L.b.P, 0, none⟩ = some (.pointer (some ⟨L.b.p, 0, none⟩)) ∧ World.cell? w ⟨L.dP, 0, none⟩ = some (.pointer (some ⟨L.dp, 0, none⟩)) ∧ World.cell? w ⟨L.P, 0, none⟩ = some (.pointer (some ⟨L.p, 0, none⟩)))) := ⟨h, h.c0, h.c1, h.c2, h.c3, h.c4, h.c5, h.c6⟩
theorem sk_below (h : (KL W0 w L ∧ (World.cell? w ⟨L.mb, 0, none⟩ = some (.pointer (some ⟨L.S, 0, none⟩)) ∧ World.cell? w ⟨L.S, 0, none⟩ = some (.pointer (some ⟨L.a.P, 0, none⟩)) ∧ World.cell? w ⟨L.a.P, 0, none⟩ = some (.pointer (some ⟨L.a.p, 0, none⟩)) ∧ World.cell? w ⟨L.S, 1, none⟩ = some (.pointer (some ⟨L.b.P, 0, none⟩)) ∧ World.cell? w ⟨L.b.P, 0, none⟩ = some (.pointer (some ⟨L.b.p, 0, none⟩)) ∧ World.cell? w ⟨L.dP, 0, none⟩ = some (.pointer (some ⟨L.dp, 0, none⟩)) ∧ World.cell? w ⟨L.P, 0, none⟩ = some (.pointer (some ⟨L.p, 0, none⟩))))) (hb : Below w.heap.size w w') : (KL W0 w' L ∧ (World.cell? w' ⟨L.mb, 0, none⟩ = some (.pointer (some ⟨L.S, 0, none⟩)) ∧ World.cell? w' ⟨L.S, 0, none⟩ = some (.pointer (some ⟨L.a.P, 0, none⟩)) ∧ World.cell? w' ⟨L.a.P, 0, none⟩ = some (.pointer (some ⟨L.a.p, 0, none⟩)) ∧ World.cell? w' ⟨L.S, 1, none⟩ = some (.pointer (some ⟨L.b.P, 0, none⟩)) ∧ World.cell? w' ⟨L.b.P, 0, none⟩ = some (.pointer (some ⟨L.b.p, 0, none⟩)) ∧ World.cell? w' ⟨L.dP, 0, none⟩ = some (.pointer (some ⟨L.dp, 0, none⟩)) ∧ World.cell? w' ⟨L.P, 0, none⟩ = some (.pointer (some ⟨L.p, 0, none⟩)))) := (h.1.below hb).sk
theorem BE.kl {w0 : World} {D : BSt} {th : Nat → Bool} {vr : Nat → Int} (h : BE w0 w L D th vr) (hb : Below W0.heap.size W0 w) : KL W0 w L := ⟨hb, h.mm.m0, h.mm.sv.st.s0, h.mm.sv.st.nd.f0, h.mm.sv.st.s1, h.mm.sv.st.pg.f0, h.dd.pl.f0, h.kk.f0⟩
end
/-- With a key of a row. -/
structure KM (W0 w : World) (L : BLoc) (g j : Nat) (y : Nat × Nat × Int) : Prop where
  k : KL W0 w L
  y : KeyJ w g j y
section
variable {W0 w w' : World} {L : BLoc} {g j y0 y1 : Nat} {y2 : Int}
theorem KM.below (h : KM W0 w L g j (y0, y1, y2)) (hb : Below w.heap.size w w') : KM W0 w' L g j (y0, y1, y2) := ⟨h.k.below hb, h.y.below hb⟩
theorem KM.sm (h : KM W0 w L g j (y0, y1, y2)) : (KM W0 w L g j (y0, y1, y2) ∧ World.cell? w ⟨L.mb, 0, none⟩ = some (.pointer (some ⟨L.S, 0, none⟩)) ∧ World.cell? w ⟨L.dP, 0, none⟩ = some (.pointer (some ⟨L.dp, 0, none⟩)) ∧ (World.cell? w ⟨g, j * 5, none⟩ = some (.int .i64 (y0 : Int)) ∧ World.cell? w ⟨g, j * 5 + 1, none⟩ = some (.int .i64 (y1 : Int)) ∧ World.cell? w ⟨g, j * 5 + 2, none⟩ = some (.int .i64 y2) ∧ World.cell? w ⟨g, j * 5 + 3, none⟩ = some (.int .i64 0) ∧ World.cell? w ⟨g, j * 5 + 4, none⟩ = some (.int .u32 0))) := ⟨h, h.k.c0, h.k.c5, h.y.c0, h.y.c1, h.y.c2, h.y.c3, h.y.c4⟩
theorem sm_below (h : (KM W0 w L g j (y0, y1, y2) ∧ World.cell? w ⟨L.mb, 0, none⟩ = some (.pointer (some ⟨L.S, 0, none⟩)) ∧ World.cell? w ⟨L.dP, 0, none⟩ = some (.pointer (some ⟨L.dp, 0, none⟩)) ∧ (World.cell? w ⟨g, j * 5, none⟩ = some (.int .i64 (y0 : Int)) ∧ World.cell? w ⟨g, j * 5 + 1, none⟩ = some (.int .i64 (y1 : Int)) ∧ World.cell? w ⟨g, j * 5 + 2, none⟩ = some (.int .i64 y2) ∧ World.cell? w ⟨g, j * 5 + 3, none⟩ = some (.int .i64 0) ∧ World.cell? w ⟨g, j * 5 + 4, none⟩ = some (.int .u32 0)))) (hb : Below w.heap.size w w') : (KM W0 w' L g j (y0, y1, y2) ∧ World.cell? w' ⟨L.mb, 0, none⟩ = some (.pointer (some ⟨L.S, 0, none⟩)) ∧ World.cell? w' ⟨L.dP, 0, none⟩ = some (.pointer (some ⟨L.dp, 0, none⟩)) ∧ (World.cell? w' ⟨g, j * 5, none⟩ = some (.int .i64 (y0 : Int)) ∧ World.cell? w' ⟨g, j * 5 + 1, none⟩ = some (.int .i64 (y1 : Int)) ∧ World.cell? w' ⟨g, j * 5 + 2, none⟩ = some (.int .i64 y2) ∧ World.cell? w' ⟨g, j * 5 + 3, none⟩ = some (.int .i64 0) ∧ World.cell? w' ⟨g, j * 5 + 4, none⟩ = some (.int .u32 0))) := (h.1.below hb).sm
end
end Go.Proofs.YtagiabcmbihoaaaDoor
namespace Go.Proofs.YtagiabcmbihoaaaDoor
open Go.ChangeShapes Go.WideShapes Go.ChangeAt Go.RowKit
set_option linter.unusedVariables false
set_option linter.unusedSimpArgs false
theorem gone_calls {w0 w : World} {L : BLoc} {E : BSt} {th : Nat → Bool} {vr : Nat → Int} (h : BE w0 w L E th vr) (y0 y1 : Nat) (y2 : Int) (hl : liveK L E (y0 : Int) (y1 : Int) y2 = false) :
    (∀ W, Below w.heap.size w W → Calls Tryd.prog 18 #[.pointer (some ⟨L.S, 0, none⟩), (Value.agg #[.int .i64 (y0 : Int), .int .i64 (y1 : Int), .int .i64 y2, .int .i64 0, .int .u32 0])] W fun e w' => e = .returned (.bool false) ∧ Below W.heap.size W w')
    ∧ (y0 = 4 → ∀ W, Below w.heap.size w W → Calls Tryd.prog 19 #[.pointer (some ⟨L.dp, 0, none⟩), .int .i64 (y1 : Int), .int .i64 y2] W fun e w' => e = .returned (.bool false) ∧ Below W.heap.size W w')
    ∧ (∀ W, Below w.heap.size w W → Calls Tryd.prog 20 #[.pointer (some ⟨L.P, 0, none⟩), (Value.agg #[.int .i64 (y0 : Int), .int .i64 (y1 : Int), .int .i64 y2, .int .i64 0, .int .u32 0])] W fun e w' => e = .returned (.int .i64 (-1)) ∧ Below W.heap.size W w') := by
  refine ⟨fun W hb => ?_, fun e4 W hb => ?_, fun W hb => ebowner_dead (y0 : Int) (y1 : Int) y2 0 0 (Lib.hid hl) W (h.below hb)⟩
  · refine slive_is (y0 : Int) (y1 : Int) y2 0 0 false (Lib.hid ?_) W (h.below hb).mm.sv.st
    unfold liveK at hl
    by_cases e4 : (y0 : Int) = 4
    · rw [if_neg (by omega), if_neg (by omega)]
    · rw [if_neg e4] at hl; exact hl
  · subst e4
    refine (alive_is (y1 : Int) y2 false (Lib.hid ?_) W (h.below hb).dd.pl.ar).mono fun e w' hh => ⟨hh.1, by rw [← hh.2]; exact Below.refl _ _⟩
    unfold liveK at hl
    rw [if_pos (by decide)] at hl
    exact hl
theorem stay_calls {w0 w : World} {L : BLoc} {E : BSt} {th : Nat → Bool} {vr : Nat → Int} (h : BE w0 w L E th vr) (y0 y1 : Nat) (y2 : Int) (q' : Nat) (hq : q' < L.n) (hth : th q' = true) (hl : liveK L E (y0 : Int) (y1 : Int) y2 = true ∧ ((y0 = 2 ∧ y1 < L.a.n ∧ E.o1 y1 = (q' : Int) ∧ E.v1 y1 = y2) ∨ (y0 = 3 ∧ y1 < L.b.n ∧ E.o2 y1 = (q' : Int) ∧ E.v2 y1 = y2) ∨ (y0 = 4 ∧ y1 < L.dn ∧ E.o3 y1 = (q' : Int) ∧ E.v3 y1 = y2))) (hn : L.a.n ≤ 256 ∧ L.b.n ≤ 256 ∧ L.dn ≤ 256) :
    Calls Tryd.prog 20 #[.pointer (some ⟨L.P, 0, none⟩), (Value.agg #[.int .i64 (y0 : Int), .int .i64 (y1 : Int), .int .i64 y2, .int .i64 0, .int .u32 0])] w fun e w' => e = .returned (.int .i64 (q' : Int)) ∧ Below w.heap.size w w' := by
  obtain ⟨h1, h2⟩ := hl
  rcases h2 with ⟨rfl, a1, a2, a3⟩ | ⟨rfl, a1, a2, a3⟩ | ⟨rfl, a1, a2, a3⟩
  · have ht := h.title1 y1 (by omega)
    rw [a2, a3] at ht
    exact ebowner_live _ y1 y2 0 0 _ q' (by omega) hq (Lib.hid hth) (Lib.hid h1) w h ht
  · have ht := h.title2 y1 (by omega)
    rw [a2, a3] at ht
    exact ebowner_live _ y1 y2 0 0 _ q' (by omega) hq (Lib.hid hth) (Lib.hid h1) w h ht
  · have ht := h.title3 y1 (by omega)
    rw [a2, a3] at ht
    exact ebowner_live _ y1 y2 0 0 _ q' (by omega) hq (Lib.hid hth) (Lib.hid h1) w h ht
end Go.Proofs.YtagiabcmbihoaaaDoor
