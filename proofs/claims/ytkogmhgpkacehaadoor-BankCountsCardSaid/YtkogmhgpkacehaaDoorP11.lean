/-
  BkE, BkF, Ds2, BkG, BkN, BkO, BkD as one.
-/
import Derived.Test.YtkogmhgpkacehaaDoorP10
import Derived.Maps.OwnSet
namespace Go.Proofs.YtkogmhgpkacehaaDoor
open Go.ChangeShapes Go.WideShapes Go.ChangeAt Go.RowKit
set_option linter.unusedVariables false
set_option linter.unusedSimpArgs false
/-- Is what a key names there? -/
def liveK (L : BLoc) (D : BSt) (k0 k1 k2 : Int) : Bool := if k0 = 4 then (thereB L.dn D.dt k1 && (D.dv k1.toNat == k2)) else (if k0 = 2 then (thereB L.a.n D.nt k1 && (D.nv k1.toNat == k2)) else if k0 = 3 then (thereB L.b.n D.pt k1 && (D.pv k1.toNat == k2)) else false)
theorem KeyC.k5 {w : World} {b : Nat} {k0 k1 k2 k3 k4 : Int} (h : KeyC w b k0 k1 k2 k3 k4) : (World.cell? w ⟨b, 0, none⟩ = some (.int .i64 k0) ∧ World.cell? w ⟨b, 1, none⟩ = some (.int .i64 k1) ∧ World.cell? w ⟨b, 2, none⟩ = some (.int .i64 k2) ∧ World.cell? w ⟨b, 3, none⟩ = some (.int .i64 k3) ∧ World.cell? w ⟨b, 4, none⟩ = some (.int .u32 k4)) := ⟨h.c0, h.c1, h.c2, h.c3, h.c4⟩
set_option maxRecDepth 100000 in
set_option maxHeartbeats 1000000 in
theorem blive_is {w0 : World} {L : BLoc} {D : BSt} (k0 k1 k2 k3 k4 : Int) (t : Bool) (ht : Hid (liveK L D k0 k1 k2 = t)) (w : World) (h : BW w0 w L D) :
    Calls Tryd.prog 160 #[.pointer (some ⟨L.P, 0, none⟩), (Value.agg #[.int .i64 k0, .int .i64 k1, .int .i64 k2, .int .i64 k3, .int .u32 k4])] w fun e w' => e = .returned (.bool t) ∧ Below w.heap.size w w' := by
  have H := Lib.hid h
  clear h
  by_cases h4 : k0 = 4
  · have t4 : (k0 == 4) = true := by simpa using h4
    have HT : Hid ((thereB L.dn D.dt k1 && (D.dv k1.toNat == k2)) = t) := Lib.hid (by have := ht.out; unfold liveK at this; rwa [if_pos h4] at this)
    clear ht h4
    go_enter Tryd.func160, Tryd.ntmps160
    go_upto_region 2 with fail
    generalize hw2 : World.alloc w _ = w2
    have HB2 : Hid (Below w.heap.size w w2) := Lib.hid (by rw [← hw2]; exact (Below.refl _ _).alloc (Nat.le_refl _) _)
    obtain ⟨kb, hkb⟩ : ∃ kb, kb = w.heap.size := ⟨_, rfl⟩
    have HK2 : Hid (KeyC w2 kb k0 k1 k2 k3 k4) := Lib.hid (by rw [← hw2, hkb]; exact KeyC.new w k0 k1 k2 k3 k4 _)
    rw [← hkb]
    clear hw2 hkb
    have HW2 := Lib.hid ((H.out.below HB2.out).below (Below.refl _ _).drew)
    have hS0 : (World.cell? w2.drew ⟨L.P, 2, none⟩ = some (.pointer (some ⟨L.dP, 0, none⟩)) ∧ World.cell? w2.drew ⟨L.dP, 0, none⟩ = some (.pointer (some ⟨L.dp, 0, none⟩)) ∧ (World.cell? w2.drew ⟨kb, 0, none⟩ = some (.int .i64 k0) ∧ World.cell? w2.drew ⟨kb, 1, none⟩ = some (.int .i64 k1) ∧ World.cell? w2.drew ⟨kb, 2, none⟩ = some (.int .i64 k2) ∧ World.cell? w2.drew ⟨kb, 3, none⟩ = some (.int .i64 k3) ∧ World.cell? w2.drew ⟨kb, 4, none⟩ = some (.int .u32 k4))) := ⟨HW2.out.kk.f2, HW2.out.dd.pl.f0, (HK2.out.below (Below.refl _ _).drew).k5⟩
    refine wp_region_noPanic ?_
    refine wp_region_held_drew (S := fun w' => (World.cell? w' ⟨L.P, 2, none⟩ = some (.pointer (some ⟨L.dP, 0, none⟩)) ∧ World.cell? w' ⟨L.dP, 0, none⟩ = some (.pointer (some ⟨L.dp, 0, none⟩)) ∧ (World.cell? w' ⟨kb, 0, none⟩ = some (.int .i64 k0) ∧ World.cell? w' ⟨kb, 1, none⟩ = some (.int .i64 k1) ∧ World.cell? w' ⟨kb, 2, none⟩ = some (.int .i64 k2) ∧ World.cell? w' ⟨kb, 3, none⟩ = some (.int .i64 k3) ∧ World.cell? w' ⟨kb, 4, none⟩ = some (.int .u32 k4)))) (by kernel_rfl) hS0 (fun hHeld => ?_)
    clear hS0
    refine wpAnyH_take (i := 0) (v := ?_) (by rfl) (by kernel_rfl) (by kernel_rfl) (by kernel_rfl) (fun _ _ _ h => h) (Or.inl ⟨by kernel_rfl, ?_⟩) (by assumption) ?_; rotate_left 1; (focus (intro w hSw; (try dsimp only at hSw); simp only [List.getElem_toArray, List.getElem_cons_succ, List.getElem_cons_zero]; all_goals go_simp; all_goals (try with_reducible rfl))); (try simp only [Act.put, List.getElem_toArray, List.getElem_cons_succ, List.getElem_cons_zero, List.setIfInBounds_toArray, List.set_cons_zero, List.set_cons_succ])
    refine wpAnyH_take (i := 1) (v := ?_) (by rfl) (by kernel_rfl) (by kernel_rfl) (by kernel_rfl) (fun _ _ _ h => h) (Or.inl ⟨by kernel_rfl, ?_⟩) (by assumption) ?_; rotate_left 1; (focus (intro w hSw; (try dsimp only at hSw); simp only [List.getElem_toArray, List.getElem_cons_succ, List.getElem_cons_zero]; all_goals go_simp; all_goals (try with_reducible rfl))); (try simp only [Act.put, List.getElem_toArray, List.getElem_cons_succ, List.getElem_cons_zero, List.setIfInBounds_toArray, List.set_cons_zero, List.set_cons_succ])
    refine wpAnyH_take (i := 2) (v := ?_) (by rfl) (by kernel_rfl) (by kernel_rfl) (by kernel_rfl) (fun _ _ _ h => h) (Or.inl ⟨by kernel_rfl, ?_⟩) (by assumption) ?_; rotate_left 1; (focus (intro w hSw; (try dsimp only at hSw); simp only [List.getElem_toArray, List.getElem_cons_succ, List.getElem_cons_zero]; all_goals go_simp; all_goals (try with_reducible rfl))); (try simp only [Act.put, List.getElem_toArray, List.getElem_cons_succ, List.getElem_cons_zero, List.setIfInBounds_toArray, List.set_cons_zero, List.set_cons_succ])
    refine wpAnyH_take (i := 3) (v := ?_) (by rfl) (by kernel_rfl) (by kernel_rfl) (by kernel_rfl) (fun _ _ _ h => h) (Or.inl ⟨by kernel_rfl, ?_⟩) (by assumption) ?_; rotate_left 1; (focus (intro w hSw; (try dsimp only at hSw); simp only [List.getElem_toArray, List.getElem_cons_succ, List.getElem_cons_zero]; all_goals go_simp; all_goals (try with_reducible rfl))); (try simp only [Act.put, List.getElem_toArray, List.getElem_cons_succ, List.getElem_cons_zero, List.setIfInBounds_toArray, List.set_cons_zero, List.set_cons_succ])
    refine wpAnyH_take (i := 4) (v := ?_) (by rfl) (by kernel_rfl) (by kernel_rfl) (by kernel_rfl) (fun _ _ _ h => h) (Or.inl ⟨by kernel_rfl, ?_⟩) (by assumption) ?_; rotate_left 1; (focus (intro w hSw; (try dsimp only at hSw); simp only [List.getElem_toArray, List.getElem_cons_succ, List.getElem_cons_zero]; all_goals go_simp; all_goals (try with_reducible rfl))); (try simp only [Act.put, List.getElem_toArray, List.getElem_cons_succ, List.getElem_cons_zero, List.setIfInBounds_toArray, List.set_cons_zero, List.set_cons_succ])
    refine wpAnyH_take (i := 5) (v := ?_) (by rfl) (by kernel_rfl) (by kernel_rfl) (by kernel_rfl) (fun _ _ _ h => h) (Or.inl ⟨by kernel_rfl, ?_⟩) (by assumption) ?_; rotate_left 1; (focus (intro w hSw; (try dsimp only at hSw); simp only [List.getElem_toArray, List.getElem_cons_succ, List.getElem_cons_zero]; all_goals go_simp; all_goals (try with_reducible rfl))); (try simp only [Act.put, List.getElem_toArray, List.getElem_cons_succ, List.getElem_cons_zero, List.setIfInBounds_toArray, List.set_cons_zero, List.set_cons_succ])
    refine wpAnyH_take (i := 6) (v := ?_) (by rfl) (by kernel_rfl) (by kernel_rfl) (by kernel_rfl) (fun _ _ _ h => h) (Or.inl ⟨by kernel_rfl, ?_⟩) (by assumption) ?_; rotate_left 1; (focus (intro w hSw; (try dsimp only at hSw); simp only [List.getElem_toArray, List.getElem_cons_succ, List.getElem_cons_zero]; all_goals go_simp; all_goals (try with_reducible rfl))); (try simp only [Act.put, List.getElem_toArray, List.getElem_cons_succ, List.getElem_cons_zero, List.setIfInBounds_toArray, List.set_cons_zero, List.set_cons_succ])
    refine wpAnyH_take (i := 7) (v := ?_) (by rfl) (by kernel_rfl) (by kernel_rfl) (by kernel_rfl) (fun _ _ _ h => h) (Or.inl ⟨by kernel_rfl, ?_⟩) (by assumption) ?_; rotate_left 1; (focus (intro w hSw; (try dsimp only at hSw); simp only [List.getElem_toArray, List.getElem_cons_succ, List.getElem_cons_zero]; all_goals go_simp; all_goals (try with_reducible rfl))); (try simp only [Act.put, List.getElem_toArray, List.getElem_cons_succ, List.getElem_cons_zero, List.setIfInBounds_toArray, List.set_cons_zero, List.set_cons_succ])
    refine wpAnyH_take (i := 8) (v := ?_) (by rfl) (by kernel_rfl) (by kernel_rfl) (by kernel_rfl) (fun _ _ _ h => h) (Or.inl ⟨by kernel_rfl, ?_⟩) (by assumption) ?_; rotate_left 1; (focus (intro w hSw; (try dsimp only at hSw); simp only [List.getElem_toArray, List.getElem_cons_succ, List.getElem_cons_zero]; all_goals go_simp; all_goals (try with_reducible rfl))); (try simp only [Act.put, List.getElem_toArray, List.getElem_cons_succ, List.getElem_cons_zero, List.setIfInBounds_toArray, List.set_cons_zero, List.set_cons_succ])
    refine wpAnyH_take (i := 9) (v := ?_) (by rfl) (by kernel_rfl) (by kernel_rfl) (by kernel_rfl) (fun _ _ _ h => h) (Or.inl ⟨by kernel_rfl, ?_⟩) (by assumption) ?_; rotate_left 1; (focus (intro w hSw; (try dsimp only at hSw); simp only [List.getElem_toArray, List.getElem_cons_succ, List.getElem_cons_zero]; all_goals go_simp; all_goals (try with_reducible rfl))); (try simp only [Act.put, List.getElem_toArray, List.getElem_cons_succ, List.getElem_cons_zero, List.setIfInBounds_toArray, List.set_cons_zero, List.set_cons_succ])
    refine wpAnyH_take (i := 10) (v := ?_) (by rfl) (by kernel_rfl) (by kernel_rfl) (by kernel_rfl) (fun _ _ _ h => h) (Or.inl ⟨by kernel_rfl, ?_⟩) (by assumption) ?_; rotate_left 1; (focus (intro w hSw; (try dsimp only at hSw); simp only [List.getElem_toArray, List.getElem_cons_succ, List.getElem_cons_zero]; all_goals go_simp; all_goals (try with_reducible rfl))); (try simp only [Act.put, List.getElem_toArray, List.getElem_cons_succ, List.getElem_cons_zero, List.setIfInBounds_toArray, List.set_cons_zero, List.set_cons_succ])
    refine wpAnyH_ready (rs := [11]) (by kernel_rfl) (by simp) ?_; refine AllReadyH.cons (by rfl) (fun K hK => ?_) AllReadyH.nil; rw [if_pos (by kernel_rfl)]; simp only [List.getElem_toArray, List.getElem_cons_succ, List.getElem_cons_zero]
    go_wp2_with (first
      | (go_at_call 87; (with_reducible refine (alive_is k1 k2 t HT _ HW2.out.dd.pl.ar).mono ?_); rintro e w3 ⟨rfl, rfl⟩))
    refine hK.out _ _ (by assumption) (fun hHeld => ?_)
    clear hK K
    (try simp only [Act.put, List.getElem_toArray, List.getElem_cons_succ, List.getElem_cons_zero, List.setIfInBounds_toArray, List.set_cons_zero, List.set_cons_succ])
    refine wpAnyH_take (i := 12) (v := ?_) (by rfl) (by kernel_rfl) (by kernel_rfl) (by kernel_rfl) (fun _ _ _ h => h) (Or.inl ⟨by kernel_rfl, ?_⟩) (by assumption) ?_; rotate_left 1; (focus (intro w hSw; (try dsimp only at hSw); simp only [List.getElem_toArray, List.getElem_cons_succ, List.getElem_cons_zero]; all_goals go_simp; all_goals (try with_reducible rfl))); (try simp only [Act.put, List.getElem_toArray, List.getElem_cons_succ, List.getElem_cons_zero, List.setIfInBounds_toArray, List.set_cons_zero, List.set_cons_succ])
    refine wpAnyH_done (by kernel_rfl) ?_ _
    refine NoPanic.normal ?_
    go_wp2_with fail
    go_ret
    exact ⟨rfl, HB2.out.drew⟩
  · have t4 : (k0 == 4) = false := by simpa using h4
    have HT : Hid ((if k0 = 2 then (thereB L.a.n D.nt k1 && (D.nv k1.toNat == k2)) else if k0 = 3 then (thereB L.b.n D.pt k1 && (D.pv k1.toNat == k2)) else false) = t) := Lib.hid (by have := ht.out; unfold liveK at this; rwa [if_neg h4] at this)
    clear ht h4
    go_enter Tryd.func160, Tryd.ntmps160
    go_upto_region 3 with fail
    generalize hw2 : World.alloc w _ = w2
    have HB2 : Hid (Below w.heap.size w w2) := Lib.hid (by rw [← hw2]; exact (Below.refl _ _).alloc (Nat.le_refl _) _)
    obtain ⟨kb, hkb⟩ : ∃ kb, kb = w.heap.size := ⟨_, rfl⟩
    have HK2 : Hid (KeyC w2 kb k0 k1 k2 k3 k4) := Lib.hid (by rw [← hw2, hkb]; exact KeyC.new w k0 k1 k2 k3 k4 _)
    rw [← hkb]
    clear hw2 hkb
    have HW2 := Lib.hid ((H.out.below HB2.out).below (Below.refl _ _).drew)
    have HKd := Lib.hid (HK2.out.below (Below.refl _ _).drew)
    have hS0 : (World.cell? w2.drew ⟨L.P, 1, none⟩ = some (.pointer (some ⟨L.mb, 0, none⟩)) ∧ World.cell? w2.drew ⟨L.mb, 0, none⟩ = some (.pointer (some ⟨L.S, 0, none⟩)) ∧ (World.cell? w2.drew ⟨kb, 0, none⟩ = some (.int .i64 k0) ∧ World.cell? w2.drew ⟨kb, 1, none⟩ = some (.int .i64 k1) ∧ World.cell? w2.drew ⟨kb, 2, none⟩ = some (.int .i64 k2) ∧ World.cell? w2.drew ⟨kb, 3, none⟩ = some (.int .i64 k3) ∧ World.cell? w2.drew ⟨kb, 4, none⟩ = some (.int .u32 k4))) := ⟨HW2.out.kk.f1, HW2.out.mm.m0, HKd.out.k5⟩
    refine wp_region_noPanic ?_
    refine wp_region_held_drew (S := fun w' => (World.cell? w' ⟨L.P, 1, none⟩ = some (.pointer (some ⟨L.mb, 0, none⟩)) ∧ World.cell? w' ⟨L.mb, 0, none⟩ = some (.pointer (some ⟨L.S, 0, none⟩)) ∧ (World.cell? w' ⟨kb, 0, none⟩ = some (.int .i64 k0) ∧ World.cell? w' ⟨kb, 1, none⟩ = some (.int .i64 k1) ∧ World.cell? w' ⟨kb, 2, none⟩ = some (.int .i64 k2) ∧ World.cell? w' ⟨kb, 3, none⟩ = some (.int .i64 k3) ∧ World.cell? w' ⟨kb, 4, none⟩ = some (.int .u32 k4)))) (by kernel_rfl) hS0 (fun hHeld => ?_)
    clear hS0
    refine wpAnyH_take (i := 0) (v := ?_) (by rfl) (by kernel_rfl) (by kernel_rfl) (by kernel_rfl) (fun _ _ _ h => h) (Or.inl ⟨by kernel_rfl, ?_⟩) (by assumption) ?_; rotate_left 1; (focus (intro w hSw; (try dsimp only at hSw); simp only [List.getElem_toArray, List.getElem_cons_succ, List.getElem_cons_zero]; all_goals go_simp; all_goals (try with_reducible rfl))); (try simp only [Act.put, List.getElem_toArray, List.getElem_cons_succ, List.getElem_cons_zero, List.setIfInBounds_toArray, List.set_cons_zero, List.set_cons_succ])
    refine wpAnyH_take (i := 1) (v := ?_) (by rfl) (by kernel_rfl) (by kernel_rfl) (by kernel_rfl) (fun _ _ _ h => h) (Or.inl ⟨by kernel_rfl, ?_⟩) (by assumption) ?_; rotate_left 1; (focus (intro w hSw; (try dsimp only at hSw); simp only [List.getElem_toArray, List.getElem_cons_succ, List.getElem_cons_zero]; all_goals go_simp; all_goals (try with_reducible rfl))); (try simp only [Act.put, List.getElem_toArray, List.getElem_cons_succ, List.getElem_cons_zero, List.setIfInBounds_toArray, List.set_cons_zero, List.set_cons_succ])
    refine wpAnyH_take (i := 2) (v := ?_) (by rfl) (by kernel_rfl) (by kernel_rfl) (by kernel_rfl) (fun _ _ _ h => h) (Or.inl ⟨by kernel_rfl, ?_⟩) (by assumption) ?_; rotate_left 1; (focus (intro w hSw; (try dsimp only at hSw); simp only [List.getElem_toArray, List.getElem_cons_succ, List.getElem_cons_zero]; all_goals go_simp; all_goals (try with_reducible rfl))); (try simp only [Act.put, List.getElem_toArray, List.getElem_cons_succ, List.getElem_cons_zero, List.setIfInBounds_toArray, List.set_cons_zero, List.set_cons_succ])
    refine wpAnyH_take (i := 3) (v := ?_) (by rfl) (by kernel_rfl) (by kernel_rfl) (by kernel_rfl) (fun _ _ _ h => h) (Or.inl ⟨by kernel_rfl, ?_⟩) (by assumption) ?_; rotate_left 1; (focus (intro w hSw; (try dsimp only at hSw); simp only [List.getElem_toArray, List.getElem_cons_succ, List.getElem_cons_zero]; all_goals go_simp; all_goals (try with_reducible rfl))); (try simp only [Act.put, List.getElem_toArray, List.getElem_cons_succ, List.getElem_cons_zero, List.setIfInBounds_toArray, List.set_cons_zero, List.set_cons_succ])
    refine wpAnyH_take (i := 4) (v := ?_) (by rfl) (by kernel_rfl) (by kernel_rfl) (by kernel_rfl) (fun _ _ _ h => h) (Or.inl ⟨by kernel_rfl, ?_⟩) (by assumption) ?_; rotate_left 1; (focus (intro w hSw; (try dsimp only at hSw); simp only [List.getElem_toArray, List.getElem_cons_succ, List.getElem_cons_zero]; all_goals go_simp; all_goals (try with_reducible rfl))); (try simp only [Act.put, List.getElem_toArray, List.getElem_cons_succ, List.getElem_cons_zero, List.setIfInBounds_toArray, List.set_cons_zero, List.set_cons_succ])
    refine wpAnyH_take (i := 5) (v := ?_) (by rfl) (by kernel_rfl) (by kernel_rfl) (by kernel_rfl) (fun _ _ _ h => h) (Or.inl ⟨by kernel_rfl, ?_⟩) (by assumption) ?_; rotate_left 1; (focus (intro w hSw; (try dsimp only at hSw); simp only [List.getElem_toArray, List.getElem_cons_succ, List.getElem_cons_zero]; all_goals go_simp; all_goals (try with_reducible rfl))); (try simp only [Act.put, List.getElem_toArray, List.getElem_cons_succ, List.getElem_cons_zero, List.setIfInBounds_toArray, List.set_cons_zero, List.set_cons_succ])
    refine wpAnyH_take (i := 6) (v := ?_) (by rfl) (by kernel_rfl) (by kernel_rfl) (by kernel_rfl) (fun _ _ _ h => h) (Or.inl ⟨by kernel_rfl, ?_⟩) (by assumption) ?_; rotate_left 1; (focus (intro w hSw; (try dsimp only at hSw); simp only [List.getElem_toArray, List.getElem_cons_succ, List.getElem_cons_zero]; all_goals go_simp; all_goals (try with_reducible rfl))); (try simp only [Act.put, List.getElem_toArray, List.getElem_cons_succ, List.getElem_cons_zero, List.setIfInBounds_toArray, List.set_cons_zero, List.set_cons_succ])
    refine wpAnyH_take (i := 7) (v := ?_) (by rfl) (by kernel_rfl) (by kernel_rfl) (by kernel_rfl) (fun _ _ _ h => h) (Or.inl ⟨by kernel_rfl, ?_⟩) (by assumption) ?_; rotate_left 1; (focus (intro w hSw; (try dsimp only at hSw); simp only [List.getElem_toArray, List.getElem_cons_succ, List.getElem_cons_zero]; all_goals go_simp; all_goals (try with_reducible rfl))); (try simp only [Act.put, List.getElem_toArray, List.getElem_cons_succ, List.getElem_cons_zero, List.setIfInBounds_toArray, List.set_cons_zero, List.set_cons_succ])
    refine wpAnyH_ready (rs := [8]) (by kernel_rfl) (by simp) ?_; refine AllReadyH.cons (by rfl) (fun K hK => ?_) AllReadyH.nil; rw [if_pos (by kernel_rfl)]; simp only [List.getElem_toArray, List.getElem_cons_succ, List.getElem_cons_zero]
    go_wp2_with (first
      | (go_at_call 32; (with_reducible refine (slive_is k0 k1 k2 k3 k4 t HT _ HW2.out.mm.sv.st).mono ?_); rintro e w3 ⟨rfl, hb⟩; have HW3 := Lib.hid (HW2.out.below hb); have HK3 := Lib.hid (HKd.out.below hb); have HB3 := Lib.hid hb; clear hb))
    refine hK.out _ _ ⟨HW3.out.kk.f1, HW3.out.mm.m0, HK3.out.k5⟩ (fun hHeld => ?_)
    clear hK K
    (try simp only [Act.put, List.getElem_toArray, List.getElem_cons_succ, List.getElem_cons_zero, List.setIfInBounds_toArray, List.set_cons_zero, List.set_cons_succ])
    refine wpAnyH_take (i := 9) (v := ?_) (by rfl) (by kernel_rfl) (by kernel_rfl) (by kernel_rfl) (fun _ _ _ h => h) (Or.inl ⟨by kernel_rfl, ?_⟩) (by assumption) ?_; rotate_left 1; (focus (intro w hSw; (try dsimp only at hSw); simp only [List.getElem_toArray, List.getElem_cons_succ, List.getElem_cons_zero]; all_goals go_simp; all_goals (try with_reducible rfl))); (try simp only [Act.put, List.getElem_toArray, List.getElem_cons_succ, List.getElem_cons_zero, List.setIfInBounds_toArray, List.set_cons_zero, List.set_cons_succ])
    refine wpAnyH_done (by kernel_rfl) ?_ _
    refine NoPanic.normal ?_
    go_wp2_with fail
    go_ret
    exact ⟨rfl, HB2.out.drew.trans (HB3.out.mono (by simpa using HB2.out.size))⟩
theorem btitles_is {w0 : World} {L : BLoc} {D : BSt} (k0 : Int) (G : Nat) (hk : k0 = 2 ∧ G = L.G1 ∨ k0 = 3 ∧ G = L.G2 ∨ ¬ k0 = 2 ∧ ¬ k0 = 3 ∧ G = L.G3) (w : World) (h : BW w0 w L D) :
    Calls Tryd.prog 161 #[.pointer (some ⟨L.P, 0, none⟩), .int .i64 k0] w fun e w' => e = .returned (.slice (some ⟨G, 0, none⟩) 256 256) ∧ w = w' := by
  have f4 := h.kk.f4
  have f5 := h.kk.f5
  have f6 := h.kk.f6
  clear h
  rcases hk with ⟨rfl, rfl⟩ | ⟨rfl, rfl⟩ | ⟨h2, h3, rfl⟩
  · go_enter Tryd.func161, Tryd.ntmps161
    go_wp2_with fail
    go_ret
    exact ⟨rfl, rfl⟩
  · go_enter Tryd.func161, Tryd.ntmps161
    go_wp2_with fail
    go_ret
    exact ⟨rfl, rfl⟩
  · have t2 : (k0 == 2) = false := by simpa using h2
    have t3 : (k0 == 3) = false := by simpa using h3
    clear h2 h3
    go_enter Tryd.func161, Tryd.ntmps161
    go_wp2_with fail
    go_ret
    exact ⟨rfl, rfl⟩
theorem bowner_dead {w0 : World} {L : BLoc} {D : BSt} (k0 k1 k2 k3 k4 : Int) (ht : Hid (liveK L D k0 k1 k2 = false)) (w : World) (h : BW w0 w L D) :
    Calls Tryd.prog 88 #[.pointer (some ⟨L.P, 0, none⟩), (Value.agg #[.int .i64 k0, .int .i64 k1, .int .i64 k2, .int .i64 k3, .int .u32 k4])] w fun e w' => e = .returned (.int .i64 (-1)) ∧ Below w.heap.size w w' := by
  have H := Lib.hid (fun o => h.below ((Below.refl _ _).alloc (Nat.le_refl _) _ : Below w.heap.size w (w.alloc o)))
  clear h
  go_enter Tryd.func88, Tryd.ntmps88
  go_wp2_with (first
    | (go_at_call 160; (with_reducible refine (blive_is k0 k1 k2 k3 k4 false ht _ (H.out _)).mono ?_); rintro e w3 ⟨rfl, hb⟩; have HB := Lib.hid hb; clear hb))
  go_ret
  exact ⟨rfl, ((Below.refl _ _).alloc (Nat.le_refl _) _ : Below w.heap.size w _).trans (HB.out.mono (by simp))⟩
end Go.Proofs.YtkogmhgpkacehaaDoor
namespace Go.Proofs.YtkogmhgpkacehaaDoor
open Go.ChangeShapes Go.WideShapes Go.ChangeAt Go.RowKit
set_option linter.unusedVariables false
set_option linter.unusedSimpArgs false
/-- A title among the titles of a kind. -/
structure TiAt (w : World) (L : BLoc) (k0 : Int) (G j : Nat) (x y : Int) : Prop where
  hk : k0 = 2 ∧ G = L.G1 ∨ k0 = 3 ∧ G = L.G2 ∨ ¬ k0 = 2 ∧ ¬ k0 = 3 ∧ G = L.G3
  lt : G < w.heap.size
  c0 : w.cell? ⟨G, j * 2, none⟩ = some (.int .i64 x)
  c1 : w.cell? ⟨G, j * 2 + 1, none⟩ = some (.int .i64 y)
theorem TiAt.below {w w' : World} {L : BLoc} {k0 : Int} {G j : Nat} {x y : Int} (h : TiAt w L k0 G j x y) (hb : Below w.heap.size w w') : TiAt w' L k0 G j x y :=
  ⟨h.hk, Nat.lt_of_lt_of_le h.lt hb.size, (hb.cell (p := ⟨G, j * 2, none⟩) h.lt).trans h.c0, (hb.cell (p := ⟨G, j * 2 + 1, none⟩) h.lt).trans h.c1⟩
theorem infoTitleV : (Tryd.prog.info? 238).map (·.size) = some 2 := by kernel_rfl
set_option maxRecDepth 100000 in
set_option maxHeartbeats 2000000 in
theorem bowner_live {w0 : World} {L : BLoc} {D : BSt} (k0 : Int) (k1 : Nat) (k2 k3 k4 : Int) (G q : Nat) (hj2 : k1 < 256) (hq : q < D.nb) (ht : Hid (liveK L D k0 k1 k2 = true)) (w : World) (h : BW w0 w L D) (hT : TiAt w L k0 G k1 q k2) :
    Calls Tryd.prog 88 #[.pointer (some ⟨L.P, 0, none⟩), (Value.agg #[.int .i64 k0, .int .i64 k1, .int .i64 k2, .int .i64 k3, .int .u32 k4])] w fun e w' => e = .returned (.int .i64 (q : Int)) ∧ Below w.heap.size w w' := by
  have H := Lib.hid h
  have HT := Lib.hid hT
  have HKk := Lib.hid hT.hk
  have hnb := h.nn
  have hn := h.n256
  have j0 : (0 : Int) ≤ k1 := by omega
  have j1 : (k1 : Int) < 256 := by omega
  clear h hT
  go_enter Tryd.func88, Tryd.ntmps88
  go_upto_region 1 with fail
  generalize hw2 : World.alloc w _ = w2
  have HB2 : Hid (Below w.heap.size w w2) := Lib.hid (by rw [← hw2]; exact (Below.refl _ _).alloc (Nat.le_refl _) _)
  obtain ⟨kb, hkb⟩ : ∃ kb, kb = w.heap.size := ⟨_, rfl⟩
  have HK2 : Hid (KeyC w2 kb (k0) (k1 : Int) k2 k3 k4) := Lib.hid (by rw [← hw2, hkb]; exact KeyC.new w k0 (k1 : Int) k2 k3 k4 _)
  rw [← hkb]
  clear hw2 hkb
  have HW2 := Lib.hid (H.out.below HB2.out)
  have q0 := HK2.out.c0
  have q1 := HK2.out.c1
  have q2 := HK2.out.c2
  have q3 := HK2.out.c3
  have q4 := HK2.out.c4
  go_upto_region 3 with (first
    | (go_at_call 160; (with_reducible refine (blive_is k0 (k1 : Int) k2 k3 k4 true ht _ HW2.out).mono ?_); rintro e w3 ⟨rfl, hb⟩; have HB3 := Lib.hid (HB2.out.trans (hb.mono HB2.out.size)); have HK3 := Lib.hid (HK2.out.below hb); have HW3 := Lib.hid (HW2.out.below hb); clear hb q0 q1 q2 q3 q4))
  obtain ⟨wD, hwD⟩ : ∃ wD, wD = w3.drew := ⟨_, rfl⟩
  have HBD : Hid (Below w3.heap.size w3 wD) := Lib.hid (by rw [hwD]; exact (Below.refl _ _).drew)
  have HKD := Lib.hid (HK3.out.below HBD.out)
  have HTD := Lib.hid (HT.out.below (HB3.out.trans (HBD.out.mono HB3.out.size)))
  have HWD := Lib.hid (HW3.out.below HBD.out)
  have HSO : Hid (∀ W, Below wD.heap.size wD W → ((World.cell? W ⟨kb, 0, none⟩ = some (.int .i64 k0) ∧ World.cell? W ⟨kb, 1, none⟩ = some (.int .i64 k1) ∧ World.cell? W ⟨kb, 2, none⟩ = some (.int .i64 k2) ∧ World.cell? W ⟨kb, 3, none⟩ = some (.int .i64 k3) ∧ World.cell? W ⟨kb, 4, none⟩ = some (.int .u32 k4)) ∧ World.cell? W ⟨G, k1 * 2, none⟩ = some (.int .i64 (q : Int)) ∧ World.cell? W ⟨G, k1 * 2 + 1, none⟩ = some (.int .i64 k2))) := Lib.hid (fun W hb => ⟨(HKD.out.below hb).k5, (HTD.out.below hb).c0, (HTD.out.below hb).c1⟩)
  refine wp_region_noPanic ?_
  refine wp_region_held_drew (S := fun w' => ((World.cell? w' ⟨kb, 0, none⟩ = some (.int .i64 k0) ∧ World.cell? w' ⟨kb, 1, none⟩ = some (.int .i64 k1) ∧ World.cell? w' ⟨kb, 2, none⟩ = some (.int .i64 k2) ∧ World.cell? w' ⟨kb, 3, none⟩ = some (.int .i64 k3) ∧ World.cell? w' ⟨kb, 4, none⟩ = some (.int .u32 k4)) ∧ World.cell? w' ⟨G, k1 * 2, none⟩ = some (.int .i64 (q : Int)) ∧ World.cell? w' ⟨G, k1 * 2 + 1, none⟩ = some (.int .i64 k2))) (by kernel_rfl) (by rw [← hwD]; exact HSO.out _ (Below.refl _ _)) (fun hHeld => ?_)
  rw [← hwD] at hHeld ⊢
  clear hwD
  refine wpAnyH_take (i := 0) (v := ?_) (by rfl) (by kernel_rfl) (by kernel_rfl) (by kernel_rfl) (fun _ _ _ h => h) (Or.inl ⟨by kernel_rfl, ?_⟩) (by assumption) ?_; rotate_left 1; (focus (intro w hSw; (try dsimp only at hSw); simp only [List.getElem_toArray, List.getElem_cons_succ, List.getElem_cons_zero]; all_goals go_simp; all_goals (try with_reducible rfl))); (try simp only [Act.put, List.getElem_toArray, List.getElem_cons_succ, List.getElem_cons_zero, List.setIfInBounds_toArray, List.set_cons_zero, List.set_cons_succ])
  refine wpAnyH_take (i := 1) (v := ?_) (by rfl) (by kernel_rfl) (by kernel_rfl) (by kernel_rfl) (fun _ _ _ h => h) (Or.inl ⟨by kernel_rfl, ?_⟩) (by assumption) ?_; rotate_left 1; (focus (intro w hSw; (try dsimp only at hSw); simp only [List.getElem_toArray, List.getElem_cons_succ, List.getElem_cons_zero]; all_goals go_simp; all_goals (try with_reducible rfl))); (try simp only [Act.put, List.getElem_toArray, List.getElem_cons_succ, List.getElem_cons_zero, List.setIfInBounds_toArray, List.set_cons_zero, List.set_cons_succ])
  refine wpAnyH_take (i := 2) (v := ?_) (by rfl) (by kernel_rfl) (by kernel_rfl) (by kernel_rfl) (fun _ _ _ h => h) (Or.inl ⟨by kernel_rfl, ?_⟩) (by assumption) ?_; rotate_left 1; (focus (intro w hSw; (try dsimp only at hSw); simp only [List.getElem_toArray, List.getElem_cons_succ, List.getElem_cons_zero]; all_goals go_simp; all_goals (try with_reducible rfl))); (try simp only [Act.put, List.getElem_toArray, List.getElem_cons_succ, List.getElem_cons_zero, List.setIfInBounds_toArray, List.set_cons_zero, List.set_cons_succ])
  refine wpAnyH_take (i := 4) (v := ?_) (by rfl) (by kernel_rfl) (by kernel_rfl) (by kernel_rfl) (fun _ _ _ h => h) (Or.inl ⟨by kernel_rfl, ?_⟩) (by assumption) ?_; rotate_left 1; (focus (intro w hSw; (try dsimp only at hSw); simp only [List.getElem_toArray, List.getElem_cons_succ, List.getElem_cons_zero]; all_goals go_simp; all_goals (try with_reducible rfl))); (try simp only [Act.put, List.getElem_toArray, List.getElem_cons_succ, List.getElem_cons_zero, List.setIfInBounds_toArray, List.set_cons_zero, List.set_cons_succ])
  refine wpAnyH_take (i := 5) (v := ?_) (by rfl) (by kernel_rfl) (by kernel_rfl) (by kernel_rfl) (fun _ _ _ h => h) (Or.inl ⟨by kernel_rfl, ?_⟩) (by assumption) ?_; rotate_left 1; (focus (intro w hSw; (try dsimp only at hSw); simp only [List.getElem_toArray, List.getElem_cons_succ, List.getElem_cons_zero]; all_goals go_simp; all_goals (try with_reducible rfl))); (try simp only [Act.put, List.getElem_toArray, List.getElem_cons_succ, List.getElem_cons_zero, List.setIfInBounds_toArray, List.set_cons_zero, List.set_cons_succ])
  refine wpAnyH_ready (rs := [3, 8]) (by kernel_rfl) (by simp) ?_
  refine AllReadyH.cons (by rfl) (fun K' hK => ?_) (AllReadyH.cons (by rfl) (fun K' hK => ?_) AllReadyH.nil)
  · rw [if_pos (by kernel_rfl)]; simp only [List.getElem_toArray, List.getElem_cons_succ, List.getElem_cons_zero]
    go_wp2_with (first
      | (go_at_call 161; (with_reducible refine (btitles_is k0 G HKk.out _ HWD.out).mono ?_); rintro e w5 ⟨rfl, rfl⟩))
    refine hK.out _ _ (HSO.out _ (Below.refl _ _)) (fun hHeld => ?_); clear hK; (try simp only [Act.put, List.getElem_toArray, List.getElem_cons_succ, List.getElem_cons_zero, List.setIfInBounds_toArray, List.set_cons_zero, List.set_cons_succ])
    refine wpAnyH_take (i := 6) (v := ?_) (by rfl) (by kernel_rfl) (by kernel_rfl) (by kernel_rfl) (fun _ _ _ h => h) (Or.inl ⟨by kernel_rfl, ?_⟩) (by assumption) ?_; rotate_left 1; (focus (intro w hSw; (try dsimp only at hSw); simp only [List.getElem_toArray, List.getElem_cons_succ, List.getElem_cons_zero]; all_goals go_simp; all_goals (try with_reducible rfl))); (try simp only [Act.put, List.getElem_toArray, List.getElem_cons_succ, List.getElem_cons_zero, List.setIfInBounds_toArray, List.set_cons_zero, List.set_cons_succ])
    refine wpAnyH_take (i := 7) (v := ?_) (by rfl) (by kernel_rfl) (by kernel_rfl) (by kernel_rfl) (fun _ _ _ h => h) (Or.inl ⟨by kernel_rfl, ?_⟩) (by assumption) ?_; rotate_left 1; (focus (intro w hSw; (try dsimp only at hSw); simp only [List.getElem_toArray, List.getElem_cons_succ, List.getElem_cons_zero]; all_goals go_simp; all_goals (try with_reducible rfl))); (try simp only [Act.put, List.getElem_toArray, List.getElem_cons_succ, List.getElem_cons_zero, List.setIfInBounds_toArray, List.set_cons_zero, List.set_cons_succ])
    refine wpAnyH_ready (rs := [8]) (by kernel_rfl) (by simp) ?_; refine AllReadyH.cons (by rfl) (fun K hK => ?_) AllReadyH.nil; rw [if_pos (by kernel_rfl)]; simp only [List.getElem_toArray, List.getElem_cons_succ, List.getElem_cons_zero]
    go_wp2_with fail
    refine hK.out _ _ (HSO.out _ ((Below.refl _ _).alloc (Nat.le_refl _) _)) (fun hHeld => ?_); clear hK; (try simp only [Act.put, List.getElem_toArray, List.getElem_cons_succ, List.getElem_cons_zero, List.setIfInBounds_toArray, List.set_cons_zero, List.set_cons_succ])
    refine wpAnyH_ready (rs := [9]) (by kernel_rfl) (by simp) ?_; refine AllReadyH.cons (by rfl) (fun K hK => ?_) AllReadyH.nil; rw [if_pos (by kernel_rfl)]; simp only [List.getElem_toArray, List.getElem_cons_succ, List.getElem_cons_zero]
    go_wp2_with fail
    refine hK.out _ _ (HSO.out _ ((Below.refl _ _).alloc (Nat.le_refl _) _)) (fun hHeld => ?_); clear hK; (try simp only [Act.put, List.getElem_toArray, List.getElem_cons_succ, List.getElem_cons_zero, List.setIfInBounds_toArray, List.set_cons_zero, List.set_cons_succ])
    clear hHeld
    refine wpAnyH_done (by kernel_rfl) ?_ _; refine NoPanic.normal ?_
    generalize hw7 : World.alloc wD _ = w7
    have HB7 : Hid (Below wD.heap.size wD w7) := Lib.hid (by rw [← hw7]; exact (Below.refl _ _).alloc (Nat.le_refl _) _); have HC7 : Hid (w7.cell? ⟨wD.heap.size, 0, none⟩ = some (.int .i64 (q : Int)) ∧ w7.cell? ⟨wD.heap.size, 1, none⟩ = some (.int .i64 k2)) := Lib.hid (by rw [← hw7]; simp); clear hw7; have HK7 := Lib.hid (HKD.out.below HB7.out); have HW7 := Lib.hid ((HWD.out.below HB7.out).below (Below.refl _ _).drew); have HA9 := Lib.hid (fun n => ((HWD.out.below HB7.out).below (below_drewN (Below.refl _ _) n)).kk.ar); obtain ⟨c0, c1⟩ := HC7.out; have q2 := HK7.out.c2; have f0 := HW7.out.kk.f0; have f9 := (HWD.out.below HB7.out).kk.f0; clear HC7; have hk2 : (k2 != k2) = false := (by simp); go_wp2_with fail; go_quiet ((go_at_call 25; exact kquiet_left (athere_in q (by omega) true (Lib.hid (thN_at hq)) _ (HA9.out _)))); go_wp2_with fail; go_ret; exact ⟨rfl, (HB3.out.trans (HBD.out.mono HB3.out.size)).trans ((below_drewN HB7.out _).mono (Nat.le_trans HB3.out.size HBD.out.size))⟩
  · rw [if_pos (by kernel_rfl)]; simp only [List.getElem_toArray, List.getElem_cons_succ, List.getElem_cons_zero]
    go_wp2_with fail
    refine hK.out _ _ (HSO.out _ ((Below.refl _ _).alloc (Nat.le_refl _) _)) (fun hHeld => ?_); clear hK; (try simp only [Act.put, List.getElem_toArray, List.getElem_cons_succ, List.getElem_cons_zero, List.setIfInBounds_toArray, List.set_cons_zero, List.set_cons_succ])
    refine wpAnyH_ready (rs := [3]) (by kernel_rfl) (by simp) ?_; refine AllReadyH.cons (by rfl) (fun K hK => ?_) AllReadyH.nil; rw [if_pos (by kernel_rfl)]; simp only [List.getElem_toArray, List.getElem_cons_succ, List.getElem_cons_zero]
    go_wp2_with (first
      | (go_at_call 161; (with_reducible refine (btitles_is k0 G HKk.out _ (HWD.out.below ((Below.refl _ _).alloc (Nat.le_refl _) _))).mono ?_); rintro e w5 ⟨rfl, rfl⟩))
    refine hK.out _ _ (HSO.out _ ((Below.refl _ _).alloc (Nat.le_refl _) _)) (fun hHeld => ?_); clear hK; (try simp only [Act.put, List.getElem_toArray, List.getElem_cons_succ, List.getElem_cons_zero, List.setIfInBounds_toArray, List.set_cons_zero, List.set_cons_succ])
    refine wpAnyH_take (i := 6) (v := ?_) (by rfl) (by kernel_rfl) (by kernel_rfl) (by kernel_rfl) (fun _ _ _ h => h) (Or.inl ⟨by kernel_rfl, ?_⟩) (by assumption) ?_; rotate_left 1; (focus (intro w hSw; (try dsimp only at hSw); simp only [List.getElem_toArray, List.getElem_cons_succ, List.getElem_cons_zero]; all_goals go_simp; all_goals (try with_reducible rfl))); (try simp only [Act.put, List.getElem_toArray, List.getElem_cons_succ, List.getElem_cons_zero, List.setIfInBounds_toArray, List.set_cons_zero, List.set_cons_succ])
    refine wpAnyH_take (i := 7) (v := ?_) (by rfl) (by kernel_rfl) (by kernel_rfl) (by kernel_rfl) (fun _ _ _ h => h) (Or.inl ⟨by kernel_rfl, ?_⟩) (by assumption) ?_; rotate_left 1; (focus (intro w hSw; (try dsimp only at hSw); simp only [List.getElem_toArray, List.getElem_cons_succ, List.getElem_cons_zero]; all_goals go_simp; all_goals (try with_reducible rfl))); (try simp only [Act.put, List.getElem_toArray, List.getElem_cons_succ, List.getElem_cons_zero, List.setIfInBounds_toArray, List.set_cons_zero, List.set_cons_succ])
    refine wpAnyH_ready (rs := [9]) (by kernel_rfl) (by simp) ?_; refine AllReadyH.cons (by rfl) (fun K hK => ?_) AllReadyH.nil; rw [if_pos (by kernel_rfl)]; simp only [List.getElem_toArray, List.getElem_cons_succ, List.getElem_cons_zero]
    go_wp2_with fail
    refine hK.out _ _ (HSO.out _ ((Below.refl _ _).alloc (Nat.le_refl _) _)) (fun hHeld => ?_); clear hK; (try simp only [Act.put, List.getElem_toArray, List.getElem_cons_succ, List.getElem_cons_zero, List.setIfInBounds_toArray, List.set_cons_zero, List.set_cons_succ])
    clear hHeld
    refine wpAnyH_done (by kernel_rfl) ?_ _; refine NoPanic.normal ?_
    generalize hw7 : World.alloc wD _ = w7
    have HB7 : Hid (Below wD.heap.size wD w7) := Lib.hid (by rw [← hw7]; exact (Below.refl _ _).alloc (Nat.le_refl _) _); have HC7 : Hid (w7.cell? ⟨wD.heap.size, 0, none⟩ = some (.int .i64 (q : Int)) ∧ w7.cell? ⟨wD.heap.size, 1, none⟩ = some (.int .i64 k2)) := Lib.hid (by rw [← hw7]; simp); clear hw7; have HK7 := Lib.hid (HKD.out.below HB7.out); have HW7 := Lib.hid ((HWD.out.below HB7.out).below (Below.refl _ _).drew); have HA9 := Lib.hid (fun n => ((HWD.out.below HB7.out).below (below_drewN (Below.refl _ _) n)).kk.ar); obtain ⟨c0, c1⟩ := HC7.out; have q2 := HK7.out.c2; have f0 := HW7.out.kk.f0; have f9 := (HWD.out.below HB7.out).kk.f0; clear HC7; have hk2 : (k2 != k2) = false := (by simp); go_wp2_with fail; go_quiet ((go_at_call 25; exact kquiet_left (athere_in q (by omega) true (Lib.hid (thN_at hq)) _ (HA9.out _)))); go_wp2_with fail; go_ret; exact ⟨rfl, (HB3.out.trans (HBD.out.mono HB3.out.size)).trans ((below_drewN HB7.out _).mono (Nat.le_trans HB3.out.size HBD.out.size))⟩
end Go.Proofs.YtkogmhgpkacehaaDoor
namespace Go.Proofs.YtkogmhgpkacehaaDoor
open Go.ChangeShapes Go.WideShapes Go.ChangeAt Go.RowKit Go.Maps
set_option linter.unusedVariables false
set_option linter.unusedSimpArgs false
theorem dlawI : Keyed Tryd.prog 3 := int_keyed Tryd.underlying3
theorem dzeroU (w : World) : (zeroValue 258).run Tryd.prog w = .ok (.agg #[]) w := by kernel_rfl
theorem dfit {x : Int} (h0 : 0 ≤ x) (h1 : x ≤ 1000) : (Lit.int .i64 x).wf = true := WalkArith.wf_i64 ⟨by omega, by omega⟩
theorem zqhas_n {q o : Nat} (x : Int) (h0 : 0 ≤ x) (h1 : x ≤ 1000) (w : World) (hc : w.cell? ⟨q, o + 1, none⟩ = some (.map none)) :
    Calls Tryd.prog 134 #[.pointer (some ⟨q, o, none⟩), .int .i64 x] w fun e w' => e = .returned (.bool false) ∧ Below w.heap.size w w' := by
  have hl := fun W : World => Maps.look_nil (w := W) true dlawI Tryd.underlying213 (dzeroU W) (keyOf_int_mk Tryd.underlying3 (dfit h0 h1))
  simp only [if_true] at hl
  go_enter Tryd.func134, Tryd.ntmps134
  go_wp2
  go_ret
  exact ⟨rfl, (Below.refl _ _).alloc (Nat.le_refl _) _⟩
theorem zqdrop_n {q o : Nat} (x : Int) (h0 : 0 ≤ x) (h1 : x ≤ 1000) (w : World) (hc : w.cell? ⟨q, o + 1, none⟩ = some (.map none)) :
    Calls Tryd.prog 183 #[.pointer (some ⟨q, o, none⟩), .int .i64 x] w fun e w' => e = .returned (.bool false) ∧ Below w.heap.size w w' := by
  have HC := Lib.hid (zqhas_n x h0 h1 w hc)
  clear hc
  go_enter Tryd.func183, Tryd.ntmps183
  go_wp2_with (first | (go_at_call 134; (with_reducible refine HC.out.mono ?_); rintro e w1 ⟨rfl, hb⟩; have HB := Lib.hid hb; clear hb))
  go_ret
  exact ⟨rfl, HB.out⟩
set_option maxRecDepth 100000 in
theorem dunstall_no {base P p B G Q n c : Nat} {th : Nat → Bool} {vr_ : Nat → Int} {W : Nat → Nat → Value} (x : Int) (h0 : 0 ≤ x) (h1 : x ≤ 1000) (w : World) (h : DsAt w base P p B G Q n c th vr_ W) :
    Calls Tryd.prog 135 #[.pointer (some ⟨P, 0, none⟩), .int .i64 x] w fun e w' => e = .returned (.tuple #[]) ∧ Below w.heap.size w w' := by
  have H := Lib.hid h
  have f2 := h.f2
  have hn := h.pl.ar.le
  clear h
  go_enter Tryd.func135, Tryd.ntmps135
  go_wp2_with fail
  clear f2
  go_loopw [10] (fun i wr => ∃ k : Nat, k ≤ n ∧ i = .int .i64 k ∧ Below w.heap.size w wr) (fun i _ => n - (intOf i).toNat)
  case atStart => exact ⟨0, by omega, rfl, Below.refl _ _⟩
  case round =>
    obtain ⟨k, hk, rfl, hB⟩ := hrel
    have HB := Lib.hid hB
    by_cases hlt : k < n
    · have HR := Lib.hid (H.out.below hB)
      have f2 := HR.out.f2
      have k0 : (0 : Int) ≤ k := by omega
      have k1 : (k : Int) < n := by omega
      clear hB
      go_wp2_with (first | (go_at_call 183; (with_reducible refine (zqdrop_n x h0 h1 _ (HR.out.queue k hlt).2).mono ?_); rintro e w1 ⟨rfl, hb⟩; have HB2 := Lib.hid (HB.out.trans (hb.mono HB.out.size)); clear hb f2))
      go_roundw
      case rel => exact ⟨k + 1, by omega, by go_num, HB2.out⟩
      case measure => simp [intOf]; omega
    · obtain rfl : k = n := by omega
      have hdd : decide (k < k) = false := by simp
      clear hB
      go_wp2_with fail
      go_end0
      exact ⟨rfl, HB.out⟩
set_option maxRecDepth 100000 in
theorem zclone_n (w : World) : Calls Tryd.prog 182 #[.slice none 0 0] w fun e w' => e = .returned (.slice none 0 0) ∧ Below w.heap.size w w' := by
  have hq : ∀ W : World, (binOp .eql 94 (.slice none 0 0) (.slice none 0 0)).run Tryd.prog W = .ok (.bool true) W := fun W => by kernel_rfl
  go_enter Tryd.func182, Tryd.ntmps182
  go_wp2_with fail
  go_ret
  exact ⟨rfl, Below.refl _ _⟩
theorem zall_n {q o : Nat} (w : World) (hc : w.cell? ⟨q, o, none⟩ = some (.slice none 0 0)) : Calls Tryd.prog 131 #[.pointer (some ⟨q, o, none⟩)] w fun e w' => e = .returned (.slice none 0 0) ∧ Below w.heap.size w w' := by
  go_enter Tryd.func131, Tryd.ntmps131
  go_wp2_with (first | (go_at_call 182; (with_reducible refine (zclone_n _).mono ?_); rintro e w1 ⟨rfl, hb⟩; have HB := Lib.hid hb; clear hb))
  go_ret
  exact ⟨rfl, HB.out⟩
theorem dcallers_no {base P p B G Q n c : Nat} {th : Nat → Bool} {vr_ : Nat → Int} {W : Nat → Nat → Value} (k : Nat) (hk : k < n) (ht : Hid (th k = true)) (w : World) (h : DsAt w base P p B G Q n c th vr_ W) :
    Calls Tryd.prog 54 #[.pointer (some ⟨P, 0, none⟩), .int .i64 (k : Int)] w fun e w' => e = .returned (.slice none 0 0) ∧ Below w.heap.size w w' := by
  have H := Lib.hid h
  have f0 := h.pl.f0
  have f2 := h.f2
  have k0 : (0 : Int) ≤ k := by omega
  have k1 : (k : Int) < n := by omega
  clear h
  go_enter Tryd.func54, Tryd.ntmps54
  go_wp2_with (first
    | (go_at_call 25; (with_reducible refine (athere_in k hk true ht _ H.out.pl.ar).mono ?_); rintro e w1 ⟨rfl, rfl⟩)
    | (go_at_call 131; (with_reducible refine (zall_n _ (H.out.queue k hk).1).mono ?_); rintro e w1 ⟨rfl, hb⟩; have HB := Lib.hid hb; clear hb))
  go_ret
  exact ⟨rfl, HB.out⟩
theorem dwake_no {base P p B G Q n c : Nat} {th : Nat → Bool} {vr_ : Nat → Int} {W : Nat → Nat → Value} (k : Nat) (hk : k < n) (ht : Hid (th k = true)) (w : World) (h : DsAt w base P p B G Q n c th vr_ W) :
    Calls Tryd.prog 62 #[.pointer (some ⟨P, 0, none⟩), .int .i64 (k : Int)] w fun e w' => e = .returned (.slice none 0 0) ∧ Below w.heap.size w w' := by
  have HC := Lib.hid (dcallers_no k hk ht w h)
  clear h
  go_enter Tryd.func62, Tryd.ntmps62
  go_wp2_with (first
    | (go_at_call 54; (with_reducible refine HC.out.mono ?_); rintro e w1 ⟨rfl, hb⟩; have HB := Lib.hid hb; clear hb))
  go_ret
  exact ⟨rfl, HB.out⟩
set_option maxRecDepth 100000 in
theorem dend_ok {base P p B G Q n c : Nat} {th : Nat → Bool} {vr_ : Nat → Int} {W : Nat → Nat → Value} (k : Nat) (hk : k < n) (ht : Hid (th k = true)) (v : Int) (hv : Hid (vr_ k = v)) (v0 : -1000000000 ≤ v) (v1 : v ≤ 1000000000) (w : World) (h : DsAt w base P p B G Q n c th vr_ W) :
    Calls Tryd.prog 63 #[.pointer (some ⟨P, 0, none⟩), .int .i64 (k : Int)] w fun e w' => e = .returned .nilIface ∧ DsAt w' base P p B G Q n c (upd th k false) (upd vr_ k (v + 1)) W ∧ PBelow w w' B G := by
  have H := Lib.hid h
  have f0 := h.pl.f0
  have hn := h.pl.ar.le
  clear h
  go_enter Tryd.func63, Tryd.ntmps63
  go_wp2_with (first
    | (go_at_call 25; (with_reducible refine (athere_in k hk true ht _ H.out.pl.ar).mono ?_); rintro e w1 ⟨rfl, rfl⟩)
    | (go_at_call 62; (with_reducible refine (dwake_no k hk ht _ H.out).mono ?_); rintro e w1 ⟨rfl, hb⟩; have HB1 := Lib.hid hb; have H1 := Lib.hid (H.out.below hb); clear hb f0)
    | (go_at_call 135; (with_reducible refine (dunstall_no (k : Int) (by omega) (by omega) _ H1.out).mono ?_); rintro e w2 ⟨rfl, hb⟩; have HB2 := Lib.hid (HB1.out.trans (hb.mono HB1.out.size)); have H2 := Lib.hid (H1.out.below hb); have f9 := H2.out.pl.f0; clear hb)
    | (go_at_call 22; (with_reducible refine (agive_ok _ H2.out.pl.ar k hk ht v hv v0 v1).mono ?_); rintro e w3 ⟨rfl, hA, hg⟩; have H3 := Lib.hid (H2.out.turn hA hg); have HB3 := Lib.hid ((PBelow.of_below (B := B) (G := G) HB2.out).trans (PBelow.of hg (.inl rfl))); clear hA hg f9))
  go_ret
  exact ⟨rfl, H3.out, HB3.out⟩
theorem infoDomS : (Tryd.prog.info? 114).map (·.size) = some 107 := by kernel_rfl
set_option maxRecDepth 100000 in
set_option maxHeartbeats 1000000 in
theorem dmake_ok {base P p B G Q n c : Nat} {th : Nat → Bool} {vr_ : Nat → Int} {W : Nat → Nat → Value} (j : Nat) (hj : j < n) (hyes : Hid (freeB th vr_ j = true)) (hno : Hid (∀ i, i < j → freeB th vr_ i = false)) (v : Int) (hv : Hid (vr_ j = v)) (w : World) (h : DsAt w base P p B G Q n c th vr_ W) :
    Calls Tryd.prog 55 #[.pointer (some ⟨P, 0, none⟩)] w fun e w' => e = .returned (.tuple #[.int .i64 j, .int .i64 v, .nilIface]) ∧ DsAt w' base P p B G Q n c (upd th j true) vr_ (updS W j 0 zsD1) ∧ PBelow w w' B G := by
  have H := Lib.hid h
  have f0 := h.pl.f0
  have hn := h.pl.ar.le
  have k0 : (0 : Int) ≤ j := by omega
  have k1 : (j : Int) < n := by omega
  clear h
  go_enter Tryd.func55, Tryd.ntmps55
  go_upto_region 4 with (first
    | (go_at_call 109; (with_reducible refine (atake_ok _ H.out.pl.ar j hj hyes hno v hv).mono ?_); rintro e w1 ⟨rfl, hA, hg⟩; have H1 := Lib.hid (H.out.turn hA hg); have HB1 := Lib.hid (PBelow.of (G := G) hg (.inl rfl)); have f1 := H1.out.pl.f1; have HTh : Hid (w1.there G (j * 107) 107) := Lib.hid (H1.out.pl.there j 0 107 hj (by decide)); clear hA hg f0))
  go_wp2_with (refine wpList_store_mid (by rfl) _ _ _ (by rfl) G (j * 107) zsD1.toArray (by kernel_rfl) (by rfl) HTh.out (by rw [List.size_toArray, zsD1_len]; exact infoDomS) (all_oneCell_toArray zsD1_one) ?_; obtain ⟨w2, hw2⟩ : ∃ w2, w2 = w1.setCells G (j * 107) zsD1.toArray.toList := ⟨_, rfl⟩; rw [← hw2]; have H2 := Lib.hid (H1.out.cells j 0 hj zsD1 (by rw [zsD1_len]; decide)); rw [Nat.add_zero, show zsD1 = zsD1.toArray.toList from rfl, ← hw2] at H2; clear hw2)
  go_ret3
  exact ⟨rfl, H2.out.1, HB1.out.trans (PBelow.of H2.out.2 (.inr rfl))⟩
end Go.Proofs.YtkogmhgpkacehaaDoor
namespace Go.Proofs.YtkogmhgpkacehaaDoor
open Go.ChangeShapes Go.WideShapes Go.ChangeAt Go.RowKit
set_option linter.unusedVariables false
set_option linter.unusedSimpArgs false
set_option maxRecDepth 100000 in
theorem mgn_ok {w0 : World} {mb S : Nat} {a b : Shp} {N cb : Nat} {size : Int} {th : Nat → Bool} {vr_ : Nat → Int} {W : Nat → Nat → Value} {th2 : Nat → Bool} {vr2 : Nat → Int} {W2 : Nat → Nat → Int} {hits : Int} {v : Value} {E : List EW} (k : Nat) (hn : k < a.n) (ht : Hid (th k = true)) (u : Int) (hv : Hid (vr_ k = u)) (u0 : -1000000000 ≤ u) (u1 : u ≤ 1000000000) (w : World) (h : (MemAt w0 w mb S a b N cb size th vr_ W th2 vr2 W2 hits v E)) :
    Calls Tryd.prog 189 #[.pointer (some ⟨mb, 0, none⟩), .int .i64 (k : Int)] w fun e w' => e = .returned .nilIface ∧ MemAt w0 w' mb S a b N cb size (upd th k false) (upd vr_ k (u + 1)) W th2 vr2 W2 hits (.slice none 0 0) [] ∧ KeepM w w' N cb v := by
  have H := Lib.hid h
  have m0 := h.m0
  have s0 := h.sv.st.s0
  have f0 := h.sv.st.nd.f0
  clear h
  go_enter Tryd.func189, Tryd.ntmps189
  go_wp2_with (first
    | (go_at_call 22; (with_reducible refine (agive_ok _ H.out.sv.st.nd.ar k hn ht u hv u0 u1).mono ?_); rintro e w1 ⟨rfl, hA, hg⟩; have hb := PBelow.of (B := a.B) (G := a.G) hg (.inl rfl); have HF := Lib.hid (H.out.nodeC (H.out.sv.st.nd.turn hA hg) hb); have hmb := hb.2.2.2.2 mb H.out.ml (by have := H.out.mn; have := H.out.lo.n; omega) (by have := H.out.mn; have := H.out.lo.n; omega); have hcb := hb.2.2.2.2 cb H.out.ca.cl (by have := H.out.ca.nb; have := H.out.lo.n; omega) (by have := H.out.ca.nb; have := H.out.lo.n; omega); have HMB := Lib.hid hmb; have HCB := Lib.hid hcb; clear hA hg hb hmb hcb m0 s0 f0)
    | (go_at_call 203; (with_reducible refine (mgiven_ok mb cb v _ ((World.cell?_of_block (a := ⟨mb, 1, none⟩) HMB.out).trans H.out.m1) ((World.cell?_of_block (a := ⟨cb, 2, none⟩) HCB.out).trans H.out.ca.c2) ((World.frozen?_of_block (a := ⟨cb, 2, none⟩) HCB.out).trans (H.out.ca.fr 2))).mono ?_); rintro e w2 ⟨rfl, hw⟩; have HW := Lib.hid hw; clear hw))
  go_ret
  exact ⟨rfl, by rw [HW.out]; exact HF.out.1, by rw [HW.out]; exact HF.out.2⟩
set_option maxRecDepth 100000 in
theorem mgp_ok {w0 : World} {mb S : Nat} {a b : Shp} {N cb : Nat} {size : Int} {th : Nat → Bool} {vr_ : Nat → Int} {W : Nat → Nat → Value} {th2 : Nat → Bool} {vr2 : Nat → Int} {W2 : Nat → Nat → Int} {hits : Int} {v : Value} {E : List EW} (k : Nat) (hn : k < b.n) (ht : Hid (th2 k = true)) (u : Int) (hv : Hid (vr2 k = u)) (u0 : -1000000000 ≤ u) (u1 : u ≤ 1000000000) (w : World) (h : (MemAt w0 w mb S a b N cb size th vr_ W th2 vr2 W2 hits v E)) :
    Calls Tryd.prog 190 #[.pointer (some ⟨mb, 0, none⟩), .int .i64 (k : Int)] w fun e w' => e = .returned .nilIface ∧ MemAt w0 w' mb S a b N cb size th vr_ W (upd th2 k false) (upd vr2 k (u + 1)) W2 hits (.slice none 0 0) [] ∧ KeepM w w' N cb v := by
  have H := Lib.hid h
  have m0 := h.m0
  have s0 := h.sv.st.s1
  have f0 := h.sv.st.pg.f0
  clear h
  go_enter Tryd.func190, Tryd.ntmps190
  go_wp2_with (first
    | (go_at_call 22; (with_reducible refine (agive_ok _ H.out.sv.st.pg.ar k hn ht u hv u0 u1).mono ?_); rintro e w1 ⟨rfl, hA, hg⟩; have hb := PBelow.of (B := b.B) (G := b.G) hg (.inl rfl); have HF := Lib.hid (H.out.pageC (H.out.sv.st.pg.turn hA hg) hb); have hmb := hb.2.2.2.2 mb H.out.ml (by have := H.out.mn; have := H.out.lo.p; omega) (by have := H.out.mn; have := H.out.lo.p; omega); have hcb := hb.2.2.2.2 cb H.out.ca.cl (by have := H.out.ca.nb; have := H.out.lo.p; omega) (by have := H.out.ca.nb; have := H.out.lo.p; omega); have HMB := Lib.hid hmb; have HCB := Lib.hid hcb; clear hA hg hb hmb hcb m0 s0 f0)
    | (go_at_call 203; (with_reducible refine (mgiven_ok mb cb v _ ((World.cell?_of_block (a := ⟨mb, 1, none⟩) HMB.out).trans H.out.m1) ((World.cell?_of_block (a := ⟨cb, 2, none⟩) HCB.out).trans H.out.ca.c2) ((World.frozen?_of_block (a := ⟨cb, 2, none⟩) HCB.out).trans (H.out.ca.fr 2))).mono ?_); rintro e w2 ⟨rfl, hw⟩; have HW := Lib.hid hw; clear hw))
  go_ret
  exact ⟨rfl, by rw [HW.out]; exact HF.out.1, by rw [HW.out]; exact HF.out.2⟩
theorem BW.memC {w0 w w' : World} {L : BLoc} {D : BSt} (h : BW w0 w L D) {nt' : Nat → Bool} {nv' : Nat → Int} {pt' : Nat → Bool} {pv' : Nat → Int} (hm : MemAt w0 w' L.mb L.S L.a L.b L.N L.cb 4 nt' nv' D.nW pt' pv' D.pW 0 (.slice none 0 0) []) (hk : KeepM w w' L.N L.cb (.slice none 0 0)) : BW w0 w' L { D with nt := nt', nv := nv', pt := pt', pv := pv' } ∧ UpT L.T w w' := by
  have hmd := h.md
  have hdl := h.dl
  have htt := h.tt
  exact ⟨⟨hm, DsAt.same h.d hk.1 (fun k hk1 hk2 => hk.2 k (by omega) hk2 (by omega) (by simp [Value.ownBlock])), BkAt.same h.k hk.1 (fun k hk1 hk2 => hk.2 k (by omega) hk2 (by omega) (by simp [Value.ownBlock])), h.md, h.db, h.dl, h.pk, h.nn, h.tt, Nat.le_trans h.tw hk.1⟩, hk.1, fun k hk1 hk2 => hk.2 k (by omega) hk2 (by omega) (by simp [Value.ownBlock])⟩
theorem KeyC.upt {w w' : World} {T b : Nat} {k0 k1 k2 k3 k4 : Int} (h : KeyC w b k0 k1 k2 k3 k4) (hu : UpT T w w') (hb : T ≤ b) : KeyC w' b k0 k1 k2 k3 k4 := h.same' hu.1 (hu.2 b hb h.lt)
set_option maxRecDepth 100000 in
set_option maxHeartbeats 2000000 in
theorem bgb_node {w0 : World} {L : BLoc} {D : BSt} (k1 : Nat) (k2 k3 k4 : Int) (hj : k1 < 256) (hn : k1 < L.a.n) (ht : Hid (D.nt k1 = true)) (hv : Hid (D.nv k1 = k2)) (u0 : -1000000000 ≤ k2) (u1 : k2 ≤ 1000000000) (w : World) (h : BW w0 w L D) :
    Calls Tryd.prog 158 #[.pointer (some ⟨L.P, 0, none⟩), (Value.agg #[.int .i64 2, .int .i64 (k1 : Int), .int .i64 k2, .int .i64 k3, .int .u32 k4])] w fun e w' => e = .returned (.tuple #[]) ∧ BW w0 w' L { D with nt := upd D.nt k1 false, nv := upd D.nv k1 (k2 + 1), o1 := upd D.o1 k1 (-1), v1 := upd D.v1 k1 0 } ∧ UpT L.T w w' := by
  have H := Lib.hid h
  have HLT := Lib.hid h.lowT
  have HTT := Lib.hid h.tt
  have HTw := Lib.hid h.tw
  have j0 : (0 : Int) ≤ k1 := by omega
  have j1 : (k1 : Int) < 256 := by omega
  clear h
  go_enter Tryd.func158, Tryd.ntmps158
  go_upto_region 3 with fail
  generalize hw2 : World.alloc w _ = w2
  have HB2 : Hid (Below w.heap.size w w2) := Lib.hid (by rw [← hw2]; exact (Below.refl _ _).alloc (Nat.le_refl _) _)
  obtain ⟨kb, hkb⟩ : ∃ kb, kb = w.heap.size := ⟨_, rfl⟩
  have HK2 : Hid (KeyC w2 kb 2 (k1 : Int) k2 k3 k4) := Lib.hid (by rw [← hw2, hkb]; exact KeyC.new w 2 (k1 : Int) k2 k3 k4 _)
  have HKb : Hid (L.T ≤ kb) := Lib.hid (by rw [hkb]; exact HTw.out)
  rw [← hkb]
  clear hw2 hkb
  obtain ⟨k0, hk0⟩ : ∃ k0 : Int, Hid (k0 = 2) := ⟨_, Lib.hid rfl⟩
  obtain ⟨wD, hwD⟩ : ∃ wD, wD = w2.drew := ⟨_, rfl⟩
  have HBD : Hid (Below w2.heap.size w2 wD) := Lib.hid (by rw [hwD]; exact (Below.refl _ _).drew)
  have HWD := Lib.hid ((H.out.below HB2.out).below HBD.out)
  have HKD := Lib.hid (HK2.out.below HBD.out)
  refine wp_region_noPanic ?_
  refine wp_region_held_drew (S := fun w' => World.cell? w' ⟨L.P, 1, none⟩ = some (.pointer (some ⟨L.mb, 0, none⟩)) ∧ (World.cell? w' ⟨kb, 0, none⟩ = some (.int .i64 2) ∧ World.cell? w' ⟨kb, 1, none⟩ = some (.int .i64 (k1 : Int)) ∧ World.cell? w' ⟨kb, 2, none⟩ = some (.int .i64 k2) ∧ World.cell? w' ⟨kb, 3, none⟩ = some (.int .i64 k3) ∧ World.cell? w' ⟨kb, 4, none⟩ = some (.int .u32 k4))) (by kernel_rfl) (by rw [← hwD]; exact ⟨HWD.out.kk.f1, HKD.out.k5⟩) (fun hHeld => ?_)
  rw [← hwD] at hHeld ⊢
  clear hwD
  refine wpAnyH_take (i := 0) (v := ?_) (by rfl) (by kernel_rfl) (by kernel_rfl) (by kernel_rfl) (fun _ _ _ h => h) (Or.inl ⟨by kernel_rfl, ?_⟩) (by assumption) ?_; rotate_left 1; (focus (intro w hSw; (try dsimp only at hSw); simp only [List.getElem_toArray, List.getElem_cons_succ, List.getElem_cons_zero]; all_goals go_simp; all_goals (try with_reducible rfl))); (try simp only [Act.put, List.getElem_toArray, List.getElem_cons_succ, List.getElem_cons_zero, List.setIfInBounds_toArray, List.set_cons_zero, List.set_cons_succ])
  refine wpAnyH_take (i := 1) (v := ?_) (by rfl) (by kernel_rfl) (by kernel_rfl) (by kernel_rfl) (fun _ _ _ h => h) (Or.inl ⟨by kernel_rfl, ?_⟩) (by assumption) ?_; rotate_left 1; (focus (intro w hSw; (try dsimp only at hSw); simp only [List.getElem_toArray, List.getElem_cons_succ, List.getElem_cons_zero]; all_goals go_simp; all_goals (try with_reducible rfl))); (try simp only [Act.put, List.getElem_toArray, List.getElem_cons_succ, List.getElem_cons_zero, List.setIfInBounds_toArray, List.set_cons_zero, List.set_cons_succ])
  refine wpAnyH_take (i := 2) (v := ?_) (by rfl) (by kernel_rfl) (by kernel_rfl) (by kernel_rfl) (fun _ _ _ h => h) (Or.inl ⟨by kernel_rfl, ?_⟩) (by assumption) ?_; rotate_left 1; (focus (intro w hSw; (try dsimp only at hSw); simp only [List.getElem_toArray, List.getElem_cons_succ, List.getElem_cons_zero]; all_goals go_simp; all_goals (try with_reducible rfl))); (try simp only [Act.put, List.getElem_toArray, List.getElem_cons_succ, List.getElem_cons_zero, List.setIfInBounds_toArray, List.set_cons_zero, List.set_cons_succ])
  refine wpAnyH_take (i := 3) (v := ?_) (by rfl) (by kernel_rfl) (by kernel_rfl) (by kernel_rfl) (fun _ _ _ h => h) (Or.inl ⟨by kernel_rfl, ?_⟩) (by assumption) ?_; rotate_left 1; (focus (intro w hSw; (try dsimp only at hSw); simp only [List.getElem_toArray, List.getElem_cons_succ, List.getElem_cons_zero]; all_goals go_simp; all_goals (try with_reducible rfl))); (try simp only [Act.put, List.getElem_toArray, List.getElem_cons_succ, List.getElem_cons_zero, List.setIfInBounds_toArray, List.set_cons_zero, List.set_cons_succ])
  refine wpAnyH_take (i := 4) (v := ?_) (by rfl) (by kernel_rfl) (by kernel_rfl) (by kernel_rfl) (fun _ _ _ h => h) (Or.inl ⟨by kernel_rfl, ?_⟩) (by assumption) ?_; rotate_left 1; (focus (intro w hSw; (try dsimp only at hSw); simp only [List.getElem_toArray, List.getElem_cons_succ, List.getElem_cons_zero]; all_goals go_simp; all_goals (try with_reducible rfl))); (try simp only [Act.put, List.getElem_toArray, List.getElem_cons_succ, List.getElem_cons_zero, List.setIfInBounds_toArray, List.set_cons_zero, List.set_cons_succ])
  refine wpAnyH_take (i := 5) (v := ?_) (by rfl) (by kernel_rfl) (by kernel_rfl) (by kernel_rfl) (fun _ _ _ h => h) (Or.inl ⟨by kernel_rfl, ?_⟩) (by assumption) ?_; rotate_left 1; (focus (intro w hSw; (try dsimp only at hSw); simp only [List.getElem_toArray, List.getElem_cons_succ, List.getElem_cons_zero]; all_goals go_simp; all_goals (try with_reducible rfl))); (try simp only [Act.put, List.getElem_toArray, List.getElem_cons_succ, List.getElem_cons_zero, List.setIfInBounds_toArray, List.set_cons_zero, List.set_cons_succ])
  refine wpAnyH_ready (rs := [6]) (by kernel_rfl) (by simp) ?_; refine AllReadyH.cons (by rfl) (fun K hK => ?_) AllReadyH.nil; rw [if_pos (by kernel_rfl)]; simp only [List.getElem_toArray, List.getElem_cons_succ, List.getElem_cons_zero]
  go_wp2_with (first
    | (go_at_call 189; (with_reducible refine (mgn_ok k1 hn ht k2 hv u0 u1 _ HWD.out.mm).mono ?_); rintro e w3 ⟨rfl, hm, hkp⟩; have HN3 := Lib.hid (HWD.out.memC hm hkp); have HW3 := Lib.hid HN3.out.1; have HU3 := Lib.hid ((UpT.below (T := L.T) HBD.out).trans HN3.out.2); have HK3 := Lib.hid (HKD.out.upt HN3.out.2 HKb.out); clear hm hkp HN3))
  refine hK.out _ _ ⟨HW3.out.kk.f1, HK3.out.k5⟩ (fun hHeld => ?_)
  clear hK K hHeld
  (try simp only [Act.put, List.getElem_toArray, List.getElem_cons_succ, List.getElem_cons_zero, List.setIfInBounds_toArray, List.set_cons_zero, List.set_cons_succ])
  refine wpAnyH_done (by kernel_rfl) ?_ _
  refine NoPanic.normal ?_
  go_upto_region 8 with fail
  obtain ⟨wE, hwE⟩ : ∃ wE, wE = w3.drew := ⟨_, rfl⟩
  have HBE : Hid (Below w3.heap.size w3 wE) := Lib.hid (by rw [hwE]; exact (Below.refl _ _).drew)
  have HWE := Lib.hid (HW3.out.below HBE.out)
  have HKE := Lib.hid (HK3.out.below HBE.out)
  refine wp_region_noPanic ?_
  refine wp_region_held_drew (S := fun w' => (World.cell? w' ⟨kb, 0, none⟩ = some (.int .i64 2) ∧ World.cell? w' ⟨kb, 1, none⟩ = some (.int .i64 (k1 : Int)) ∧ World.cell? w' ⟨kb, 2, none⟩ = some (.int .i64 k2) ∧ World.cell? w' ⟨kb, 3, none⟩ = some (.int .i64 k3) ∧ World.cell? w' ⟨kb, 4, none⟩ = some (.int .u32 k4))) (by kernel_rfl) (by rw [← hwE]; exact HKE.out.k5) (fun hHeld => ?_)
  rw [← hwE] at hHeld ⊢
  clear hwE
  refine wpAnyH_take (i := 0) (v := ?_) (by rfl) (by kernel_rfl) (by kernel_rfl) (by kernel_rfl) (fun _ _ _ h => h) (Or.inl ⟨by kernel_rfl, ?_⟩) (by assumption) ?_; rotate_left 1; (focus (intro w hSw; (try dsimp only at hSw); simp only [List.getElem_toArray, List.getElem_cons_succ, List.getElem_cons_zero]; all_goals go_simp; all_goals (try with_reducible rfl))); (try simp only [Act.put, List.getElem_toArray, List.getElem_cons_succ, List.getElem_cons_zero, List.setIfInBounds_toArray, List.set_cons_zero, List.set_cons_succ])
  refine wpAnyH_take (i := 1) (v := ?_) (by rfl) (by kernel_rfl) (by kernel_rfl) (by kernel_rfl) (fun _ _ _ h => h) (Or.inl ⟨by kernel_rfl, ?_⟩) (by assumption) ?_; rotate_left 1; (focus (intro w hSw; (try dsimp only at hSw); simp only [List.getElem_toArray, List.getElem_cons_succ, List.getElem_cons_zero]; all_goals go_simp; all_goals (try with_reducible rfl))); (try simp only [Act.put, List.getElem_toArray, List.getElem_cons_succ, List.getElem_cons_zero, List.setIfInBounds_toArray, List.set_cons_zero, List.set_cons_succ])
  refine wpAnyH_take (i := 2) (v := ?_) (by rfl) (by kernel_rfl) (by kernel_rfl) (by kernel_rfl) (fun _ _ _ h => h) (Or.inl ⟨by kernel_rfl, ?_⟩) (by assumption) ?_; rotate_left 1; (focus (intro w hSw; (try dsimp only at hSw); simp only [List.getElem_toArray, List.getElem_cons_succ, List.getElem_cons_zero]; all_goals go_simp; all_goals (try with_reducible rfl))); (try simp only [Act.put, List.getElem_toArray, List.getElem_cons_succ, List.getElem_cons_zero, List.setIfInBounds_toArray, List.set_cons_zero, List.set_cons_succ])
  refine wpAnyH_take (i := 4) (v := ?_) (by rfl) (by kernel_rfl) (by kernel_rfl) (by kernel_rfl) (fun _ _ _ h => h) (Or.inl ⟨by kernel_rfl, ?_⟩) (by assumption) ?_; rotate_left 1; (focus (intro w hSw; (try dsimp only at hSw); simp only [List.getElem_toArray, List.getElem_cons_succ, List.getElem_cons_zero]; all_goals go_simp; all_goals (try with_reducible rfl))); (try simp only [Act.put, List.getElem_toArray, List.getElem_cons_succ, List.getElem_cons_zero, List.setIfInBounds_toArray, List.set_cons_zero, List.set_cons_succ])
  refine wpAnyH_take (i := 5) (v := ?_) (by rfl) (by kernel_rfl) (by kernel_rfl) (by kernel_rfl) (fun _ _ _ h => h) (Or.inl ⟨by kernel_rfl, ?_⟩) (by assumption) ?_; rotate_left 1; (focus (intro w hSw; (try dsimp only at hSw); simp only [List.getElem_toArray, List.getElem_cons_succ, List.getElem_cons_zero]; all_goals go_simp; all_goals (try with_reducible rfl))); (try simp only [Act.put, List.getElem_toArray, List.getElem_cons_succ, List.getElem_cons_zero, List.setIfInBounds_toArray, List.set_cons_zero, List.set_cons_succ])
  refine wpAnyH_take (i := 6) (v := ?_) (by rfl) (by kernel_rfl) (by kernel_rfl) (by kernel_rfl) (fun _ _ _ h => h) (Or.inl ⟨by kernel_rfl, ?_⟩) (by assumption) ?_; rotate_left 1; (focus (intro w hSw; (try dsimp only at hSw); simp only [List.getElem_toArray, List.getElem_cons_succ, List.getElem_cons_zero]; all_goals go_simp; all_goals (try with_reducible rfl))); (try simp only [Act.put, List.getElem_toArray, List.getElem_cons_succ, List.getElem_cons_zero, List.setIfInBounds_toArray, List.set_cons_zero, List.set_cons_succ])
  refine wpAnyH_ready (rs := [3]) (by kernel_rfl) (by simp) ?_; refine AllReadyH.cons (by rfl) (fun K hK => ?_) AllReadyH.nil; rw [if_pos (by kernel_rfl)]; simp only [List.getElem_toArray, List.getElem_cons_succ, List.getElem_cons_zero]
  go_wp2_with (first
    | (go_at_call 161; (with_reducible refine (btitles_is 2 L.G1 (.inl ⟨rfl, rfl⟩) _ HWE.out).mono ?_); rintro e w5 ⟨rfl, rfl⟩))
  refine hK.out _ _ HKE.out.k5 (fun hHeld => ?_)
  clear hK K
  (try simp only [Act.put, List.getElem_toArray, List.getElem_cons_succ, List.getElem_cons_zero, List.setIfInBounds_toArray, List.set_cons_zero, List.set_cons_succ])
  refine wpAnyH_take (i := 7) (v := ?_) (by rfl) (by kernel_rfl) (by kernel_rfl) (by kernel_rfl) (fun _ _ _ h => h) (Or.inl ⟨by kernel_rfl, ?_⟩) (by assumption) ?_; rotate_left 1; (focus (intro w hSw; (try dsimp only at hSw); simp only [List.getElem_toArray, List.getElem_cons_succ, List.getElem_cons_zero]; all_goals go_simp; all_goals (try with_reducible rfl))); (try simp only [Act.put, List.getElem_toArray, List.getElem_cons_succ, List.getElem_cons_zero, List.setIfInBounds_toArray, List.set_cons_zero, List.set_cons_succ])
  refine wpAnyH_ready (rs := [8]) (by kernel_rfl) (by simp) ?_; refine AllReadyH.cons (by rfl) (fun K hK => ?_) AllReadyH.nil; rw [if_pos (by kernel_rfl)]; simp only [List.getElem_toArray, List.getElem_cons_succ, List.getElem_cons_zero]
  have hti := HWE.out.kk.t1.ti k1 hj
  obtain ⟨c0, c1⟩ := hti
  have z0 := HWE.out.kk.t1.fr (k1 * 2)
  have z1 := HWE.out.kk.t1.fr (k1 * 2 + 1)
  have HS := Lib.hid (HWE.out.kk.t1.title k1 hj (-1) 0)
  have H4 := Lib.hid (HWE.out.kk.ti1 HS.out.1 HS.out.2)
  have HUS := Lib.hid (UpT.grown (T := L.T) HS.out.2 (by have := HTT.out; omega))
  have HKF := Lib.hid (HKE.out.upt HUS.out HKb.out)
  go_wp2_with fail
  refine hK.out _ _ HKF.out.k5 (fun hHeld => ?_)
  clear hK K hHeld
  (try simp only [Act.put, List.getElem_toArray, List.getElem_cons_succ, List.getElem_cons_zero, List.setIfInBounds_toArray, List.set_cons_zero, List.set_cons_succ])
  refine wpAnyH_done (by kernel_rfl) ?_ _
  refine NoPanic.normal ?_
  go_wp2_with fail
  go_end0
  refine ⟨rfl, ?_, (((UpT.below HB2.out).trans HU3.out).trans (UpT.below HBE.out)).trans HUS.out⟩
  exact BW.bank HWE.out (D' := { D with nt := upd D.nt k1 false, nv := upd D.nv k1 (k2 + 1), o1 := upd D.o1 k1 (-1), v1 := upd D.v1 k1 0 }) H4.out (low_of HS.out.2 HWE.out.kk.t1.lt.1 HWE.out.bl) rfl H.out.pk H.out.nn
set_option maxRecDepth 100000 in
set_option maxHeartbeats 2000000 in
theorem bgb_page {w0 : World} {L : BLoc} {D : BSt} (k1 : Nat) (k2 k3 k4 : Int) (hj : k1 < 256) (hn : k1 < L.b.n) (ht : Hid (D.pt k1 = true)) (hv : Hid (D.pv k1 = k2)) (u0 : -1000000000 ≤ k2) (u1 : k2 ≤ 1000000000) (w : World) (h : BW w0 w L D) :
    Calls Tryd.prog 158 #[.pointer (some ⟨L.P, 0, none⟩), (Value.agg #[.int .i64 3, .int .i64 (k1 : Int), .int .i64 k2, .int .i64 k3, .int .u32 k4])] w fun e w' => e = .returned (.tuple #[]) ∧ BW w0 w' L { D with pt := upd D.pt k1 false, pv := upd D.pv k1 (k2 + 1), o2 := upd D.o2 k1 (-1), v2 := upd D.v2 k1 0 } ∧ UpT L.T w w' := by
  have H := Lib.hid h
  have HLT := Lib.hid h.lowT
  have HTT := Lib.hid h.tt
  have HTw := Lib.hid h.tw
  have j0 : (0 : Int) ≤ k1 := by omega
  have j1 : (k1 : Int) < 256 := by omega
  clear h
  go_enter Tryd.func158, Tryd.ntmps158
  go_upto_region 5 with fail
  generalize hw2 : World.alloc w _ = w2
  have HB2 : Hid (Below w.heap.size w w2) := Lib.hid (by rw [← hw2]; exact (Below.refl _ _).alloc (Nat.le_refl _) _)
  obtain ⟨kb, hkb⟩ : ∃ kb, kb = w.heap.size := ⟨_, rfl⟩
  have HK2 : Hid (KeyC w2 kb 3 (k1 : Int) k2 k3 k4) := Lib.hid (by rw [← hw2, hkb]; exact KeyC.new w 3 (k1 : Int) k2 k3 k4 _)
  have HKb : Hid (L.T ≤ kb) := Lib.hid (by rw [hkb]; exact HTw.out)
  rw [← hkb]
  clear hw2 hkb
  obtain ⟨k0, hk0⟩ : ∃ k0 : Int, Hid (k0 = 3) := ⟨_, Lib.hid rfl⟩
  obtain ⟨wD, hwD⟩ : ∃ wD, wD = w2.drew := ⟨_, rfl⟩
  have HBD : Hid (Below w2.heap.size w2 wD) := Lib.hid (by rw [hwD]; exact (Below.refl _ _).drew)
  have HWD := Lib.hid ((H.out.below HB2.out).below HBD.out)
  have HKD := Lib.hid (HK2.out.below HBD.out)
  refine wp_region_noPanic ?_
  refine wp_region_held_drew (S := fun w' => World.cell? w' ⟨L.P, 1, none⟩ = some (.pointer (some ⟨L.mb, 0, none⟩)) ∧ (World.cell? w' ⟨kb, 0, none⟩ = some (.int .i64 3) ∧ World.cell? w' ⟨kb, 1, none⟩ = some (.int .i64 (k1 : Int)) ∧ World.cell? w' ⟨kb, 2, none⟩ = some (.int .i64 k2) ∧ World.cell? w' ⟨kb, 3, none⟩ = some (.int .i64 k3) ∧ World.cell? w' ⟨kb, 4, none⟩ = some (.int .u32 k4))) (by kernel_rfl) (by rw [← hwD]; exact ⟨HWD.out.kk.f1, HKD.out.k5⟩) (fun hHeld => ?_)
  rw [← hwD] at hHeld ⊢
  clear hwD
  refine wpAnyH_take (i := 0) (v := ?_) (by rfl) (by kernel_rfl) (by kernel_rfl) (by kernel_rfl) (fun _ _ _ h => h) (Or.inl ⟨by kernel_rfl, ?_⟩) (by assumption) ?_; rotate_left 1; (focus (intro w hSw; (try dsimp only at hSw); simp only [List.getElem_toArray, List.getElem_cons_succ, List.getElem_cons_zero]; all_goals go_simp; all_goals (try with_reducible rfl))); (try simp only [Act.put, List.getElem_toArray, List.getElem_cons_succ, List.getElem_cons_zero, List.setIfInBounds_toArray, List.set_cons_zero, List.set_cons_succ])
  refine wpAnyH_take (i := 1) (v := ?_) (by rfl) (by kernel_rfl) (by kernel_rfl) (by kernel_rfl) (fun _ _ _ h => h) (Or.inl ⟨by kernel_rfl, ?_⟩) (by assumption) ?_; rotate_left 1; (focus (intro w hSw; (try dsimp only at hSw); simp only [List.getElem_toArray, List.getElem_cons_succ, List.getElem_cons_zero]; all_goals go_simp; all_goals (try with_reducible rfl))); (try simp only [Act.put, List.getElem_toArray, List.getElem_cons_succ, List.getElem_cons_zero, List.setIfInBounds_toArray, List.set_cons_zero, List.set_cons_succ])
  refine wpAnyH_take (i := 2) (v := ?_) (by rfl) (by kernel_rfl) (by kernel_rfl) (by kernel_rfl) (fun _ _ _ h => h) (Or.inl ⟨by kernel_rfl, ?_⟩) (by assumption) ?_; rotate_left 1; (focus (intro w hSw; (try dsimp only at hSw); simp only [List.getElem_toArray, List.getElem_cons_succ, List.getElem_cons_zero]; all_goals go_simp; all_goals (try with_reducible rfl))); (try simp only [Act.put, List.getElem_toArray, List.getElem_cons_succ, List.getElem_cons_zero, List.setIfInBounds_toArray, List.set_cons_zero, List.set_cons_succ])
  refine wpAnyH_take (i := 3) (v := ?_) (by rfl) (by kernel_rfl) (by kernel_rfl) (by kernel_rfl) (fun _ _ _ h => h) (Or.inl ⟨by kernel_rfl, ?_⟩) (by assumption) ?_; rotate_left 1; (focus (intro w hSw; (try dsimp only at hSw); simp only [List.getElem_toArray, List.getElem_cons_succ, List.getElem_cons_zero]; all_goals go_simp; all_goals (try with_reducible rfl))); (try simp only [Act.put, List.getElem_toArray, List.getElem_cons_succ, List.getElem_cons_zero, List.setIfInBounds_toArray, List.set_cons_zero, List.set_cons_succ])
  refine wpAnyH_take (i := 4) (v := ?_) (by rfl) (by kernel_rfl) (by kernel_rfl) (by kernel_rfl) (fun _ _ _ h => h) (Or.inl ⟨by kernel_rfl, ?_⟩) (by assumption) ?_; rotate_left 1; (focus (intro w hSw; (try dsimp only at hSw); simp only [List.getElem_toArray, List.getElem_cons_succ, List.getElem_cons_zero]; all_goals go_simp; all_goals (try with_reducible rfl))); (try simp only [Act.put, List.getElem_toArray, List.getElem_cons_succ, List.getElem_cons_zero, List.setIfInBounds_toArray, List.set_cons_zero, List.set_cons_succ])
  refine wpAnyH_take (i := 5) (v := ?_) (by rfl) (by kernel_rfl) (by kernel_rfl) (by kernel_rfl) (fun _ _ _ h => h) (Or.inl ⟨by kernel_rfl, ?_⟩) (by assumption) ?_; rotate_left 1; (focus (intro w hSw; (try dsimp only at hSw); simp only [List.getElem_toArray, List.getElem_cons_succ, List.getElem_cons_zero]; all_goals go_simp; all_goals (try with_reducible rfl))); (try simp only [Act.put, List.getElem_toArray, List.getElem_cons_succ, List.getElem_cons_zero, List.setIfInBounds_toArray, List.set_cons_zero, List.set_cons_succ])
  refine wpAnyH_ready (rs := [6]) (by kernel_rfl) (by simp) ?_; refine AllReadyH.cons (by rfl) (fun K hK => ?_) AllReadyH.nil; rw [if_pos (by kernel_rfl)]; simp only [List.getElem_toArray, List.getElem_cons_succ, List.getElem_cons_zero]
  go_wp2_with (first
    | (go_at_call 190; (with_reducible refine (mgp_ok k1 hn ht k2 hv u0 u1 _ HWD.out.mm).mono ?_); rintro e w3 ⟨rfl, hm, hkp⟩; have HN3 := Lib.hid (HWD.out.memC hm hkp); have HW3 := Lib.hid HN3.out.1; have HU3 := Lib.hid ((UpT.below (T := L.T) HBD.out).trans HN3.out.2); have HK3 := Lib.hid (HKD.out.upt HN3.out.2 HKb.out); clear hm hkp HN3))
  refine hK.out _ _ ⟨HW3.out.kk.f1, HK3.out.k5⟩ (fun hHeld => ?_)
  clear hK K hHeld
  (try simp only [Act.put, List.getElem_toArray, List.getElem_cons_succ, List.getElem_cons_zero, List.setIfInBounds_toArray, List.set_cons_zero, List.set_cons_succ])
  refine wpAnyH_done (by kernel_rfl) ?_ _
  refine NoPanic.normal ?_
  go_upto_region 8 with fail
  obtain ⟨wE, hwE⟩ : ∃ wE, wE = w3.drew := ⟨_, rfl⟩
  have HBE : Hid (Below w3.heap.size w3 wE) := Lib.hid (by rw [hwE]; exact (Below.refl _ _).drew)
  have HWE := Lib.hid (HW3.out.below HBE.out)
  have HKE := Lib.hid (HK3.out.below HBE.out)
  refine wp_region_noPanic ?_
  refine wp_region_held_drew (S := fun w' => (World.cell? w' ⟨kb, 0, none⟩ = some (.int .i64 3) ∧ World.cell? w' ⟨kb, 1, none⟩ = some (.int .i64 (k1 : Int)) ∧ World.cell? w' ⟨kb, 2, none⟩ = some (.int .i64 k2) ∧ World.cell? w' ⟨kb, 3, none⟩ = some (.int .i64 k3) ∧ World.cell? w' ⟨kb, 4, none⟩ = some (.int .u32 k4))) (by kernel_rfl) (by rw [← hwE]; exact HKE.out.k5) (fun hHeld => ?_)
  rw [← hwE] at hHeld ⊢
  clear hwE
  refine wpAnyH_take (i := 0) (v := ?_) (by rfl) (by kernel_rfl) (by kernel_rfl) (by kernel_rfl) (fun _ _ _ h => h) (Or.inl ⟨by kernel_rfl, ?_⟩) (by assumption) ?_; rotate_left 1; (focus (intro w hSw; (try dsimp only at hSw); simp only [List.getElem_toArray, List.getElem_cons_succ, List.getElem_cons_zero]; all_goals go_simp; all_goals (try with_reducible rfl))); (try simp only [Act.put, List.getElem_toArray, List.getElem_cons_succ, List.getElem_cons_zero, List.setIfInBounds_toArray, List.set_cons_zero, List.set_cons_succ])
  refine wpAnyH_take (i := 1) (v := ?_) (by rfl) (by kernel_rfl) (by kernel_rfl) (by kernel_rfl) (fun _ _ _ h => h) (Or.inl ⟨by kernel_rfl, ?_⟩) (by assumption) ?_; rotate_left 1; (focus (intro w hSw; (try dsimp only at hSw); simp only [List.getElem_toArray, List.getElem_cons_succ, List.getElem_cons_zero]; all_goals go_simp; all_goals (try with_reducible rfl))); (try simp only [Act.put, List.getElem_toArray, List.getElem_cons_succ, List.getElem_cons_zero, List.setIfInBounds_toArray, List.set_cons_zero, List.set_cons_succ])
  refine wpAnyH_take (i := 2) (v := ?_) (by rfl) (by kernel_rfl) (by kernel_rfl) (by kernel_rfl) (fun _ _ _ h => h) (Or.inl ⟨by kernel_rfl, ?_⟩) (by assumption) ?_; rotate_left 1; (focus (intro w hSw; (try dsimp only at hSw); simp only [List.getElem_toArray, List.getElem_cons_succ, List.getElem_cons_zero]; all_goals go_simp; all_goals (try with_reducible rfl))); (try simp only [Act.put, List.getElem_toArray, List.getElem_cons_succ, List.getElem_cons_zero, List.setIfInBounds_toArray, List.set_cons_zero, List.set_cons_succ])
  refine wpAnyH_take (i := 4) (v := ?_) (by rfl) (by kernel_rfl) (by kernel_rfl) (by kernel_rfl) (fun _ _ _ h => h) (Or.inl ⟨by kernel_rfl, ?_⟩) (by assumption) ?_; rotate_left 1; (focus (intro w hSw; (try dsimp only at hSw); simp only [List.getElem_toArray, List.getElem_cons_succ, List.getElem_cons_zero]; all_goals go_simp; all_goals (try with_reducible rfl))); (try simp only [Act.put, List.getElem_toArray, List.getElem_cons_succ, List.getElem_cons_zero, List.setIfInBounds_toArray, List.set_cons_zero, List.set_cons_succ])
  refine wpAnyH_take (i := 5) (v := ?_) (by rfl) (by kernel_rfl) (by kernel_rfl) (by kernel_rfl) (fun _ _ _ h => h) (Or.inl ⟨by kernel_rfl, ?_⟩) (by assumption) ?_; rotate_left 1; (focus (intro w hSw; (try dsimp only at hSw); simp only [List.getElem_toArray, List.getElem_cons_succ, List.getElem_cons_zero]; all_goals go_simp; all_goals (try with_reducible rfl))); (try simp only [Act.put, List.getElem_toArray, List.getElem_cons_succ, List.getElem_cons_zero, List.setIfInBounds_toArray, List.set_cons_zero, List.set_cons_succ])
  refine wpAnyH_take (i := 6) (v := ?_) (by rfl) (by kernel_rfl) (by kernel_rfl) (by kernel_rfl) (fun _ _ _ h => h) (Or.inl ⟨by kernel_rfl, ?_⟩) (by assumption) ?_; rotate_left 1; (focus (intro w hSw; (try dsimp only at hSw); simp only [List.getElem_toArray, List.getElem_cons_succ, List.getElem_cons_zero]; all_goals go_simp; all_goals (try with_reducible rfl))); (try simp only [Act.put, List.getElem_toArray, List.getElem_cons_succ, List.getElem_cons_zero, List.setIfInBounds_toArray, List.set_cons_zero, List.set_cons_succ])
  refine wpAnyH_ready (rs := [3]) (by kernel_rfl) (by simp) ?_; refine AllReadyH.cons (by rfl) (fun K hK => ?_) AllReadyH.nil; rw [if_pos (by kernel_rfl)]; simp only [List.getElem_toArray, List.getElem_cons_succ, List.getElem_cons_zero]
  go_wp2_with (first
    | (go_at_call 161; (with_reducible refine (btitles_is 3 L.G2 (.inr (.inl ⟨rfl, rfl⟩)) _ HWE.out).mono ?_); rintro e w5 ⟨rfl, rfl⟩))
  refine hK.out _ _ HKE.out.k5 (fun hHeld => ?_)
  clear hK K
  (try simp only [Act.put, List.getElem_toArray, List.getElem_cons_succ, List.getElem_cons_zero, List.setIfInBounds_toArray, List.set_cons_zero, List.set_cons_succ])
  refine wpAnyH_take (i := 7) (v := ?_) (by rfl) (by kernel_rfl) (by kernel_rfl) (by kernel_rfl) (fun _ _ _ h => h) (Or.inl ⟨by kernel_rfl, ?_⟩) (by assumption) ?_; rotate_left 1; (focus (intro w hSw; (try dsimp only at hSw); simp only [List.getElem_toArray, List.getElem_cons_succ, List.getElem_cons_zero]; all_goals go_simp; all_goals (try with_reducible rfl))); (try simp only [Act.put, List.getElem_toArray, List.getElem_cons_succ, List.getElem_cons_zero, List.setIfInBounds_toArray, List.set_cons_zero, List.set_cons_succ])
  refine wpAnyH_ready (rs := [8]) (by kernel_rfl) (by simp) ?_; refine AllReadyH.cons (by rfl) (fun K hK => ?_) AllReadyH.nil; rw [if_pos (by kernel_rfl)]; simp only [List.getElem_toArray, List.getElem_cons_succ, List.getElem_cons_zero]
  have hti := HWE.out.kk.t2.ti k1 hj
  obtain ⟨c0, c1⟩ := hti
  have z0 := HWE.out.kk.t2.fr (k1 * 2)
  have z1 := HWE.out.kk.t2.fr (k1 * 2 + 1)
  have HS := Lib.hid (HWE.out.kk.t2.title k1 hj (-1) 0)
  have H4 := Lib.hid (HWE.out.kk.ti2 HS.out.1 HS.out.2)
  have HUS := Lib.hid (UpT.grown (T := L.T) HS.out.2 (by have := HTT.out; omega))
  have HKF := Lib.hid (HKE.out.upt HUS.out HKb.out)
  go_wp2_with fail
  refine hK.out _ _ HKF.out.k5 (fun hHeld => ?_)
  clear hK K hHeld
  (try simp only [Act.put, List.getElem_toArray, List.getElem_cons_succ, List.getElem_cons_zero, List.setIfInBounds_toArray, List.set_cons_zero, List.set_cons_succ])
  refine wpAnyH_done (by kernel_rfl) ?_ _
  refine NoPanic.normal ?_
  go_wp2_with fail
  go_end0
  refine ⟨rfl, ?_, (((UpT.below HB2.out).trans HU3.out).trans (UpT.below HBE.out)).trans HUS.out⟩
  exact BW.bank HWE.out (D' := { D with pt := upd D.pt k1 false, pv := upd D.pv k1 (k2 + 1), o2 := upd D.o2 k1 (-1), v2 := upd D.v2 k1 0 }) H4.out (low_of HS.out.2 HWE.out.kk.t2.lt.1 HWE.out.bl) rfl H.out.pk H.out.nn
set_option maxRecDepth 100000 in
set_option maxHeartbeats 2000000 in
theorem bgb_dom {w0 : World} {L : BLoc} {D : BSt} (k1 : Nat) (k2 k3 k4 : Int) (hj : k1 < 256) (hn : k1 < L.dn) (ht : Hid (D.dt k1 = true)) (hv : Hid (D.dv k1 = k2)) (u0 : -1000000000 ≤ k2) (u1 : k2 ≤ 1000000000) (w : World) (h : BW w0 w L D) :
    Calls Tryd.prog 158 #[.pointer (some ⟨L.P, 0, none⟩), (Value.agg #[.int .i64 4, .int .i64 (k1 : Int), .int .i64 k2, .int .i64 k3, .int .u32 k4])] w fun e w' => e = .returned (.tuple #[]) ∧ BW w0 w' L { D with dt := upd D.dt k1 false, dv := upd D.dv k1 (k2 + 1), o3 := upd D.o3 k1 (-1), v3 := upd D.v3 k1 0 } ∧ UpT L.T w w' := by
  have H := Lib.hid h
  have HLT := Lib.hid h.lowT
  have HTT := Lib.hid h.tt
  have HTw := Lib.hid h.tw
  have j0 : (0 : Int) ≤ k1 := by omega
  have j1 : (k1 : Int) < 256 := by omega
  clear h
  go_enter Tryd.func158, Tryd.ntmps158
  go_upto_region 7 with fail
  generalize hw2 : World.alloc w _ = w2
  have HB2 : Hid (Below w.heap.size w w2) := Lib.hid (by rw [← hw2]; exact (Below.refl _ _).alloc (Nat.le_refl _) _)
  obtain ⟨kb, hkb⟩ : ∃ kb, kb = w.heap.size := ⟨_, rfl⟩
  have HK2 : Hid (KeyC w2 kb 4 (k1 : Int) k2 k3 k4) := Lib.hid (by rw [← hw2, hkb]; exact KeyC.new w 4 (k1 : Int) k2 k3 k4 _)
  have HKb : Hid (L.T ≤ kb) := Lib.hid (by rw [hkb]; exact HTw.out)
  rw [← hkb]
  clear hw2 hkb
  obtain ⟨k0, hk0⟩ : ∃ k0 : Int, Hid (k0 = 4) := ⟨_, Lib.hid rfl⟩
  obtain ⟨wD, hwD⟩ : ∃ wD, wD = w2.drew := ⟨_, rfl⟩
  have HBD : Hid (Below w2.heap.size w2 wD) := Lib.hid (by rw [hwD]; exact (Below.refl _ _).drew)
  have HWD := Lib.hid ((H.out.below HB2.out).below HBD.out)
  have HKD := Lib.hid (HK2.out.below HBD.out)
  refine wp_region_noPanic ?_
  refine wp_region_held_drew (S := fun w' => World.cell? w' ⟨L.P, 2, none⟩ = some (.pointer (some ⟨L.dP, 0, none⟩)) ∧ (World.cell? w' ⟨kb, 0, none⟩ = some (.int .i64 4) ∧ World.cell? w' ⟨kb, 1, none⟩ = some (.int .i64 (k1 : Int)) ∧ World.cell? w' ⟨kb, 2, none⟩ = some (.int .i64 k2) ∧ World.cell? w' ⟨kb, 3, none⟩ = some (.int .i64 k3) ∧ World.cell? w' ⟨kb, 4, none⟩ = some (.int .u32 k4))) (by kernel_rfl) (by rw [← hwD]; exact ⟨HWD.out.kk.f2, HKD.out.k5⟩) (fun hHeld => ?_)
  rw [← hwD] at hHeld ⊢
  clear hwD
  refine wpAnyH_take (i := 0) (v := ?_) (by rfl) (by kernel_rfl) (by kernel_rfl) (by kernel_rfl) (fun _ _ _ h => h) (Or.inl ⟨by kernel_rfl, ?_⟩) (by assumption) ?_; rotate_left 1; (focus (intro w hSw; (try dsimp only at hSw); simp only [List.getElem_toArray, List.getElem_cons_succ, List.getElem_cons_zero]; all_goals go_simp; all_goals (try with_reducible rfl))); (try simp only [Act.put, List.getElem_toArray, List.getElem_cons_succ, List.getElem_cons_zero, List.setIfInBounds_toArray, List.set_cons_zero, List.set_cons_succ])
  refine wpAnyH_take (i := 1) (v := ?_) (by rfl) (by kernel_rfl) (by kernel_rfl) (by kernel_rfl) (fun _ _ _ h => h) (Or.inl ⟨by kernel_rfl, ?_⟩) (by assumption) ?_; rotate_left 1; (focus (intro w hSw; (try dsimp only at hSw); simp only [List.getElem_toArray, List.getElem_cons_succ, List.getElem_cons_zero]; all_goals go_simp; all_goals (try with_reducible rfl))); (try simp only [Act.put, List.getElem_toArray, List.getElem_cons_succ, List.getElem_cons_zero, List.setIfInBounds_toArray, List.set_cons_zero, List.set_cons_succ])
  refine wpAnyH_take (i := 2) (v := ?_) (by rfl) (by kernel_rfl) (by kernel_rfl) (by kernel_rfl) (fun _ _ _ h => h) (Or.inl ⟨by kernel_rfl, ?_⟩) (by assumption) ?_; rotate_left 1; (focus (intro w hSw; (try dsimp only at hSw); simp only [List.getElem_toArray, List.getElem_cons_succ, List.getElem_cons_zero]; all_goals go_simp; all_goals (try with_reducible rfl))); (try simp only [Act.put, List.getElem_toArray, List.getElem_cons_succ, List.getElem_cons_zero, List.setIfInBounds_toArray, List.set_cons_zero, List.set_cons_succ])
  refine wpAnyH_take (i := 3) (v := ?_) (by rfl) (by kernel_rfl) (by kernel_rfl) (by kernel_rfl) (fun _ _ _ h => h) (Or.inl ⟨by kernel_rfl, ?_⟩) (by assumption) ?_; rotate_left 1; (focus (intro w hSw; (try dsimp only at hSw); simp only [List.getElem_toArray, List.getElem_cons_succ, List.getElem_cons_zero]; all_goals go_simp; all_goals (try with_reducible rfl))); (try simp only [Act.put, List.getElem_toArray, List.getElem_cons_succ, List.getElem_cons_zero, List.setIfInBounds_toArray, List.set_cons_zero, List.set_cons_succ])
  refine wpAnyH_take (i := 4) (v := ?_) (by rfl) (by kernel_rfl) (by kernel_rfl) (by kernel_rfl) (fun _ _ _ h => h) (Or.inl ⟨by kernel_rfl, ?_⟩) (by assumption) ?_; rotate_left 1; (focus (intro w hSw; (try dsimp only at hSw); simp only [List.getElem_toArray, List.getElem_cons_succ, List.getElem_cons_zero]; all_goals go_simp; all_goals (try with_reducible rfl))); (try simp only [Act.put, List.getElem_toArray, List.getElem_cons_succ, List.getElem_cons_zero, List.setIfInBounds_toArray, List.set_cons_zero, List.set_cons_succ])
  refine wpAnyH_take (i := 5) (v := ?_) (by rfl) (by kernel_rfl) (by kernel_rfl) (by kernel_rfl) (fun _ _ _ h => h) (Or.inl ⟨by kernel_rfl, ?_⟩) (by assumption) ?_; rotate_left 1; (focus (intro w hSw; (try dsimp only at hSw); simp only [List.getElem_toArray, List.getElem_cons_succ, List.getElem_cons_zero]; all_goals go_simp; all_goals (try with_reducible rfl))); (try simp only [Act.put, List.getElem_toArray, List.getElem_cons_succ, List.getElem_cons_zero, List.setIfInBounds_toArray, List.set_cons_zero, List.set_cons_succ])
  refine wpAnyH_ready (rs := [6]) (by kernel_rfl) (by simp) ?_; refine AllReadyH.cons (by rfl) (fun K hK => ?_) AllReadyH.nil; rw [if_pos (by kernel_rfl)]; simp only [List.getElem_toArray, List.getElem_cons_succ, List.getElem_cons_zero]
  go_wp2_with (first
    | (go_at_call 63; (with_reducible refine (dend_ok k1 hn ht k2 hv u0 u1 _ HWD.out.dd).mono ?_); rintro e w3 ⟨rfl, hm, hkp⟩; have HN3 := Lib.hid ((And.intro (HWD.out.doms hm hkp) (UpT.pb hkp (T := L.T) (by have := HLT.out; omega) (by have := HLT.out; omega)) : BW w0 w3 L _ ∧ UpT L.T wD w3)); have HW3 := Lib.hid HN3.out.1; have HU3 := Lib.hid ((UpT.below (T := L.T) HBD.out).trans HN3.out.2); have HK3 := Lib.hid (HKD.out.upt HN3.out.2 HKb.out); clear hm hkp HN3))
  refine hK.out _ _ ⟨HW3.out.kk.f2, HK3.out.k5⟩ (fun hHeld => ?_)
  clear hK K hHeld
  (try simp only [Act.put, List.getElem_toArray, List.getElem_cons_succ, List.getElem_cons_zero, List.setIfInBounds_toArray, List.set_cons_zero, List.set_cons_succ])
  refine wpAnyH_done (by kernel_rfl) ?_ _
  refine NoPanic.normal ?_
  go_upto_region 8 with fail
  obtain ⟨wE, hwE⟩ : ∃ wE, wE = w3.drew := ⟨_, rfl⟩
  have HBE : Hid (Below w3.heap.size w3 wE) := Lib.hid (by rw [hwE]; exact (Below.refl _ _).drew)
  have HWE := Lib.hid (HW3.out.below HBE.out)
  have HKE := Lib.hid (HK3.out.below HBE.out)
  refine wp_region_noPanic ?_
  refine wp_region_held_drew (S := fun w' => (World.cell? w' ⟨kb, 0, none⟩ = some (.int .i64 4) ∧ World.cell? w' ⟨kb, 1, none⟩ = some (.int .i64 (k1 : Int)) ∧ World.cell? w' ⟨kb, 2, none⟩ = some (.int .i64 k2) ∧ World.cell? w' ⟨kb, 3, none⟩ = some (.int .i64 k3) ∧ World.cell? w' ⟨kb, 4, none⟩ = some (.int .u32 k4))) (by kernel_rfl) (by rw [← hwE]; exact HKE.out.k5) (fun hHeld => ?_)
  rw [← hwE] at hHeld ⊢
  clear hwE
  refine wpAnyH_take (i := 0) (v := ?_) (by rfl) (by kernel_rfl) (by kernel_rfl) (by kernel_rfl) (fun _ _ _ h => h) (Or.inl ⟨by kernel_rfl, ?_⟩) (by assumption) ?_; rotate_left 1; (focus (intro w hSw; (try dsimp only at hSw); simp only [List.getElem_toArray, List.getElem_cons_succ, List.getElem_cons_zero]; all_goals go_simp; all_goals (try with_reducible rfl))); (try simp only [Act.put, List.getElem_toArray, List.getElem_cons_succ, List.getElem_cons_zero, List.setIfInBounds_toArray, List.set_cons_zero, List.set_cons_succ])
  refine wpAnyH_take (i := 1) (v := ?_) (by rfl) (by kernel_rfl) (by kernel_rfl) (by kernel_rfl) (fun _ _ _ h => h) (Or.inl ⟨by kernel_rfl, ?_⟩) (by assumption) ?_; rotate_left 1; (focus (intro w hSw; (try dsimp only at hSw); simp only [List.getElem_toArray, List.getElem_cons_succ, List.getElem_cons_zero]; all_goals go_simp; all_goals (try with_reducible rfl))); (try simp only [Act.put, List.getElem_toArray, List.getElem_cons_succ, List.getElem_cons_zero, List.setIfInBounds_toArray, List.set_cons_zero, List.set_cons_succ])
  refine wpAnyH_take (i := 2) (v := ?_) (by rfl) (by kernel_rfl) (by kernel_rfl) (by kernel_rfl) (fun _ _ _ h => h) (Or.inl ⟨by kernel_rfl, ?_⟩) (by assumption) ?_; rotate_left 1; (focus (intro w hSw; (try dsimp only at hSw); simp only [List.getElem_toArray, List.getElem_cons_succ, List.getElem_cons_zero]; all_goals go_simp; all_goals (try with_reducible rfl))); (try simp only [Act.put, List.getElem_toArray, List.getElem_cons_succ, List.getElem_cons_zero, List.setIfInBounds_toArray, List.set_cons_zero, List.set_cons_succ])
  refine wpAnyH_take (i := 4) (v := ?_) (by rfl) (by kernel_rfl) (by kernel_rfl) (by kernel_rfl) (fun _ _ _ h => h) (Or.inl ⟨by kernel_rfl, ?_⟩) (by assumption) ?_; rotate_left 1; (focus (intro w hSw; (try dsimp only at hSw); simp only [List.getElem_toArray, List.getElem_cons_succ, List.getElem_cons_zero]; all_goals go_simp; all_goals (try with_reducible rfl))); (try simp only [Act.put, List.getElem_toArray, List.getElem_cons_succ, List.getElem_cons_zero, List.setIfInBounds_toArray, List.set_cons_zero, List.set_cons_succ])
  refine wpAnyH_take (i := 5) (v := ?_) (by rfl) (by kernel_rfl) (by kernel_rfl) (by kernel_rfl) (fun _ _ _ h => h) (Or.inl ⟨by kernel_rfl, ?_⟩) (by assumption) ?_; rotate_left 1; (focus (intro w hSw; (try dsimp only at hSw); simp only [List.getElem_toArray, List.getElem_cons_succ, List.getElem_cons_zero]; all_goals go_simp; all_goals (try with_reducible rfl))); (try simp only [Act.put, List.getElem_toArray, List.getElem_cons_succ, List.getElem_cons_zero, List.setIfInBounds_toArray, List.set_cons_zero, List.set_cons_succ])
  refine wpAnyH_take (i := 6) (v := ?_) (by rfl) (by kernel_rfl) (by kernel_rfl) (by kernel_rfl) (fun _ _ _ h => h) (Or.inl ⟨by kernel_rfl, ?_⟩) (by assumption) ?_; rotate_left 1; (focus (intro w hSw; (try dsimp only at hSw); simp only [List.getElem_toArray, List.getElem_cons_succ, List.getElem_cons_zero]; all_goals go_simp; all_goals (try with_reducible rfl))); (try simp only [Act.put, List.getElem_toArray, List.getElem_cons_succ, List.getElem_cons_zero, List.setIfInBounds_toArray, List.set_cons_zero, List.set_cons_succ])
  refine wpAnyH_ready (rs := [3]) (by kernel_rfl) (by simp) ?_; refine AllReadyH.cons (by rfl) (fun K hK => ?_) AllReadyH.nil; rw [if_pos (by kernel_rfl)]; simp only [List.getElem_toArray, List.getElem_cons_succ, List.getElem_cons_zero]
  go_wp2_with (first
    | (go_at_call 161; (with_reducible refine (btitles_is 4 L.G3 (.inr (.inr ⟨by decide, by decide, rfl⟩)) _ HWE.out).mono ?_); rintro e w5 ⟨rfl, rfl⟩))
  refine hK.out _ _ HKE.out.k5 (fun hHeld => ?_)
  clear hK K
  (try simp only [Act.put, List.getElem_toArray, List.getElem_cons_succ, List.getElem_cons_zero, List.setIfInBounds_toArray, List.set_cons_zero, List.set_cons_succ])
  refine wpAnyH_take (i := 7) (v := ?_) (by rfl) (by kernel_rfl) (by kernel_rfl) (by kernel_rfl) (fun _ _ _ h => h) (Or.inl ⟨by kernel_rfl, ?_⟩) (by assumption) ?_; rotate_left 1; (focus (intro w hSw; (try dsimp only at hSw); simp only [List.getElem_toArray, List.getElem_cons_succ, List.getElem_cons_zero]; all_goals go_simp; all_goals (try with_reducible rfl))); (try simp only [Act.put, List.getElem_toArray, List.getElem_cons_succ, List.getElem_cons_zero, List.setIfInBounds_toArray, List.set_cons_zero, List.set_cons_succ])
  refine wpAnyH_ready (rs := [8]) (by kernel_rfl) (by simp) ?_; refine AllReadyH.cons (by rfl) (fun K hK => ?_) AllReadyH.nil; rw [if_pos (by kernel_rfl)]; simp only [List.getElem_toArray, List.getElem_cons_succ, List.getElem_cons_zero]
  have hti := HWE.out.kk.t3.ti k1 hj
  obtain ⟨c0, c1⟩ := hti
  have z0 := HWE.out.kk.t3.fr (k1 * 2)
  have z1 := HWE.out.kk.t3.fr (k1 * 2 + 1)
  have HS := Lib.hid (HWE.out.kk.t3.title k1 hj (-1) 0)
  have H4 := Lib.hid (HWE.out.kk.ti3 HS.out.1 HS.out.2)
  have HUS := Lib.hid (UpT.grown (T := L.T) HS.out.2 (by have := HTT.out; omega))
  have HKF := Lib.hid (HKE.out.upt HUS.out HKb.out)
  go_wp2_with fail
  refine hK.out _ _ HKF.out.k5 (fun hHeld => ?_)
  clear hK K hHeld
  (try simp only [Act.put, List.getElem_toArray, List.getElem_cons_succ, List.getElem_cons_zero, List.setIfInBounds_toArray, List.set_cons_zero, List.set_cons_succ])
  refine wpAnyH_done (by kernel_rfl) ?_ _
  refine NoPanic.normal ?_
  go_wp2_with fail
  go_end0
  refine ⟨rfl, ?_, (((UpT.below HB2.out).trans HU3.out).trans (UpT.below HBE.out)).trans HUS.out⟩
  exact BW.bank HWE.out (D' := { D with dt := upd D.dt k1 false, dv := upd D.dv k1 (k2 + 1), o3 := upd D.o3 k1 (-1), v3 := upd D.v3 k1 0 }) H4.out (low_of HS.out.2 HWE.out.kk.t3.lt.1 HWE.out.bl) rfl H.out.pk H.out.nn
set_option maxRecDepth 100000 in
set_option maxHeartbeats 2000000 in
theorem bgive_ok {w0 : World} {L : BLoc} {D : BSt} {D2 : BSt} (k0 : Int) (k1 : Nat) (k2 k3 k4 : Int) (G q : Nat) (hj2 : k1 < 256) (hq : q < D.nb) (ht : Hid (liveK L D k0 k1 k2 = true)) (h2 : Hid (D2.nb = D.nb ∧ D2.pr = D.pr ∧ D2.us = D.us)) (hu : Hid (∀ i, i < L.n → -1000000 ≤ D.us i ∧ D.us i ≤ 1000000)) (w : World) (h : BW w0 w L D) (hT : TiAt w L k0 G k1 q k2)
    (hgb : ∀ W, BW w0 W L D → Calls Tryd.prog 158 #[.pointer (some ⟨L.P, 0, none⟩), (Value.agg #[.int .i64 k0, .int .i64 k1, .int .i64 k2, .int .i64 k3, .int .u32 k4])] W fun e w' => e = .returned (.tuple #[]) ∧ BW w0 w' L D2 ∧ UpT L.T W w') :
    Calls Tryd.prog 89 #[.pointer (some ⟨L.P, 0, none⟩), .int .i64 (q : Int), (Value.agg #[.int .i64 k0, .int .i64 k1, .int .i64 k2, .int .i64 k3, .int .u32 k4])] w fun e w' => e = .returned .nilIface ∧ BW w0 w' L { D2 with us := addL D.us (chL D.pr q) (-1) } ∧ UpT L.T w w' := by
  have H := Lib.hid (fun o => h.below ((Below.refl _ _).alloc (Nat.le_refl _) _ : Below w.heap.size w (w.alloc o)))
  have HT := Lib.hid (fun o => hT.below ((Below.refl _ _).alloc (Nat.le_refl _) _ : Below w.heap.size w (w.alloc o)))
  have HGB := Lib.hid hgb
  have f0 := fun o => (h.below ((Below.refl _ _).alloc (Nat.le_refl _) _ : Below w.heap.size w (w.alloc o))).kk.f0
  have hn := h.n256
  have hnn := h.nn
  have hin := chL_in h.pk h.nn (by omega) q hq
  obtain ⟨l, hl⟩ : ∃ l, Hid (chL D.pr q = l) := ⟨_, Lib.hid rfl⟩
  rw [hl.out] at hin
  obtain ⟨m, hm⟩ : ∃ m, Hid (l.length = m) := ⟨_, Lib.hid rfl⟩
  have hm1 : m ≤ 1000 := by rw [← hm.out]; omega
  have HIn := Lib.hid hin.1
  have HNd := Lib.hid hin.2.2
  have HPk := Lib.hid h.pk
  have HTT := Lib.hid h.tt
  have HTw := Lib.hid h.tw
  have hqq : ((q : Int) != (q : Int)) = false := by simp
  clear h hT hgb hin
  go_enter Tryd.func89, Tryd.ntmps89
  go_wp2_with (first
    | (go_at_call 25; (with_reducible refine (athere_in q (by omega) true (Lib.hid (thN_at hq)) _ (H.out _).kk.ar).mono ?_); rintro e w1 ⟨rfl, rfl⟩)
    | (go_at_call 160; (with_reducible refine (blive_is k0 (k1 : Int) k2 k3 k4 true ht _ (H.out _)).mono ?_); rintro e w1 ⟨rfl, hb⟩; have HB1 := Lib.hid (((Below.refl _ _).alloc (Nat.le_refl _) _ : Below w.heap.size w _).trans (hb.mono (by simp))); have HW1 := Lib.hid ((H.out _).below hb); have HT1 := Lib.hid ((HT.out _).below hb); have HK1 := Lib.hid ((KeyC.new w k0 (k1 : Int) k2 k3 k4 32).below hb); have q0 := HK1.out.c0; have q1 := HK1.out.c1; have q2 := HK1.out.c2; have q3 := HK1.out.c3; have q4 := HK1.out.c4; clear hb f0)
    | (go_at_call 88; (with_reducible refine (bowner_live k0 k1 k2 k3 k4 G q hj2 hq ht _ HW1.out HT1.out).mono ?_); rintro e w2 ⟨rfl, hb⟩; have HB2 := Lib.hid (HB1.out.trans (hb.mono HB1.out.size)); have HW2 := Lib.hid (HW1.out.below hb); have HK2 := Lib.hid (HK1.out.below hb); clear q0 q1 q2 q3 q4; have q0 := HK2.out.c0; have q1 := HK2.out.c1; have q2 := HK2.out.c2; have q3 := HK2.out.c3; have q4 := HK2.out.c4; clear hb)
    | (go_at_call 158; (with_reducible refine (HGB.out _ HW2.out).mono ?_); rintro e w3 ⟨rfl, hW, hu3⟩; have HW3 := Lib.hid hW; have HU3 := Lib.hid ((UpT.below (T := L.T) HB2.out).trans hu3); have HBn := Lib.hid hW.kk; rw [h2.out.1, h2.out.2.1, h2.out.2.2] at HBn; clear hW hu3 q0 q1 q2 q3 q4)
    | (go_at_call 155; (with_reducible refine (bchain_is (q : Int) D.nb (by omega) (by omega) hnn (Lib.hid (fun i hi => thN_at hi)) HPk _ HBn.out).mono ?_); rintro e w4 ⟨v9, rfl, hr, hb⟩; rw [hl.out] at hr; obtain ⟨a9, c9, hv9⟩ := own_slice hr m hm; have HRw := Lib.hid (rowT hr hv9 hm.out HW3.out.tw); subst hv9; have H4 := Lib.hid (HBn.out.below hb); have HW4 := Lib.hid (HW3.out.below hb); have HU4 := Lib.hid (HU3.out.trans (UpT.below hb)); clear hr hb)
    | (go_at_call 159; (with_reducible refine (bcount_is l m hm hm1 a9 c9 HIn HNd (-1) (by decide) hu _ H4.out (fun i hi => by obtain ⟨g, h1, h2, h3, h4⟩ := HRw.out _ (UpT.refl _ _) i hi; exact ⟨g, h1, h3, by have := HTT.out; omega, h4⟩)).mono ?_); rintro e w5 ⟨rfl, hB, hg⟩; have H5 := Lib.hid hB; have HG5 := Lib.hid hg; clear hB hg))
  go_ret
  refine ⟨rfl, ?_, HU4.out.trans (UpT.grown HG5.out (by have := HTT.out; omega))⟩
  have hk := H5.out
  rw [← h2.out.1, ← h2.out.2.1, ← hl.out] at hk
  refine BW.bank HW4.out (D' := { D2 with us := addL D.us (chL D.pr q) (-1) }) ?_ (low_of HG5.out HW4.out.kk.ac.lt.1 HW4.out.bl) rfl HW4.out.pk HW4.out.nn
  exact hk
theorem bgive_none {w0 : World} {L : BLoc} {D : BSt} (k0 : Int) (k1 k2 k3 k4 : Int) (q : Nat) (hq : q < D.nb) (ht : Hid (liveK L D k0 k1 k2 = false)) (v : Value) (w : World) (h : BW w0 w L D) (hE : w.cell? ⟨0, 0, none⟩ = some v) (hlt : 0 < w.heap.size) :
    Calls Tryd.prog 89 #[.pointer (some ⟨L.P, 0, none⟩), .int .i64 (q : Int), (Value.agg #[.int .i64 k0, .int .i64 k1, .int .i64 k2, .int .i64 k3, .int .u32 k4])] w fun e w' => e = .returned v ∧ Below w.heap.size w w' := by
  have H := Lib.hid (fun o => h.below ((Below.refl _ _).alloc (Nat.le_refl _) _ : Below w.heap.size w (w.alloc o)))
  have f0 := fun o => (h.below ((Below.refl _ _).alloc (Nat.le_refl _) _ : Below w.heap.size w (w.alloc o))).kk.f0
  have hnn := h.nn
  clear h
  go_enter Tryd.func89, Tryd.ntmps89
  go_wp2_with (first
    | (go_at_call 25; (with_reducible refine (athere_in q (by omega) true (Lib.hid (thN_at hq)) _ (H.out _).kk.ar).mono ?_); rintro e w1 ⟨rfl, rfl⟩)
    | (go_at_call 160; (with_reducible refine (blive_is k0 k1 k2 k3 k4 false ht _ (H.out _)).mono ?_); rintro e w1 ⟨rfl, hb⟩; have HB1 := Lib.hid (((Below.refl _ _).alloc (Nat.le_refl _) _ : Below w.heap.size w _).trans (hb.mono (by simp))); have hE2 := (HB1.out.cell (p := ⟨0, 0, none⟩) hlt).trans hE; clear hb f0 hE))
  go_ret
  exact ⟨rfl, HB1.out⟩
theorem bgive_own {w0 : World} {L : BLoc} {D : BSt} (k0 : Int) (k1 : Nat) (k2 k3 k4 : Int) (G q q2 : Nat) (hj2 : k1 < 256) (hq : q < D.nb) (hq2 : q2 < D.nb) (hne : q2 ≠ q) (ht : Hid (liveK L D k0 k1 k2 = true)) (v : Value) (w : World) (h : BW w0 w L D) (hT : TiAt w L k0 G k1 q k2) (hE : w.cell? ⟨3, 0, none⟩ = some v) (hlt : 3 < w.heap.size) :
    Calls Tryd.prog 89 #[.pointer (some ⟨L.P, 0, none⟩), .int .i64 (q2 : Int), (Value.agg #[.int .i64 k0, .int .i64 k1, .int .i64 k2, .int .i64 k3, .int .u32 k4])] w fun e w' => e = .returned v ∧ Below w.heap.size w w' := by
  have H := Lib.hid (fun o => h.below ((Below.refl _ _).alloc (Nat.le_refl _) _ : Below w.heap.size w (w.alloc o)))
  have HT := Lib.hid (fun o => hT.below ((Below.refl _ _).alloc (Nat.le_refl _) _ : Below w.heap.size w (w.alloc o)))
  have f0 := fun o => (h.below ((Below.refl _ _).alloc (Nat.le_refl _) _ : Below w.heap.size w (w.alloc o))).kk.f0
  have hnn := h.nn
  have hqq : ((q : Int) != (q2 : Int)) = true := by rw [bne_iff_ne]; omega
  clear h hT
  go_enter Tryd.func89, Tryd.ntmps89
  go_wp2_with (first
    | (go_at_call 25; (with_reducible refine (athere_in q2 (by omega) true (Lib.hid (thN_at hq2)) _ (H.out _).kk.ar).mono ?_); rintro e w1 ⟨rfl, rfl⟩)
    | (go_at_call 160; (with_reducible refine (blive_is k0 (k1 : Int) k2 k3 k4 true ht _ (H.out _)).mono ?_); rintro e w1 ⟨rfl, hb⟩; have HB1 := Lib.hid (((Below.refl _ _).alloc (Nat.le_refl _) _ : Below w.heap.size w _).trans (hb.mono (by simp))); have HW1 := Lib.hid ((H.out _).below hb); have HT1 := Lib.hid ((HT.out _).below hb); have HK1 := Lib.hid ((KeyC.new w k0 (k1 : Int) k2 k3 k4 32).below hb); have q0 := HK1.out.c0; have q1 := HK1.out.c1; have q2' := HK1.out.c2; have q3 := HK1.out.c3; have q4 := HK1.out.c4; clear hb f0)
    | (go_at_call 88; (with_reducible refine (bowner_live k0 k1 k2 k3 k4 G q hj2 hq ht _ HW1.out HT1.out).mono ?_); rintro e w2 ⟨rfl, hb⟩; have HB2 := Lib.hid (HB1.out.trans (hb.mono HB1.out.size)); have hE2 := (HB2.out.cell (p := ⟨3, 0, none⟩) hlt).trans hE; clear hb hE))
  go_ret
  exact ⟨rfl, HB2.out⟩
end Go.Proofs.YtkogmhgpkacehaaDoor
namespace Go.Proofs.YtkogmhgpkacehaaDoor
open Go.ChangeShapes Go.WideShapes Go.ChangeAt Go.RowKit
set_option linter.unusedVariables false
set_option linter.unusedSimpArgs false
theorem ErrsAt.up {vs vr : Value} {w w' : World} (h : ErrsAt vs vr w) (hb : Below w.heap.size w w') : ErrsAt vs vr w' := h.below hb
def boughtN (D : BSt) (q j : Nat) (v : Int) (nW : Nat → Nat → Value) : BSt := { D with nt := upd D.nt j true, nW := nW, us := addL D.us (chL D.pr q) 1, o1 := upd D.o1 j q, v1 := upd D.v1 j v }
/-- Keys that are handed in lie apart. -/
def SrcV (L : BLoc) (w : World) (a : Option Addr) (m : Nat) (kk : Nat → Nat → Int) : Prop := ∀ W, Below w.heap.size w W → ∀ B G, (B < L.T ∨ w.heap.size ≤ B) → (G < L.T ∨ w.heap.size ≤ G) → SrcK W a m kk B G
theorem SrcV.run {L : BLoc} {w : World} {a : Option Addr} {m : Nat} {kk : Nat → Nat → Int} (h : SrcV L w a m kk) (W : World) (hb : Below w.heap.size w W) (B G : Nat) (hB : B < L.T ∨ w.heap.size ≤ B) (hG : G < L.T ∨ w.heap.size ≤ G) : SrcK W a m kk B G := h W hb B G hB hG
theorem srcv_none (L : BLoc) (w : World) (kk : Nat → Nat → Int) : SrcV L w none 0 kk := fun _ _ _ _ _ _ => ⟨fun j hj => by omega⟩
set_option maxRecDepth 100000 in
theorem bnodeof_ok (vs vr : Value) (a : Option Addr) (m c2 : Nat) (kk : Nat → Nat → Int) (hk : Hid (∀ i, i < m → KRight kk i)) (hx : m ≤ 16) (w : World) (hE : ErrsAt vs vr w) (hs : ∀ B G, w.heap.size ≤ B → w.heap.size ≤ G → SrcK w a m kk B G) :
    Calls Tryd.prog 147 #[.slice a m c2] w fun e w' => e = .returned .nilIface ∧ Below w.heap.size w w' := by
  have HS := Lib.hid hs
  have HE := Lib.hid hE
  clear hs hE
  go_enter Tryd.func147, Tryd.ntmps147
  go_wp2_with (first
    | (go_at_call 15; (with_reducible refine (nnew_ok 1 1 (Lib.hid rfl) (by decide) (by decide) _).mono ?_); rintro e w1 ⟨P, p, B, G, rfl, hP, hb⟩; have HP := Lib.hid hP; have HB := Lib.hid hb; have HS1 := Lib.hid ((HS.out B G hP.ar.lt.1 (hP.row.lt G rfl).1).below hb); have HE1 := Lib.hid (HE.out.up hb); clear hP hb)
    | (go_at_call 19; (with_reducible refine (nmake_at 0 vs vr a m c2 kk hx hk 0 (Lib.hid rfl) (by decide) (Lib.hid (by decide)) (Lib.hid (by intro i hi; omega)) 0 (Lib.hid rfl) _ HE1.out HP.out HS1.out).mono ?_); rintro e w2 ⟨rfl, hP2, hb2⟩; have HB2 := Lib.hid (HB.out.trans (hb2.below (b := w.heap.size) HP.out.ar.lt.1 (HP.out.row.lt G rfl).1 HB.out.size)); clear hP2 hb2))
  go_ret
  exact ⟨rfl, HB2.out⟩
set_option maxRecDepth 100000 in
set_option maxHeartbeats 1000000 in
theorem bndcl_ok {w0 : World} {L : BLoc} {D : BSt} (x y : Nat) (vs vr : Value) (a : Option Addr) (m c2 : Nat) (kk : Nat → Nat → Int) (hk : Hid (∀ i, i < m → KRight kk i)) (hx : m ≤ 16) (j : Nat) (hj : j < L.a.n) (hyes : Hid (freeB D.nt D.nv j = true)) (hno : Hid (∀ i, i < j → freeB D.nt D.nv i = false)) (v : Int) (hv : Hid (D.nv j = v)) (w : World) (h : BW w0 w L D) (hxy : L.T ≤ x ∧ x < w.heap.size ∧ L.T ≤ y ∧ y < w.heap.size) (cx : w.cell? ⟨x, 0, none⟩ = some (.pointer (some ⟨L.P, 0, none⟩))) (cy : w.cell? ⟨y, 0, none⟩ = some (.slice a m c2)) (hE : ErrsAt vs vr w) (hs : SrcK w a m kk L.a.B L.a.G) :
    Calls Tryd.prog 148 #[.pointer (some ⟨x, 0, none⟩), .pointer (some ⟨y, 0, none⟩)] w fun e w' => e = .returned (.tuple #[.int .i64 j, .int .i64 v, .nilIface]) ∧ BW w0 w' L { D with nt := upd D.nt j true, nW := freshV D.nW j (kcs kk m) } ∧ PBelow w w' L.a.B L.a.G := by
  obtain ⟨wD, hwD⟩ : ∃ wD, wD = w.drew := ⟨_, rfl⟩
  have hbD : Below w.heap.size w wD := by rw [hwD]; exact (Below.refl _ _).drew
  have HD := Lib.hid (h.below hbD)
  have HSr := Lib.hid (hs.below hbD)
  have HEd := Lib.hid (hE.up hbD)
  have HBD := Lib.hid (PBelow.of_below (B := L.a.B) (G := L.a.G) hbD)
  have HS7 : Hid (∀ W, BW w0 W L { D with nt := upd D.nt j true, nW := freshV D.nW j (kcs kk m) } → UpT L.T w W → (World.cell? W ⟨x, 0, none⟩ = some (.pointer (some ⟨L.P, 0, none⟩)) ∧ World.cell? W ⟨L.P, 1, none⟩ = some (.pointer (some ⟨L.mb, 0, none⟩)) ∧ World.cell? W ⟨L.mb, 0, none⟩ = some (.pointer (some ⟨L.S, 0, none⟩)) ∧ World.cell? W ⟨L.S, 0, none⟩ = some (.pointer (some ⟨L.a.P, 0, none⟩)) ∧ World.cell? W ⟨y, 0, none⟩ = some (.slice a m c2))) := Lib.hid (fun W hW hu => ⟨(World.cell?_of_block (a := ⟨x, 0, none⟩) (hu.2 x hxy.1 hxy.2.1)).trans cx, hW.kk.f1, hW.mm.m0, hW.mm.sv.st.s0, (World.cell?_of_block (a := ⟨y, 0, none⟩) (hu.2 y hxy.2.2.1 hxy.2.2.2)).trans cy⟩)
  have hS0 : (World.cell? wD ⟨x, 0, none⟩ = some (.pointer (some ⟨L.P, 0, none⟩)) ∧ World.cell? wD ⟨L.P, 1, none⟩ = some (.pointer (some ⟨L.mb, 0, none⟩)) ∧ World.cell? wD ⟨L.mb, 0, none⟩ = some (.pointer (some ⟨L.S, 0, none⟩)) ∧ World.cell? wD ⟨L.S, 0, none⟩ = some (.pointer (some ⟨L.a.P, 0, none⟩)) ∧ World.cell? wD ⟨y, 0, none⟩ = some (.slice a m c2)) := ⟨(hbD.cell (p := ⟨x, 0, none⟩) hxy.2.1).trans cx, HD.out.kk.f1, HD.out.mm.m0, HD.out.mm.sv.st.s0, (hbD.cell (p := ⟨y, 0, none⟩) hxy.2.2.2).trans cy⟩
  have HLT := Lib.hid h.lowT
  clear h hs cx cy hbD hE
  go_enter Tryd.func148, Tryd.ntmps148
  go_upto_region 1 with fail
  refine wp_region_noPanic ?_
  refine wp_region_held_drew (S := fun w' => (World.cell? w' ⟨x, 0, none⟩ = some (.pointer (some ⟨L.P, 0, none⟩)) ∧ World.cell? w' ⟨L.P, 1, none⟩ = some (.pointer (some ⟨L.mb, 0, none⟩)) ∧ World.cell? w' ⟨L.mb, 0, none⟩ = some (.pointer (some ⟨L.S, 0, none⟩)) ∧ World.cell? w' ⟨L.S, 0, none⟩ = some (.pointer (some ⟨L.a.P, 0, none⟩)) ∧ World.cell? w' ⟨y, 0, none⟩ = some (.slice a m c2))) (by kernel_rfl) (by rw [← hwD]; exact hS0) (fun hHeld => ?_)
  rw [← hwD] at hHeld ⊢
  clear hwD hS0
  refine wpAnyH_take (i := 0) (v := ?_) (by rfl) (by kernel_rfl) (by kernel_rfl) (by kernel_rfl) (fun _ _ _ h => h) (Or.inl ⟨by kernel_rfl, ?_⟩) (by assumption) ?_; rotate_left 1; (focus (intro w hSw; (try dsimp only at hSw); simp only [List.getElem_toArray, List.getElem_cons_succ, List.getElem_cons_zero]; all_goals go_simp; all_goals (try with_reducible rfl))); (try simp only [Act.put, List.getElem_toArray, List.getElem_cons_succ, List.getElem_cons_zero, List.setIfInBounds_toArray, List.set_cons_zero, List.set_cons_succ])
  refine wpAnyH_take (i := 1) (v := ?_) (by rfl) (by kernel_rfl) (by kernel_rfl) (by kernel_rfl) (fun _ _ _ h => h) (Or.inl ⟨by kernel_rfl, ?_⟩) (by assumption) ?_; rotate_left 1; (focus (intro w hSw; (try dsimp only at hSw); simp only [List.getElem_toArray, List.getElem_cons_succ, List.getElem_cons_zero]; all_goals go_simp; all_goals (try with_reducible rfl))); (try simp only [Act.put, List.getElem_toArray, List.getElem_cons_succ, List.getElem_cons_zero, List.setIfInBounds_toArray, List.set_cons_zero, List.set_cons_succ])
  refine wpAnyH_take (i := 2) (v := ?_) (by rfl) (by kernel_rfl) (by kernel_rfl) (by kernel_rfl) (fun _ _ _ h => h) (Or.inl ⟨by kernel_rfl, ?_⟩) (by assumption) ?_; rotate_left 1; (focus (intro w hSw; (try dsimp only at hSw); simp only [List.getElem_toArray, List.getElem_cons_succ, List.getElem_cons_zero]; all_goals go_simp; all_goals (try with_reducible rfl))); (try simp only [Act.put, List.getElem_toArray, List.getElem_cons_succ, List.getElem_cons_zero, List.setIfInBounds_toArray, List.set_cons_zero, List.set_cons_succ])
  refine wpAnyH_take (i := 3) (v := ?_) (by rfl) (by kernel_rfl) (by kernel_rfl) (by kernel_rfl) (fun _ _ _ h => h) (Or.inl ⟨by kernel_rfl, ?_⟩) (by assumption) ?_; rotate_left 1; (focus (intro w hSw; (try dsimp only at hSw); simp only [List.getElem_toArray, List.getElem_cons_succ, List.getElem_cons_zero]; all_goals go_simp; all_goals (try with_reducible rfl))); (try simp only [Act.put, List.getElem_toArray, List.getElem_cons_succ, List.getElem_cons_zero, List.setIfInBounds_toArray, List.set_cons_zero, List.set_cons_succ])
  refine wpAnyH_take (i := 4) (v := ?_) (by rfl) (by kernel_rfl) (by kernel_rfl) (by kernel_rfl) (fun _ _ _ h => h) (Or.inl ⟨by kernel_rfl, ?_⟩) (by assumption) ?_; rotate_left 1; (focus (intro w hSw; (try dsimp only at hSw); simp only [List.getElem_toArray, List.getElem_cons_succ, List.getElem_cons_zero]; all_goals go_simp; all_goals (try with_reducible rfl))); (try simp only [Act.put, List.getElem_toArray, List.getElem_cons_succ, List.getElem_cons_zero, List.setIfInBounds_toArray, List.set_cons_zero, List.set_cons_succ])
  refine wpAnyH_take (i := 5) (v := ?_) (by rfl) (by kernel_rfl) (by kernel_rfl) (by kernel_rfl) (fun _ _ _ h => h) (Or.inl ⟨by kernel_rfl, ?_⟩) (by assumption) ?_; rotate_left 1; (focus (intro w hSw; (try dsimp only at hSw); simp only [List.getElem_toArray, List.getElem_cons_succ, List.getElem_cons_zero]; all_goals go_simp; all_goals (try with_reducible rfl))); (try simp only [Act.put, List.getElem_toArray, List.getElem_cons_succ, List.getElem_cons_zero, List.setIfInBounds_toArray, List.set_cons_zero, List.set_cons_succ])
  refine wpAnyH_take (i := 6) (v := ?_) (by rfl) (by kernel_rfl) (by kernel_rfl) (by kernel_rfl) (fun _ _ _ h => h) (Or.inl ⟨by kernel_rfl, ?_⟩) (by assumption) ?_; rotate_left 1; (focus (intro w hSw; (try dsimp only at hSw); simp only [List.getElem_toArray, List.getElem_cons_succ, List.getElem_cons_zero]; all_goals go_simp; all_goals (try with_reducible rfl))); (try simp only [Act.put, List.getElem_toArray, List.getElem_cons_succ, List.getElem_cons_zero, List.setIfInBounds_toArray, List.set_cons_zero, List.set_cons_succ])
  refine wpAnyH_take (i := 7) (v := ?_) (by rfl) (by kernel_rfl) (by kernel_rfl) (by kernel_rfl) (fun _ _ _ h => h) (Or.inl ⟨by kernel_rfl, ?_⟩) (by assumption) ?_; rotate_left 1; (focus (intro w hSw; (try dsimp only at hSw); simp only [List.getElem_toArray, List.getElem_cons_succ, List.getElem_cons_zero]; all_goals go_simp; all_goals (try with_reducible rfl))); (try simp only [Act.put, List.getElem_toArray, List.getElem_cons_succ, List.getElem_cons_zero, List.setIfInBounds_toArray, List.set_cons_zero, List.set_cons_succ])
  refine wpAnyH_take (i := 8) (v := ?_) (by rfl) (by kernel_rfl) (by kernel_rfl) (by kernel_rfl) (fun _ _ _ h => h) (Or.inl ⟨by kernel_rfl, ?_⟩) (by assumption) ?_; rotate_left 1; (focus (intro w hSw; (try dsimp only at hSw); simp only [List.getElem_toArray, List.getElem_cons_succ, List.getElem_cons_zero]; all_goals go_simp; all_goals (try with_reducible rfl))); (try simp only [Act.put, List.getElem_toArray, List.getElem_cons_succ, List.getElem_cons_zero, List.setIfInBounds_toArray, List.set_cons_zero, List.set_cons_succ])
  refine wpAnyH_take (i := 9) (v := ?_) (by rfl) (by kernel_rfl) (by kernel_rfl) (by kernel_rfl) (fun _ _ _ h => h) (Or.inl ⟨by kernel_rfl, ?_⟩) (by assumption) ?_; rotate_left 1; (focus (intro w hSw; (try dsimp only at hSw); simp only [List.getElem_toArray, List.getElem_cons_succ, List.getElem_cons_zero]; all_goals go_simp; all_goals (try with_reducible rfl))); (try simp only [Act.put, List.getElem_toArray, List.getElem_cons_succ, List.getElem_cons_zero, List.setIfInBounds_toArray, List.set_cons_zero, List.set_cons_succ])
  refine wpAnyH_take (i := 10) (v := ?_) (by rfl) (by kernel_rfl) (by kernel_rfl) (by kernel_rfl) (fun _ _ _ h => h) (Or.inl ⟨by kernel_rfl, ?_⟩) (by assumption) ?_; rotate_left 1; (focus (intro w hSw; (try dsimp only at hSw); simp only [List.getElem_toArray, List.getElem_cons_succ, List.getElem_cons_zero]; all_goals go_simp; all_goals (try with_reducible rfl))); (try simp only [Act.put, List.getElem_toArray, List.getElem_cons_succ, List.getElem_cons_zero, List.setIfInBounds_toArray, List.set_cons_zero, List.set_cons_succ])
  refine wpAnyH_ready (rs := [11]) (by kernel_rfl) (by simp) ?_; refine AllReadyH.cons (by rfl) (fun K hK => ?_) AllReadyH.nil; rw [if_pos (by kernel_rfl)]; simp only [List.getElem_toArray, List.getElem_cons_succ, List.getElem_cons_zero]
  go_wp2_with (first
    | (go_at_call 19; (with_reducible refine (nmake_ok vs vr a m c2 kk hx hk j hj hyes hno v hv _ HEd.out HD.out.mm.sv.st.nd HSr.out).mono ?_); rintro e w2 ⟨rfl, hP2, hb2⟩; have HB2 := Lib.hid (HBD.out.trans hb2); have HW2 := Lib.hid (HD.out.node hP2 hb2); clear hP2 hb2))
  refine hK.out _ _ (HS7.out _ HW2.out (UpT.pb HB2.out (by have := HLT.out; omega) (by have := HLT.out; omega))) (fun hHeld => ?_)
  clear hK K
  (try simp only [Act.put, List.getElem_toArray, List.getElem_cons_succ, List.getElem_cons_zero, List.setIfInBounds_toArray, List.set_cons_zero, List.set_cons_succ])
  refine wpAnyH_take (i := 12) (v := ?_) (by rfl) (by kernel_rfl) (by kernel_rfl) (by kernel_rfl) (fun _ _ _ h => h) (Or.inl ⟨by kernel_rfl, ?_⟩) (by assumption) ?_; rotate_left 1; (focus (intro w hSw; (try dsimp only at hSw); simp only [List.getElem_toArray, List.getElem_cons_succ, List.getElem_cons_zero]; all_goals go_simp; all_goals (try with_reducible rfl))); (try simp only [Act.put, List.getElem_toArray, List.getElem_cons_succ, List.getElem_cons_zero, List.setIfInBounds_toArray, List.set_cons_zero, List.set_cons_succ])
  refine wpAnyH_take (i := 13) (v := ?_) (by rfl) (by kernel_rfl) (by kernel_rfl) (by kernel_rfl) (fun _ _ _ h => h) (Or.inl ⟨by kernel_rfl, ?_⟩) (by assumption) ?_; rotate_left 1; (focus (intro w hSw; (try dsimp only at hSw); simp only [List.getElem_toArray, List.getElem_cons_succ, List.getElem_cons_zero]; all_goals go_simp; all_goals (try with_reducible rfl))); (try simp only [Act.put, List.getElem_toArray, List.getElem_cons_succ, List.getElem_cons_zero, List.setIfInBounds_toArray, List.set_cons_zero, List.set_cons_succ])
  refine wpAnyH_take (i := 14) (v := ?_) (by rfl) (by kernel_rfl) (by kernel_rfl) (by kernel_rfl) (fun _ _ _ h => h) (Or.inl ⟨by kernel_rfl, ?_⟩) (by assumption) ?_; rotate_left 1; (focus (intro w hSw; (try dsimp only at hSw); simp only [List.getElem_toArray, List.getElem_cons_succ, List.getElem_cons_zero]; all_goals go_simp; all_goals (try with_reducible rfl))); (try simp only [Act.put, List.getElem_toArray, List.getElem_cons_succ, List.getElem_cons_zero, List.setIfInBounds_toArray, List.set_cons_zero, List.set_cons_succ])
  refine wpAnyH_take (i := 15) (v := ?_) (by rfl) (by kernel_rfl) (by kernel_rfl) (by kernel_rfl) (fun _ _ _ h => h) (Or.inl ⟨by kernel_rfl, ?_⟩) (by assumption) ?_; rotate_left 1; (focus (intro w hSw; (try dsimp only at hSw); simp only [List.getElem_toArray, List.getElem_cons_succ, List.getElem_cons_zero]; all_goals go_simp; all_goals (try with_reducible rfl))); (try simp only [Act.put, List.getElem_toArray, List.getElem_cons_succ, List.getElem_cons_zero, List.setIfInBounds_toArray, List.set_cons_zero, List.set_cons_succ])
  refine wpAnyH_take (i := 16) (v := ?_) (by rfl) (by kernel_rfl) (by kernel_rfl) (by kernel_rfl) (fun _ _ _ h => h) (Or.inl ⟨by kernel_rfl, ?_⟩) (by assumption) ?_; rotate_left 1; (focus (intro w hSw; (try dsimp only at hSw); simp only [List.getElem_toArray, List.getElem_cons_succ, List.getElem_cons_zero]; all_goals go_simp; all_goals (try with_reducible rfl))); (try simp only [Act.put, List.getElem_toArray, List.getElem_cons_succ, List.getElem_cons_zero, List.setIfInBounds_toArray, List.set_cons_zero, List.set_cons_succ])
  refine wpAnyH_take (i := 17) (v := ?_) (by rfl) (by kernel_rfl) (by kernel_rfl) (by kernel_rfl) (fun _ _ _ h => h) (Or.inl ⟨by kernel_rfl, ?_⟩) (by assumption) ?_; rotate_left 1; (focus (intro w hSw; (try dsimp only at hSw); simp only [List.getElem_toArray, List.getElem_cons_succ, List.getElem_cons_zero]; all_goals go_simp; all_goals (try with_reducible rfl))); (try simp only [Act.put, List.getElem_toArray, List.getElem_cons_succ, List.getElem_cons_zero, List.setIfInBounds_toArray, List.set_cons_zero, List.set_cons_succ])
  refine wpAnyH_done (by kernel_rfl) ?_ _
  refine NoPanic.normal ?_
  go_wp2_with fail
  go_ret3
  exact ⟨rfl, HW2.out, HB2.out⟩
set_option maxRecDepth 100000 in
set_option maxHeartbeats 2000000 in
theorem bbuyn_ok {w0 : World} {L : BLoc} {D : BSt} (q : Nat) (hq : q < D.nb) (x y j : Nat) (v : Int) (nW' : Nat → Nat → Value) (hj : j < L.a.n) (hfull : Hid ((chL D.pr q).any (fullB D.us D.lm) = false)) (hu : Hid (∀ i, i < L.n → -1000000 ≤ D.us i ∧ D.us i ≤ 1000000)) (w : World) (h : BW w0 w L D)
    (hcl : ∀ W, Below w.heap.size w W → Calls Tryd.prog 148 #[.pointer (some ⟨x, 0, none⟩), .pointer (some ⟨y, 0, none⟩)] W fun e w' => e = .returned (.tuple #[.int .i64 j, .int .i64 v, .nilIface]) ∧ BW w0 w' L { D with nt := upd D.nt j true, nW := nW' } ∧ PBelow W w' L.a.B L.a.G) :
    Calls Tryd.prog 146 #[.pointer (some ⟨L.P, 0, none⟩), .int .i64 (q : Int), .slice (some ⟨L.G1, 0, none⟩) 256 256, .nilIface, (Value.func (.func 148) #[] #[.pointer (some ⟨x, 0, none⟩), .pointer (some ⟨y, 0, none⟩)])] w fun e w' => e = .returned (.tuple #[.int .i64 j, .int .i64 v, .nilIface]) ∧ BW w0 w' L (boughtN D q j v nW') ∧ UpT L.T w w' := by
  have H := Lib.hid h
  have HCl := Lib.hid hcl
  have hn := h.n256
  have hpn := h.an
  have hnn := h.nn
  have hin := chL_in h.pk h.nn (by omega) q hq
  obtain ⟨l, hl⟩ : ∃ l, Hid (chL D.pr q = l) := ⟨_, Lib.hid rfl⟩
  rw [hl.out] at hin hfull
  obtain ⟨m, hm⟩ : ∃ m, Hid (l.length = m) := ⟨_, Lib.hid rfl⟩
  have hm1 : m ≤ 1000 := by rw [← hm.out]; omega
  have HIn := Lib.hid hin.1
  have HNd := Lib.hid hin.2.2
  have HPk := Lib.hid h.pk
  have HLT := Lib.hid h.lowT
  have HTT := Lib.hid h.tt
  have HTw := Lib.hid h.tw
  have f0 := h.kk.f0
  have k0 : (0 : Int) ≤ j := by omega
  have k1 : (j : Int) < 256 := by omega
  clear h hcl hin
  go_enter Tryd.func146, Tryd.ntmps146
  go_wp2_with (first
    | (go_at_call 25; (with_reducible refine (athere_in q (by omega) true (Lib.hid (thN_at hq)) _ H.out.kk.ar).mono ?_); rintro e w1 ⟨rfl, rfl⟩)
    | (go_at_call 155; (with_reducible refine (bchain_is (q : Int) D.nb (by omega) (by omega) hnn (Lib.hid (fun i hi => thN_at hi)) HPk _ H.out.kk).mono ?_); rintro e w1 ⟨v9, rfl, hr, hb⟩; rw [hl.out] at hr; obtain ⟨a9, c9, hv9⟩ := own_slice hr m hm; have HRw := Lib.hid (rowT hr hv9 hm.out HTw.out); subst hv9; have H1 := Lib.hid (H.out.below hb); have HB1 := Lib.hid hb; clear hr hb f0)
    | (go_at_call 186; (with_reducible refine (bcf_is l m hm hm1 a9 c9 HIn false hfull _ H1.out.kk (fun i hi => by obtain ⟨g, h1, h2, h3, h4⟩ := HRw.out w1 (UpT.refl _ _) i hi; exact ⟨g, h1, h3, h4⟩)).mono ?_); rintro e w2 ⟨rfl, hb⟩; have HB2 := Lib.hid hb; clear hb)
    | (go_at_call 148; (with_reducible refine (HCl.out _ (HB1.out.trans (HB2.out.mono HB1.out.size))).mono ?_); rintro e w3 ⟨rfl, hW, hb⟩; have H3 := Lib.hid hW; have HU3 := Lib.hid ((UpT.below HB2.out).trans (UpT.pb hb (T := L.T) (by have := HLT.out; omega) (by have := HLT.out; omega))); have ht := hW.kk.t1.ti j (by omega); obtain ⟨c0, c1⟩ := ht; have z0 := hW.kk.t1.fr (j * 2); have z1 := hW.kk.t1.fr (j * 2 + 1); have HS := Lib.hid (hW.kk.t1.title j (by omega) q v); have H4 := Lib.hid (hW.kk.ti1 HS.out.1 HS.out.2); have HU4 := Lib.hid (HU3.out.trans (UpT.grown HS.out.2 (T := L.T) (by have := HTT.out; omega))); clear hW hb)
    | (go_at_call 159; (with_reducible refine (bcount_is l m hm hm1 a9 c9 HIn HNd 1 (by decide) hu _ H4.out (fun i hi => by obtain ⟨g, h1, h2, h3, h4⟩ := HRw.out _ HU4.out i hi; exact ⟨g, h1, h3, by have := HTT.out; omega, h4⟩)).mono ?_); rintro e w5 ⟨rfl, hB, hg⟩; have H5 := Lib.hid hB; have HG5 := Lib.hid hg; clear hB hg c0 c1 z0 z1))
  go_ret3
  refine ⟨rfl, ?_, ((UpT.below HB1.out).trans HU4.out).trans (UpT.grown HG5.out (by have := HTT.out; omega))⟩
  have hlo : Below L.bB w3 w5 := by
    refine (low_of HS.out.2 H3.out.kk.t1.lt.1 H3.out.bl).trans (low_of HG5.out H3.out.kk.ac.lt.1 ?_)
    exact Nat.le_trans H3.out.bl HS.out.2.size
  refine BW.bank H3.out (D' := boughtN D q j v nW') ?_ hlo rfl HPk.out hnn
  have := H5.out
  rw [← hl.out] at this
  exact this
set_option maxRecDepth 100000 in
set_option maxHeartbeats 2000000 in
theorem bnode_ok {w0 : World} {L : BLoc} {D : BSt} (q : Nat) (hq : q < D.nb) (vs vr : Value) (a : Option Addr) (m c2 : Nat) (kk : Nat → Nat → Int) (hk : Hid (∀ i, i < m → KRight kk i)) (hx0 : m ≤ 16) (j : Nat) (hj : j < L.a.n) (hyes : Hid (freeB D.nt D.nv j = true)) (hno : Hid (∀ i, i < j → freeB D.nt D.nv i = false)) (v : Int) (hv : Hid (D.nv j = v)) (hfull : Hid ((chL D.pr q).any (fullB D.us D.lm) = false)) (hu : Hid (∀ i, i < L.n → -1000000 ≤ D.us i ∧ D.us i ≤ 1000000)) (w : World) (h : BW w0 w L D) (hE : ErrsAt vs vr w) (hs : SrcV L w a m kk) :
    Calls Tryd.prog 80 #[.pointer (some ⟨L.P, 0, none⟩), .int .i64 (q : Int), .slice a m c2] w fun e w' => e = .returned (.tuple #[.int .i64 j, .int .i64 v, .nilIface]) ∧ BW w0 w' L (boughtN D q j v (freshV D.nW j (kcs kk m))) ∧ UpT L.T w w' := by
  have H := Lib.hid h
  have HS := Lib.hid hs
  have HLT := Lib.hid h.lowT
  have HTw := Lib.hid h.tw
  have HE := Lib.hid hE
  clear h hs hE
  go_enter Tryd.func80, Tryd.ntmps80
  go_upto_region 1 with fail
  generalize hw2 : World.alloc (World.alloc w _) _ = w2
  have HB2 : Hid (Below w.heap.size w w2) := Lib.hid (by rw [← hw2]; exact ((Below.refl _ _).alloc (Nat.le_refl _) _).alloc (by simp) _)
  have HX : Hid (∀ W, UpT w.heap.size w2 W → World.cell? W ⟨w.heap.size, 0, none⟩ = some (.pointer (some ⟨L.P, 0, none⟩)) ∧ World.cell? W ⟨w.heap.size + 1, 0, none⟩ = some (.slice a m c2)) := Lib.hid (fun W hu => by
    have e1 : w2.cell? ⟨w.heap.size, 0, none⟩ = some (.pointer (some ⟨L.P, 0, none⟩)) := by rw [← hw2]; simp
    have e2 : w2.cell? ⟨w.heap.size + 1, 0, none⟩ = some (.slice a m c2) := by rw [← hw2]; simp
    have sz : w2.heap.size = w.heap.size + 1 + 1 := by rw [← hw2]; simp
    exact ⟨(World.cell?_of_block (a := ⟨w.heap.size, 0, none⟩) (hu.2 w.heap.size (by omega) (by omega))).trans e1, (World.cell?_of_block (a := ⟨w.heap.size + 1, 0, none⟩) (hu.2 (w.heap.size + 1) (by omega) (by omega))).trans e2⟩)
  have HSz : Hid (w2.heap.size = w.heap.size + 1 + 1) := Lib.hid (by rw [← hw2]; simp)
  clear hw2
  obtain ⟨wD, hwD⟩ : ∃ wD, wD = w2.drew := ⟨_, rfl⟩
  have HBD : Hid (Below w2.heap.size w2 wD) := Lib.hid (by rw [hwD]; exact (Below.refl _ _).drew)
  have HS7 : Hid (∀ W D', BW w0 W L D' → UpT w.heap.size w2 W → (World.cell? W ⟨w.heap.size, 0, none⟩ = some (.pointer (some ⟨L.P, 0, none⟩)) ∧ World.cell? W ⟨L.P, 4, none⟩ = some (.slice (some ⟨L.G1, 0, none⟩) 256 256) ∧ World.cell? W ⟨w.heap.size + 1, 0, none⟩ = some (.slice a m c2))) := Lib.hid (fun W D' hW hu => ⟨(HX.out W hu).1, hW.kk.f4, (HX.out W hu).2⟩)
  have HWD := Lib.hid ((H.out.below HB2.out).below HBD.out)
  have HEd := Lib.hid ((HE.out.up HB2.out).up HBD.out)
  have hS0 := HS7.out _ _ HWD.out (UpT.below HBD.out)
  refine wp_region_noPanic ?_
  refine wp_region_held_drew (S := fun w' => (World.cell? w' ⟨w.heap.size, 0, none⟩ = some (.pointer (some ⟨L.P, 0, none⟩)) ∧ World.cell? w' ⟨L.P, 4, none⟩ = some (.slice (some ⟨L.G1, 0, none⟩) 256 256) ∧ World.cell? w' ⟨w.heap.size + 1, 0, none⟩ = some (.slice a m c2))) (by kernel_rfl) (by rw [← hwD]; exact hS0) (fun hHeld => ?_)
  rw [← hwD] at hHeld ⊢
  clear hwD hS0
  refine wpAnyH_take (i := 0) (v := ?_) (by rfl) (by kernel_rfl) (by kernel_rfl) (by kernel_rfl) (fun _ _ _ h => h) (Or.inl ⟨by kernel_rfl, ?_⟩) (by assumption) ?_; rotate_left 1; (focus (intro w hSw; (try dsimp only at hSw); simp only [List.getElem_toArray, List.getElem_cons_succ, List.getElem_cons_zero]; all_goals go_simp; all_goals (try with_reducible rfl))); (try simp only [Act.put, List.getElem_toArray, List.getElem_cons_succ, List.getElem_cons_zero, List.setIfInBounds_toArray, List.set_cons_zero, List.set_cons_succ])
  refine wpAnyH_take (i := 1) (v := ?_) (by rfl) (by kernel_rfl) (by kernel_rfl) (by kernel_rfl) (fun _ _ _ h => h) (Or.inl ⟨by kernel_rfl, ?_⟩) (by assumption) ?_; rotate_left 1; (focus (intro w hSw; (try dsimp only at hSw); simp only [List.getElem_toArray, List.getElem_cons_succ, List.getElem_cons_zero]; all_goals go_simp; all_goals (try with_reducible rfl))); (try simp only [Act.put, List.getElem_toArray, List.getElem_cons_succ, List.getElem_cons_zero, List.setIfInBounds_toArray, List.set_cons_zero, List.set_cons_succ])
  refine wpAnyH_take (i := 2) (v := ?_) (by rfl) (by kernel_rfl) (by kernel_rfl) (by kernel_rfl) (fun _ _ _ h => h) (Or.inl ⟨by kernel_rfl, ?_⟩) (by assumption) ?_; rotate_left 1; (focus (intro w hSw; (try dsimp only at hSw); simp only [List.getElem_toArray, List.getElem_cons_succ, List.getElem_cons_zero]; all_goals go_simp; all_goals (try with_reducible rfl))); (try simp only [Act.put, List.getElem_toArray, List.getElem_cons_succ, List.getElem_cons_zero, List.setIfInBounds_toArray, List.set_cons_zero, List.set_cons_succ])
  refine wpAnyH_take (i := 3) (v := ?_) (by rfl) (by kernel_rfl) (by kernel_rfl) (by kernel_rfl) (fun _ _ _ h => h) (Or.inl ⟨by kernel_rfl, ?_⟩) (by assumption) ?_; rotate_left 1; (focus (intro w hSw; (try dsimp only at hSw); simp only [List.getElem_toArray, List.getElem_cons_succ, List.getElem_cons_zero]; all_goals go_simp; all_goals (try with_reducible rfl))); (try simp only [Act.put, List.getElem_toArray, List.getElem_cons_succ, List.getElem_cons_zero, List.setIfInBounds_toArray, List.set_cons_zero, List.set_cons_succ])
  refine wpAnyH_take (i := 4) (v := ?_) (by rfl) (by kernel_rfl) (by kernel_rfl) (by kernel_rfl) (fun _ _ _ h => h) (Or.inl ⟨by kernel_rfl, ?_⟩) (by assumption) ?_; rotate_left 1; (focus (intro w hSw; (try dsimp only at hSw); simp only [List.getElem_toArray, List.getElem_cons_succ, List.getElem_cons_zero]; all_goals go_simp; all_goals (try with_reducible rfl))); (try simp only [Act.put, List.getElem_toArray, List.getElem_cons_succ, List.getElem_cons_zero, List.setIfInBounds_toArray, List.set_cons_zero, List.set_cons_succ])
  refine wpAnyH_take (i := 5) (v := ?_) (by rfl) (by kernel_rfl) (by kernel_rfl) (by kernel_rfl) (fun _ _ _ h => h) (Or.inl ⟨by kernel_rfl, ?_⟩) (by assumption) ?_; rotate_left 1; (focus (intro w hSw; (try dsimp only at hSw); simp only [List.getElem_toArray, List.getElem_cons_succ, List.getElem_cons_zero]; all_goals go_simp; all_goals (try with_reducible rfl))); (try simp only [Act.put, List.getElem_toArray, List.getElem_cons_succ, List.getElem_cons_zero, List.setIfInBounds_toArray, List.set_cons_zero, List.set_cons_succ])
  refine wpAnyH_take (i := 6) (v := ?_) (by rfl) (by kernel_rfl) (by kernel_rfl) (by kernel_rfl) (fun _ _ _ h => h) (Or.inl ⟨by kernel_rfl, ?_⟩) (by assumption) ?_; rotate_left 1; (focus (intro w hSw; (try dsimp only at hSw); simp only [List.getElem_toArray, List.getElem_cons_succ, List.getElem_cons_zero]; all_goals go_simp; all_goals (try with_reducible rfl))); (try simp only [Act.put, List.getElem_toArray, List.getElem_cons_succ, List.getElem_cons_zero, List.setIfInBounds_toArray, List.set_cons_zero, List.set_cons_succ])
  refine wpAnyH_take (i := 8) (v := ?_) (by rfl) (by kernel_rfl) (by kernel_rfl) (by kernel_rfl) (fun _ _ _ h => h) (Or.inl ⟨by kernel_rfl, ?_⟩) (by assumption) ?_; rotate_left 1; (focus (intro w hSw; (try dsimp only at hSw); simp only [List.getElem_toArray, List.getElem_cons_succ, List.getElem_cons_zero]; all_goals go_simp; all_goals (try with_reducible rfl))); (try simp only [Act.put, List.getElem_toArray, List.getElem_cons_succ, List.getElem_cons_zero, List.setIfInBounds_toArray, List.set_cons_zero, List.set_cons_succ])
  refine wpAnyH_ready (rs := [7]) (by kernel_rfl) (by simp) ?_; refine AllReadyH.cons (by rfl) (fun K hK => ?_) AllReadyH.nil; rw [if_pos (by kernel_rfl)]; simp only [List.getElem_toArray, List.getElem_cons_succ, List.getElem_cons_zero]
  go_wp2_with (first
    | (go_at_call 147; (with_reducible refine (bnodeof_ok vs vr a m c2 kk hk hx0 _ HEd.out (fun B G hB hG => HS.out.run _ (HB2.out.trans (HBD.out.mono HB2.out.size)) B G (.inr (Nat.le_trans (Nat.le_trans HB2.out.size HBD.out.size) hB)) (.inr (Nat.le_trans (Nat.le_trans HB2.out.size HBD.out.size) hG)))).mono ?_); rintro e w3 ⟨rfl, hb⟩; have HB3 := Lib.hid (HBD.out.trans (hb.mono HBD.out.size)); have HW3 := Lib.hid (HWD.out.below hb); clear hb))
  refine hK.out _ _ (HS7.out _ _ HW3.out (UpT.below HB3.out)) (fun hHeld => ?_)
  clear hK K
  (try simp only [Act.put, List.getElem_toArray, List.getElem_cons_succ, List.getElem_cons_zero, List.setIfInBounds_toArray, List.set_cons_zero, List.set_cons_succ])
  refine wpAnyH_ready (rs := [9]) (by kernel_rfl) (by simp) ?_; refine AllReadyH.cons (by rfl) (fun K hK => ?_) AllReadyH.nil; rw [if_pos (by kernel_rfl)]; simp only [List.getElem_toArray, List.getElem_cons_succ, List.getElem_cons_zero]
  have HCl : Hid (∀ W, Below w3.heap.size w3 W → Calls Tryd.prog 148 #[.pointer (some ⟨w.heap.size, 0, none⟩), .pointer (some ⟨w.heap.size + 1, 0, none⟩)] W fun e w' => e = .returned (.tuple #[.int .i64 j, .int .i64 v, .nilIface]) ∧ BW w0 w' L { D with nt := upd D.nt j true, nW := freshV D.nW j (kcs kk m) } ∧ PBelow W w' L.a.B L.a.G) := Lib.hid (fun W hb => by
    have hbw : Below w2.heap.size w2 W := HB3.out.trans (hb.mono HB3.out.size)
    have hx := HX.out W (UpT.below hbw)
    have h1 := hbw.size
    have h2 := HSz.out
    have h3 := HTw.out
    have h4 := HLT.out
    exact bndcl_ok w.heap.size (w.heap.size + 1) vs vr a m c2 kk hk hx0 j hj hyes hno v hv W (HW3.out.below hb) (by omega) hx.1 hx.2 ((HE.out.up (HB2.out.trans (hbw.mono HB2.out.size)))) (HS.out.run W (HB2.out.trans (hbw.mono HB2.out.size)) _ _ (.inl (by omega)) (.inl (by omega))))
  go_wp2_with (first
    | (go_at_call 146; (with_reducible refine (bbuyn_ok q hq w.heap.size (w.heap.size + 1) j v _ hj hfull hu _ HW3.out HCl.out).mono ?_); rintro e w4 ⟨rfl, hW, hu4⟩; have HW4 := Lib.hid hW; have HU4 := Lib.hid hu4; clear hW hu4))
  refine hK.out _ _ (HS7.out _ _ HW4.out ((UpT.below HB3.out).trans ⟨HU4.out.1, fun k h1 h2 => HU4.out.2 k (Nat.le_trans HTw.out h1) h2⟩)) (fun hHeld => ?_)
  clear hK K
  (try simp only [Act.put, List.getElem_toArray, List.getElem_cons_succ, List.getElem_cons_zero, List.setIfInBounds_toArray, List.set_cons_zero, List.set_cons_succ])
  refine wpAnyH_take (i := 10) (v := ?_) (by rfl) (by kernel_rfl) (by kernel_rfl) (by kernel_rfl) (fun _ _ _ h => h) (Or.inl ⟨by kernel_rfl, ?_⟩) (by assumption) ?_; rotate_left 1; (focus (intro w hSw; (try dsimp only at hSw); simp only [List.getElem_toArray, List.getElem_cons_succ, List.getElem_cons_zero]; all_goals go_simp; all_goals (try with_reducible rfl))); (try simp only [Act.put, List.getElem_toArray, List.getElem_cons_succ, List.getElem_cons_zero, List.setIfInBounds_toArray, List.set_cons_zero, List.set_cons_succ])
  refine wpAnyH_take (i := 11) (v := ?_) (by rfl) (by kernel_rfl) (by kernel_rfl) (by kernel_rfl) (fun _ _ _ h => h) (Or.inl ⟨by kernel_rfl, ?_⟩) (by assumption) ?_; rotate_left 1; (focus (intro w hSw; (try dsimp only at hSw); simp only [List.getElem_toArray, List.getElem_cons_succ, List.getElem_cons_zero]; all_goals go_simp; all_goals (try with_reducible rfl))); (try simp only [Act.put, List.getElem_toArray, List.getElem_cons_succ, List.getElem_cons_zero, List.setIfInBounds_toArray, List.set_cons_zero, List.set_cons_succ])
  refine wpAnyH_take (i := 12) (v := ?_) (by rfl) (by kernel_rfl) (by kernel_rfl) (by kernel_rfl) (fun _ _ _ h => h) (Or.inl ⟨by kernel_rfl, ?_⟩) (by assumption) ?_; rotate_left 1; (focus (intro w hSw; (try dsimp only at hSw); simp only [List.getElem_toArray, List.getElem_cons_succ, List.getElem_cons_zero]; all_goals go_simp; all_goals (try with_reducible rfl))); (try simp only [Act.put, List.getElem_toArray, List.getElem_cons_succ, List.getElem_cons_zero, List.setIfInBounds_toArray, List.set_cons_zero, List.set_cons_succ])
  refine wpAnyH_take (i := 13) (v := ?_) (by rfl) (by kernel_rfl) (by kernel_rfl) (by kernel_rfl) (fun _ _ _ h => h) (Or.inl ⟨by kernel_rfl, ?_⟩) (by assumption) ?_; rotate_left 1; (focus (intro w hSw; (try dsimp only at hSw); simp only [List.getElem_toArray, List.getElem_cons_succ, List.getElem_cons_zero]; all_goals go_simp; all_goals (try with_reducible rfl))); (try simp only [Act.put, List.getElem_toArray, List.getElem_cons_succ, List.getElem_cons_zero, List.setIfInBounds_toArray, List.set_cons_zero, List.set_cons_succ])
  refine wpAnyH_take (i := 14) (v := ?_) (by rfl) (by kernel_rfl) (by kernel_rfl) (by kernel_rfl) (fun _ _ _ h => h) (Or.inl ⟨by kernel_rfl, ?_⟩) (by assumption) ?_; rotate_left 1; (focus (intro w hSw; (try dsimp only at hSw); simp only [List.getElem_toArray, List.getElem_cons_succ, List.getElem_cons_zero]; all_goals go_simp; all_goals (try with_reducible rfl))); (try simp only [Act.put, List.getElem_toArray, List.getElem_cons_succ, List.getElem_cons_zero, List.setIfInBounds_toArray, List.set_cons_zero, List.set_cons_succ])
  refine wpAnyH_take (i := 15) (v := ?_) (by rfl) (by kernel_rfl) (by kernel_rfl) (by kernel_rfl) (fun _ _ _ h => h) (Or.inl ⟨by kernel_rfl, ?_⟩) (by assumption) ?_; rotate_left 1; (focus (intro w hSw; (try dsimp only at hSw); simp only [List.getElem_toArray, List.getElem_cons_succ, List.getElem_cons_zero]; all_goals go_simp; all_goals (try with_reducible rfl))); (try simp only [Act.put, List.getElem_toArray, List.getElem_cons_succ, List.getElem_cons_zero, List.setIfInBounds_toArray, List.set_cons_zero, List.set_cons_succ])
  refine wpAnyH_done (by kernel_rfl) ?_ _
  refine NoPanic.normal ?_
  go_wp2_with fail
  go_ret3
  exact ⟨rfl, HW4.out, ((UpT.below HB2.out).trans (UpT.below HB3.out)).trans HU4.out⟩
set_option maxRecDepth 100000 in
set_option maxHeartbeats 2000000 in
theorem bnode_limit {w0 : World} {L : BLoc} {D : BSt} (q : Nat) (hq : q < D.nb) (vs vr : Value) (a : Option Addr) (m c2 : Nat) (kk : Nat → Nat → Int) (hk : Hid (∀ i, i < m → KRight kk i)) (hx0 : m ≤ 16) (hfull : Hid ((chL D.pr q).any (fullB D.us D.lm) = true)) (v : Value) (w : World) (h : BW w0 w L D) (hEr : ErrsAt vs vr w) (hs : SrcV L w a m kk) (hE : w.cell? ⟨7, 0, none⟩ = some v) (hlt : 7 < w.heap.size) :
    Calls Tryd.prog 80 #[.pointer (some ⟨L.P, 0, none⟩), .int .i64 (q : Int), .slice a m c2] w fun e w' => e = .returned (.tuple #[.int .i64 0, .int .i64 0, v]) ∧ Below w.heap.size w w' := by
  have H := Lib.hid h
  have HS := Lib.hid hs
  have HLT := Lib.hid h.lowT
  have HTw := Lib.hid h.tw
  have HEr := Lib.hid hEr
  clear h hs hEr
  go_enter Tryd.func80, Tryd.ntmps80
  go_upto_region 1 with fail
  generalize hw2 : World.alloc (World.alloc w _) _ = w2
  have HB2 : Hid (Below w.heap.size w w2) := Lib.hid (by rw [← hw2]; exact ((Below.refl _ _).alloc (Nat.le_refl _) _).alloc (by simp) _)
  have HX : Hid (∀ W, UpT w.heap.size w2 W → World.cell? W ⟨w.heap.size, 0, none⟩ = some (.pointer (some ⟨L.P, 0, none⟩)) ∧ World.cell? W ⟨w.heap.size + 1, 0, none⟩ = some (.slice a m c2)) := Lib.hid (fun W hu => by
    have e1 : w2.cell? ⟨w.heap.size, 0, none⟩ = some (.pointer (some ⟨L.P, 0, none⟩)) := by rw [← hw2]; simp
    have e2 : w2.cell? ⟨w.heap.size + 1, 0, none⟩ = some (.slice a m c2) := by rw [← hw2]; simp
    have sz : w2.heap.size = w.heap.size + 1 + 1 := by rw [← hw2]; simp
    exact ⟨(World.cell?_of_block (a := ⟨w.heap.size, 0, none⟩) (hu.2 w.heap.size (by omega) (by omega))).trans e1, (World.cell?_of_block (a := ⟨w.heap.size + 1, 0, none⟩) (hu.2 (w.heap.size + 1) (by omega) (by omega))).trans e2⟩)
  have HSz : Hid (w2.heap.size = w.heap.size + 1 + 1) := Lib.hid (by rw [← hw2]; simp)
  clear hw2
  obtain ⟨wD, hwD⟩ : ∃ wD, wD = w2.drew := ⟨_, rfl⟩
  have HBD : Hid (Below w2.heap.size w2 wD) := Lib.hid (by rw [hwD]; exact (Below.refl _ _).drew)
  have HS7 : Hid (∀ W D', BW w0 W L D' → UpT w.heap.size w2 W → (World.cell? W ⟨w.heap.size, 0, none⟩ = some (.pointer (some ⟨L.P, 0, none⟩)) ∧ World.cell? W ⟨L.P, 4, none⟩ = some (.slice (some ⟨L.G1, 0, none⟩) 256 256) ∧ World.cell? W ⟨w.heap.size + 1, 0, none⟩ = some (.slice a m c2))) := Lib.hid (fun W D' hW hu => ⟨(HX.out W hu).1, hW.kk.f4, (HX.out W hu).2⟩)
  have HWD := Lib.hid ((H.out.below HB2.out).below HBD.out)
  have HEd := Lib.hid ((HEr.out.up HB2.out).up HBD.out)
  have hS0 := HS7.out _ _ HWD.out (UpT.below HBD.out)
  refine wp_region_noPanic ?_
  refine wp_region_held_drew (S := fun w' => (World.cell? w' ⟨w.heap.size, 0, none⟩ = some (.pointer (some ⟨L.P, 0, none⟩)) ∧ World.cell? w' ⟨L.P, 4, none⟩ = some (.slice (some ⟨L.G1, 0, none⟩) 256 256) ∧ World.cell? w' ⟨w.heap.size + 1, 0, none⟩ = some (.slice a m c2))) (by kernel_rfl) (by rw [← hwD]; exact hS0) (fun hHeld => ?_)
  rw [← hwD] at hHeld ⊢
  clear hwD hS0
  refine wpAnyH_take (i := 0) (v := ?_) (by rfl) (by kernel_rfl) (by kernel_rfl) (by kernel_rfl) (fun _ _ _ h => h) (Or.inl ⟨by kernel_rfl, ?_⟩) (by assumption) ?_; rotate_left 1; (focus (intro w hSw; (try dsimp only at hSw); simp only [List.getElem_toArray, List.getElem_cons_succ, List.getElem_cons_zero]; all_goals go_simp; all_goals (try with_reducible rfl))); (try simp only [Act.put, List.getElem_toArray, List.getElem_cons_succ, List.getElem_cons_zero, List.setIfInBounds_toArray, List.set_cons_zero, List.set_cons_succ])
  refine wpAnyH_take (i := 1) (v := ?_) (by rfl) (by kernel_rfl) (by kernel_rfl) (by kernel_rfl) (fun _ _ _ h => h) (Or.inl ⟨by kernel_rfl, ?_⟩) (by assumption) ?_; rotate_left 1; (focus (intro w hSw; (try dsimp only at hSw); simp only [List.getElem_toArray, List.getElem_cons_succ, List.getElem_cons_zero]; all_goals go_simp; all_goals (try with_reducible rfl))); (try simp only [Act.put, List.getElem_toArray, List.getElem_cons_succ, List.getElem_cons_zero, List.setIfInBounds_toArray, List.set_cons_zero, List.set_cons_succ])
  refine wpAnyH_take (i := 2) (v := ?_) (by rfl) (by kernel_rfl) (by kernel_rfl) (by kernel_rfl) (fun _ _ _ h => h) (Or.inl ⟨by kernel_rfl, ?_⟩) (by assumption) ?_; rotate_left 1; (focus (intro w hSw; (try dsimp only at hSw); simp only [List.getElem_toArray, List.getElem_cons_succ, List.getElem_cons_zero]; all_goals go_simp; all_goals (try with_reducible rfl))); (try simp only [Act.put, List.getElem_toArray, List.getElem_cons_succ, List.getElem_cons_zero, List.setIfInBounds_toArray, List.set_cons_zero, List.set_cons_succ])
  refine wpAnyH_take (i := 3) (v := ?_) (by rfl) (by kernel_rfl) (by kernel_rfl) (by kernel_rfl) (fun _ _ _ h => h) (Or.inl ⟨by kernel_rfl, ?_⟩) (by assumption) ?_; rotate_left 1; (focus (intro w hSw; (try dsimp only at hSw); simp only [List.getElem_toArray, List.getElem_cons_succ, List.getElem_cons_zero]; all_goals go_simp; all_goals (try with_reducible rfl))); (try simp only [Act.put, List.getElem_toArray, List.getElem_cons_succ, List.getElem_cons_zero, List.setIfInBounds_toArray, List.set_cons_zero, List.set_cons_succ])
  refine wpAnyH_take (i := 4) (v := ?_) (by rfl) (by kernel_rfl) (by kernel_rfl) (by kernel_rfl) (fun _ _ _ h => h) (Or.inl ⟨by kernel_rfl, ?_⟩) (by assumption) ?_; rotate_left 1; (focus (intro w hSw; (try dsimp only at hSw); simp only [List.getElem_toArray, List.getElem_cons_succ, List.getElem_cons_zero]; all_goals go_simp; all_goals (try with_reducible rfl))); (try simp only [Act.put, List.getElem_toArray, List.getElem_cons_succ, List.getElem_cons_zero, List.setIfInBounds_toArray, List.set_cons_zero, List.set_cons_succ])
  refine wpAnyH_take (i := 5) (v := ?_) (by rfl) (by kernel_rfl) (by kernel_rfl) (by kernel_rfl) (fun _ _ _ h => h) (Or.inl ⟨by kernel_rfl, ?_⟩) (by assumption) ?_; rotate_left 1; (focus (intro w hSw; (try dsimp only at hSw); simp only [List.getElem_toArray, List.getElem_cons_succ, List.getElem_cons_zero]; all_goals go_simp; all_goals (try with_reducible rfl))); (try simp only [Act.put, List.getElem_toArray, List.getElem_cons_succ, List.getElem_cons_zero, List.setIfInBounds_toArray, List.set_cons_zero, List.set_cons_succ])
  refine wpAnyH_take (i := 6) (v := ?_) (by rfl) (by kernel_rfl) (by kernel_rfl) (by kernel_rfl) (fun _ _ _ h => h) (Or.inl ⟨by kernel_rfl, ?_⟩) (by assumption) ?_; rotate_left 1; (focus (intro w hSw; (try dsimp only at hSw); simp only [List.getElem_toArray, List.getElem_cons_succ, List.getElem_cons_zero]; all_goals go_simp; all_goals (try with_reducible rfl))); (try simp only [Act.put, List.getElem_toArray, List.getElem_cons_succ, List.getElem_cons_zero, List.setIfInBounds_toArray, List.set_cons_zero, List.set_cons_succ])
  refine wpAnyH_take (i := 8) (v := ?_) (by rfl) (by kernel_rfl) (by kernel_rfl) (by kernel_rfl) (fun _ _ _ h => h) (Or.inl ⟨by kernel_rfl, ?_⟩) (by assumption) ?_; rotate_left 1; (focus (intro w hSw; (try dsimp only at hSw); simp only [List.getElem_toArray, List.getElem_cons_succ, List.getElem_cons_zero]; all_goals go_simp; all_goals (try with_reducible rfl))); (try simp only [Act.put, List.getElem_toArray, List.getElem_cons_succ, List.getElem_cons_zero, List.setIfInBounds_toArray, List.set_cons_zero, List.set_cons_succ])
  refine wpAnyH_ready (rs := [7]) (by kernel_rfl) (by simp) ?_; refine AllReadyH.cons (by rfl) (fun K hK => ?_) AllReadyH.nil; rw [if_pos (by kernel_rfl)]; simp only [List.getElem_toArray, List.getElem_cons_succ, List.getElem_cons_zero]
  go_wp2_with (first
    | (go_at_call 147; (with_reducible refine (bnodeof_ok vs vr a m c2 kk hk hx0 _ HEd.out (fun B G hB hG => HS.out.run _ (HB2.out.trans (HBD.out.mono HB2.out.size)) B G (.inr (Nat.le_trans (Nat.le_trans HB2.out.size HBD.out.size) hB)) (.inr (Nat.le_trans (Nat.le_trans HB2.out.size HBD.out.size) hG)))).mono ?_); rintro e w3 ⟨rfl, hb⟩; have HB3 := Lib.hid (HBD.out.trans (hb.mono HBD.out.size)); have HW3 := Lib.hid (HWD.out.below hb); clear hb))
  refine hK.out _ _ (HS7.out _ _ HW3.out (UpT.below HB3.out)) (fun hHeld => ?_)
  clear hK K
  (try simp only [Act.put, List.getElem_toArray, List.getElem_cons_succ, List.getElem_cons_zero, List.setIfInBounds_toArray, List.set_cons_zero, List.set_cons_succ])
  refine wpAnyH_ready (rs := [9]) (by kernel_rfl) (by simp) ?_; refine AllReadyH.cons (by rfl) (fun K hK => ?_) AllReadyH.nil; rw [if_pos (by kernel_rfl)]; simp only [List.getElem_toArray, List.getElem_cons_succ, List.getElem_cons_zero]
  have hE3 := (((HB2.out.trans (HB3.out.mono HB2.out.size))).cell (p := ⟨7, 0, none⟩) hlt).trans hE
  have hlt3 := Nat.lt_of_lt_of_le hlt (HB2.out.trans (HB3.out.mono HB2.out.size)).size
  go_wp2_with (first
    | (go_at_call 146; (with_reducible refine (bbuyp_limit q hq w.heap.size (w.heap.size + 1) hfull L.G1 _ v _ HW3.out hE3 hlt3).mono ?_); rintro e w4 ⟨rfl, hb4⟩; have HW4 := Lib.hid (HW3.out.below hb4); have HB4 := Lib.hid (HB3.out.trans (hb4.mono HB3.out.size)); clear hb4))
  refine hK.out _ _ (HS7.out _ _ HW4.out (UpT.below HB4.out)) (fun hHeld => ?_)
  clear hK K
  (try simp only [Act.put, List.getElem_toArray, List.getElem_cons_succ, List.getElem_cons_zero, List.setIfInBounds_toArray, List.set_cons_zero, List.set_cons_succ])
  refine wpAnyH_take (i := 10) (v := ?_) (by rfl) (by kernel_rfl) (by kernel_rfl) (by kernel_rfl) (fun _ _ _ h => h) (Or.inl ⟨by kernel_rfl, ?_⟩) (by assumption) ?_; rotate_left 1; (focus (intro w hSw; (try dsimp only at hSw); simp only [List.getElem_toArray, List.getElem_cons_succ, List.getElem_cons_zero]; all_goals go_simp; all_goals (try with_reducible rfl))); (try simp only [Act.put, List.getElem_toArray, List.getElem_cons_succ, List.getElem_cons_zero, List.setIfInBounds_toArray, List.set_cons_zero, List.set_cons_succ])
  refine wpAnyH_take (i := 11) (v := ?_) (by rfl) (by kernel_rfl) (by kernel_rfl) (by kernel_rfl) (fun _ _ _ h => h) (Or.inl ⟨by kernel_rfl, ?_⟩) (by assumption) ?_; rotate_left 1; (focus (intro w hSw; (try dsimp only at hSw); simp only [List.getElem_toArray, List.getElem_cons_succ, List.getElem_cons_zero]; all_goals go_simp; all_goals (try with_reducible rfl))); (try simp only [Act.put, List.getElem_toArray, List.getElem_cons_succ, List.getElem_cons_zero, List.setIfInBounds_toArray, List.set_cons_zero, List.set_cons_succ])
  refine wpAnyH_take (i := 12) (v := ?_) (by rfl) (by kernel_rfl) (by kernel_rfl) (by kernel_rfl) (fun _ _ _ h => h) (Or.inl ⟨by kernel_rfl, ?_⟩) (by assumption) ?_; rotate_left 1; (focus (intro w hSw; (try dsimp only at hSw); simp only [List.getElem_toArray, List.getElem_cons_succ, List.getElem_cons_zero]; all_goals go_simp; all_goals (try with_reducible rfl))); (try simp only [Act.put, List.getElem_toArray, List.getElem_cons_succ, List.getElem_cons_zero, List.setIfInBounds_toArray, List.set_cons_zero, List.set_cons_succ])
  refine wpAnyH_take (i := 13) (v := ?_) (by rfl) (by kernel_rfl) (by kernel_rfl) (by kernel_rfl) (fun _ _ _ h => h) (Or.inl ⟨by kernel_rfl, ?_⟩) (by assumption) ?_; rotate_left 1; (focus (intro w hSw; (try dsimp only at hSw); simp only [List.getElem_toArray, List.getElem_cons_succ, List.getElem_cons_zero]; all_goals go_simp; all_goals (try with_reducible rfl))); (try simp only [Act.put, List.getElem_toArray, List.getElem_cons_succ, List.getElem_cons_zero, List.setIfInBounds_toArray, List.set_cons_zero, List.set_cons_succ])
  refine wpAnyH_take (i := 14) (v := ?_) (by rfl) (by kernel_rfl) (by kernel_rfl) (by kernel_rfl) (fun _ _ _ h => h) (Or.inl ⟨by kernel_rfl, ?_⟩) (by assumption) ?_; rotate_left 1; (focus (intro w hSw; (try dsimp only at hSw); simp only [List.getElem_toArray, List.getElem_cons_succ, List.getElem_cons_zero]; all_goals go_simp; all_goals (try with_reducible rfl))); (try simp only [Act.put, List.getElem_toArray, List.getElem_cons_succ, List.getElem_cons_zero, List.setIfInBounds_toArray, List.set_cons_zero, List.set_cons_succ])
  refine wpAnyH_take (i := 15) (v := ?_) (by rfl) (by kernel_rfl) (by kernel_rfl) (by kernel_rfl) (fun _ _ _ h => h) (Or.inl ⟨by kernel_rfl, ?_⟩) (by assumption) ?_; rotate_left 1; (focus (intro w hSw; (try dsimp only at hSw); simp only [List.getElem_toArray, List.getElem_cons_succ, List.getElem_cons_zero]; all_goals go_simp; all_goals (try with_reducible rfl))); (try simp only [Act.put, List.getElem_toArray, List.getElem_cons_succ, List.getElem_cons_zero, List.setIfInBounds_toArray, List.set_cons_zero, List.set_cons_succ])
  refine wpAnyH_done (by kernel_rfl) ?_ _
  refine NoPanic.normal ?_
  go_wp2_with fail
  go_ret3
  exact ⟨rfl, HB2.out.trans (HB4.out.mono HB2.out.size)⟩
end Go.Proofs.YtkogmhgpkacehaaDoor
namespace Go.Proofs.YtkogmhgpkacehaaDoor
open Go.ChangeShapes Go.WideShapes Go.ChangeAt Go.RowKit
set_option linter.unusedVariables false
set_option linter.unusedSimpArgs false
def boughtD (D : BSt) (q j : Nat) (v : Int) : BSt := { D with dt := upd D.dt j true, dW := updS D.dW j 0 zsD1, us := addL D.us (chL D.pr q) 1, o3 := upd D.o3 j q, v3 := upd D.v3 j v }
set_option maxRecDepth 100000 in
set_option maxHeartbeats 2000000 in
theorem bbuyd_ok {w0 : World} {L : BLoc} {D : BSt} (q : Nat) (hq : q < D.nb) (j : Nat) (v : Int) (hj : j < L.dn) (hyes : Hid (freeB D.dt D.dv j = true)) (hno : Hid (∀ i, i < j → freeB D.dt D.dv i = false)) (hv : Hid (D.dv j = v)) (hfull : Hid ((chL D.pr q).any (fullB D.us D.lm) = false)) (hu : Hid (∀ i, i < L.n → -1000000 ≤ D.us i ∧ D.us i ≤ 1000000)) (w : World) (h : BW w0 w L D) :
    Calls Tryd.prog 146 #[.pointer (some ⟨L.P, 0, none⟩), .int .i64 (q : Int), .slice (some ⟨L.G3, 0, none⟩) 256 256, .nilIface, (Value.func (.func 55) #[.pointer (some ⟨L.dP, 0, none⟩)] #[])] w fun e w' => e = .returned (.tuple #[.int .i64 j, .int .i64 v, .nilIface]) ∧ BW w0 w' L (boughtD D q j v) ∧ UpT L.T w w' := by
  have H := Lib.hid h
  have hn := h.n256
  have hpn := h.dn256
  have hnn := h.nn
  have hin := chL_in h.pk h.nn (by omega) q hq
  obtain ⟨l, hl⟩ : ∃ l, Hid (chL D.pr q = l) := ⟨_, Lib.hid rfl⟩
  rw [hl.out] at hin hfull
  obtain ⟨m, hm⟩ : ∃ m, Hid (l.length = m) := ⟨_, Lib.hid rfl⟩
  have hm1 : m ≤ 1000 := by rw [← hm.out]; omega
  have HIn := Lib.hid hin.1
  have HNd := Lib.hid hin.2.2
  have HPk := Lib.hid h.pk
  have HLT := Lib.hid h.lowT
  have HTT := Lib.hid h.tt
  have HTw := Lib.hid h.tw
  have f0 := h.kk.f0
  have k0 : (0 : Int) ≤ j := by omega
  have k1 : (j : Int) < 256 := by omega
  clear h hin
  go_enter Tryd.func146, Tryd.ntmps146
  go_wp2_with (first
    | (go_at_call 25; (with_reducible refine (athere_in q (by omega) true (Lib.hid (thN_at hq)) _ H.out.kk.ar).mono ?_); rintro e w1 ⟨rfl, rfl⟩)
    | (go_at_call 155; (with_reducible refine (bchain_is (q : Int) D.nb (by omega) (by omega) hnn (Lib.hid (fun i hi => thN_at hi)) HPk _ H.out.kk).mono ?_); rintro e w1 ⟨v9, rfl, hr, hb⟩; rw [hl.out] at hr; obtain ⟨a9, c9, hv9⟩ := own_slice hr m hm; have HRw := Lib.hid (rowT hr hv9 hm.out HTw.out); subst hv9; have H1 := Lib.hid (H.out.below hb); have HB1 := Lib.hid hb; clear hr hb f0)
    | (go_at_call 186; (with_reducible refine (bcf_is l m hm hm1 a9 c9 HIn false hfull _ H1.out.kk (fun i hi => by obtain ⟨g, h1, h2, h3, h4⟩ := HRw.out w1 (UpT.refl _ _) i hi; exact ⟨g, h1, h3, h4⟩)).mono ?_); rintro e w2 ⟨rfl, hb⟩; have HB2 := Lib.hid hb; clear hb)
    | (go_at_call 55; (with_reducible refine (dmake_ok j hj hyes hno v hv _ (H1.out.below HB2.out).dd).mono ?_); rintro e w3 ⟨rfl, hd, hb⟩; have hW := (H1.out.below HB2.out).doms hd hb; have H3 := Lib.hid hW; have HU3 := Lib.hid ((UpT.below HB2.out).trans (UpT.pb hb (T := L.T) (by have := HLT.out; omega) (by have := HLT.out; omega))); have ht := hW.kk.t3.ti j (by omega); obtain ⟨c0, c1⟩ := ht; have z0 := hW.kk.t3.fr (j * 2); have z1 := hW.kk.t3.fr (j * 2 + 1); have HS := Lib.hid (hW.kk.t3.title j (by omega) q v); have H4 := Lib.hid (hW.kk.ti3 HS.out.1 HS.out.2); have HU4 := Lib.hid (HU3.out.trans (UpT.grown HS.out.2 (T := L.T) (by have := HTT.out; omega))); clear hW hb hd)
    | (go_at_call 159; (with_reducible refine (bcount_is l m hm hm1 a9 c9 HIn HNd 1 (by decide) hu _ H4.out (fun i hi => by obtain ⟨g, h1, h2, h3, h4⟩ := HRw.out _ HU4.out i hi; exact ⟨g, h1, h3, by have := HTT.out; omega, h4⟩)).mono ?_); rintro e w5 ⟨rfl, hB, hg⟩; have H5 := Lib.hid hB; have HG5 := Lib.hid hg; clear hB hg c0 c1 z0 z1))
  go_ret3
  refine ⟨rfl, ?_, ((UpT.below HB1.out).trans HU4.out).trans (UpT.grown HG5.out (by have := HTT.out; omega))⟩
  have hlo : Below L.bB w3 w5 := by
    refine (low_of HS.out.2 H3.out.kk.t3.lt.1 H3.out.bl).trans (low_of HG5.out H3.out.kk.ac.lt.1 ?_)
    exact Nat.le_trans H3.out.bl HS.out.2.size
  refine BW.bank H3.out (D' := boughtD D q j v) ?_ hlo rfl HPk.out hnn
  have := H5.out
  rw [← hl.out] at this
  exact this
set_option maxRecDepth 100000 in
set_option maxHeartbeats 2000000 in
theorem bdomain_ok {w0 : World} {L : BLoc} {D : BSt} (q : Nat) (hq : q < D.nb) (j : Nat) (v : Int) (hj : j < L.dn) (hyes : Hid (freeB D.dt D.dv j = true)) (hno : Hid (∀ i, i < j → freeB D.dt D.dv i = false)) (hv : Hid (D.dv j = v)) (hfull : Hid ((chL D.pr q).any (fullB D.us D.lm) = false)) (hu : Hid (∀ i, i < L.n → -1000000 ≤ D.us i ∧ D.us i ≤ 1000000)) (w : World) (h : BW w0 w L D) :
    Calls Tryd.prog 83 #[.pointer (some ⟨L.P, 0, none⟩), .int .i64 (q : Int)] w fun e w' => e = .returned (.tuple #[.int .i64 j, .int .i64 v, .nilIface]) ∧ BW w0 w' L (boughtD D q j v) ∧ UpT L.T w w' := by
  obtain ⟨wD, hwD⟩ : ∃ wD, wD = w.drew := ⟨_, rfl⟩
  have HBD : Hid (Below w.heap.size w wD) := Lib.hid (by rw [hwD]; exact (Below.refl _ _).drew)
  have HD := Lib.hid (h.below HBD.out)
  have HTw := Lib.hid h.tw
  clear h
  go_enter Tryd.func83, Tryd.ntmps83
  go_upto_region 1 with fail
  refine wp_region_noPanic ?_
  refine wp_region_held_drew (S := fun w' => (World.cell? w' ⟨L.P, 6, none⟩ = some (.slice (some ⟨L.G3, 0, none⟩) 256 256) ∧ World.cell? w' ⟨L.P, 2, none⟩ = some (.pointer (some ⟨L.dP, 0, none⟩)))) (by kernel_rfl) (by rw [← hwD]; exact ⟨HD.out.kk.f6, HD.out.kk.f2⟩) (fun hHeld => ?_)
  rw [← hwD] at hHeld ⊢
  clear hwD
  refine wpAnyH_take (i := 0) (v := ?_) (by rfl) (by kernel_rfl) (by kernel_rfl) (by kernel_rfl) (fun _ _ _ h => h) (Or.inl ⟨by kernel_rfl, ?_⟩) (by assumption) ?_; rotate_left 1; (focus (intro w hSw; (try dsimp only at hSw); simp only [List.getElem_toArray, List.getElem_cons_succ, List.getElem_cons_zero]; all_goals go_simp; all_goals (try with_reducible rfl))); (try simp only [Act.put, List.getElem_toArray, List.getElem_cons_succ, List.getElem_cons_zero, List.setIfInBounds_toArray, List.set_cons_zero, List.set_cons_succ])
  refine wpAnyH_take (i := 1) (v := ?_) (by rfl) (by kernel_rfl) (by kernel_rfl) (by kernel_rfl) (fun _ _ _ h => h) (Or.inl ⟨by kernel_rfl, ?_⟩) (by assumption) ?_; rotate_left 1; (focus (intro w hSw; (try dsimp only at hSw); simp only [List.getElem_toArray, List.getElem_cons_succ, List.getElem_cons_zero]; all_goals go_simp; all_goals (try with_reducible rfl))); (try simp only [Act.put, List.getElem_toArray, List.getElem_cons_succ, List.getElem_cons_zero, List.setIfInBounds_toArray, List.set_cons_zero, List.set_cons_succ])
  refine wpAnyH_take (i := 2) (v := ?_) (by rfl) (by kernel_rfl) (by kernel_rfl) (by kernel_rfl) (fun _ _ _ h => h) (Or.inl ⟨by kernel_rfl, ?_⟩) (by assumption) ?_; rotate_left 1; (focus (intro w hSw; (try dsimp only at hSw); simp only [List.getElem_toArray, List.getElem_cons_succ, List.getElem_cons_zero]; all_goals go_simp; all_goals (try with_reducible rfl))); (try simp only [Act.put, List.getElem_toArray, List.getElem_cons_succ, List.getElem_cons_zero, List.setIfInBounds_toArray, List.set_cons_zero, List.set_cons_succ])
  refine wpAnyH_take (i := 3) (v := ?_) (by rfl) (by kernel_rfl) (by kernel_rfl) (by kernel_rfl) (fun _ _ _ h => h) (Or.inl ⟨by kernel_rfl, ?_⟩) (by assumption) ?_; rotate_left 1; (focus (intro w hSw; (try dsimp only at hSw); simp only [List.getElem_toArray, List.getElem_cons_succ, List.getElem_cons_zero]; all_goals go_simp; all_goals (try with_reducible rfl))); (try simp only [Act.put, List.getElem_toArray, List.getElem_cons_succ, List.getElem_cons_zero, List.setIfInBounds_toArray, List.set_cons_zero, List.set_cons_succ])
  refine wpAnyH_take (i := 4) (v := ?_) (by rfl) (by kernel_rfl) (by kernel_rfl) (by kernel_rfl) (fun _ _ _ h => h) (Or.inl ⟨by kernel_rfl, ?_⟩) (by assumption) ?_; rotate_left 1; (focus (intro w hSw; (try dsimp only at hSw); simp only [List.getElem_toArray, List.getElem_cons_succ, List.getElem_cons_zero]; all_goals go_simp; all_goals (try with_reducible rfl))); (try simp only [Act.put, List.getElem_toArray, List.getElem_cons_succ, List.getElem_cons_zero, List.setIfInBounds_toArray, List.set_cons_zero, List.set_cons_succ])
  refine wpAnyH_take (i := 5) (v := ?_) (by rfl) (by kernel_rfl) (by kernel_rfl) (by kernel_rfl) (fun _ _ _ h => h) (Or.inl ⟨by kernel_rfl, ?_⟩) (by assumption) ?_; rotate_left 1; (focus (intro w hSw; (try dsimp only at hSw); simp only [List.getElem_toArray, List.getElem_cons_succ, List.getElem_cons_zero]; all_goals go_simp; all_goals (try with_reducible rfl))); (try simp only [Act.put, List.getElem_toArray, List.getElem_cons_succ, List.getElem_cons_zero, List.setIfInBounds_toArray, List.set_cons_zero, List.set_cons_succ])
  refine wpAnyH_take (i := 6) (v := ?_) (by rfl) (by kernel_rfl) (by kernel_rfl) (by kernel_rfl) (fun _ _ _ h => h) (Or.inl ⟨by kernel_rfl, ?_⟩) (by assumption) ?_; rotate_left 1; (focus (intro w hSw; (try dsimp only at hSw); simp only [List.getElem_toArray, List.getElem_cons_succ, List.getElem_cons_zero]; all_goals go_simp; all_goals (try with_reducible rfl))); (try simp only [Act.put, List.getElem_toArray, List.getElem_cons_succ, List.getElem_cons_zero, List.setIfInBounds_toArray, List.set_cons_zero, List.set_cons_succ])
  refine wpAnyH_take (i := 7) (v := ?_) (by rfl) (by kernel_rfl) (by kernel_rfl) (by kernel_rfl) (fun _ _ _ h => h) (Or.inl ⟨by kernel_rfl, ?_⟩) (by assumption) ?_; rotate_left 1; (focus (intro w hSw; (try dsimp only at hSw); simp only [List.getElem_toArray, List.getElem_cons_succ, List.getElem_cons_zero]; all_goals go_simp; all_goals (try with_reducible rfl))); (try simp only [Act.put, List.getElem_toArray, List.getElem_cons_succ, List.getElem_cons_zero, List.setIfInBounds_toArray, List.set_cons_zero, List.set_cons_succ])
  refine wpAnyH_take (i := 8) (v := ?_) (by rfl) (by kernel_rfl) (by kernel_rfl) (by kernel_rfl) (fun _ _ _ h => h) (Or.inl ⟨by kernel_rfl, ?_⟩) (by assumption) ?_; rotate_left 1; (focus (intro w hSw; (try dsimp only at hSw); simp only [List.getElem_toArray, List.getElem_cons_succ, List.getElem_cons_zero]; all_goals go_simp; all_goals (try with_reducible rfl))); (try simp only [Act.put, List.getElem_toArray, List.getElem_cons_succ, List.getElem_cons_zero, List.setIfInBounds_toArray, List.set_cons_zero, List.set_cons_succ])
  refine wpAnyH_take (i := 9) (v := ?_) (by rfl) (by kernel_rfl) (by kernel_rfl) (by kernel_rfl) (fun _ _ _ h => h) (Or.inl ⟨by kernel_rfl, ?_⟩) (by assumption) ?_; rotate_left 1; (focus (intro w hSw; (try dsimp only at hSw); simp only [List.getElem_toArray, List.getElem_cons_succ, List.getElem_cons_zero]; all_goals go_simp; all_goals (try with_reducible rfl))); (try simp only [Act.put, List.getElem_toArray, List.getElem_cons_succ, List.getElem_cons_zero, List.setIfInBounds_toArray, List.set_cons_zero, List.set_cons_succ])
  refine wpAnyH_take (i := 10) (v := ?_) (by rfl) (by kernel_rfl) (by kernel_rfl) (by kernel_rfl) (fun _ _ _ h => h) (Or.inl ⟨by kernel_rfl, ?_⟩) (by assumption) ?_; rotate_left 1; (focus (intro w hSw; (try dsimp only at hSw); simp only [List.getElem_toArray, List.getElem_cons_succ, List.getElem_cons_zero]; all_goals go_simp; all_goals (try with_reducible rfl))); (try simp only [Act.put, List.getElem_toArray, List.getElem_cons_succ, List.getElem_cons_zero, List.setIfInBounds_toArray, List.set_cons_zero, List.set_cons_succ])
  refine wpAnyH_ready (rs := [11]) (by kernel_rfl) (by simp) ?_; refine AllReadyH.cons (by rfl) (fun K hK => ?_) AllReadyH.nil; rw [if_pos (by kernel_rfl)]; simp only [List.getElem_toArray, List.getElem_cons_succ, List.getElem_cons_zero]
  go_wp2_with (first
    | (go_at_call 146; (with_reducible refine (bbuyd_ok q hq j v hj hyes hno hv hfull hu _ HD.out).mono ?_); rintro e w4 ⟨rfl, hW, hu4⟩; have HW4 := Lib.hid hW; have HU4 := Lib.hid hu4; clear hW hu4))
  refine hK.out _ _ ⟨HW4.out.kk.f6, HW4.out.kk.f2⟩ (fun hHeld => ?_)
  clear hK K
  (try simp only [Act.put, List.getElem_toArray, List.getElem_cons_succ, List.getElem_cons_zero, List.setIfInBounds_toArray, List.set_cons_zero, List.set_cons_succ])
  refine wpAnyH_take (i := 12) (v := ?_) (by rfl) (by kernel_rfl) (by kernel_rfl) (by kernel_rfl) (fun _ _ _ h => h) (Or.inl ⟨by kernel_rfl, ?_⟩) (by assumption) ?_; rotate_left 1; (focus (intro w hSw; (try dsimp only at hSw); simp only [List.getElem_toArray, List.getElem_cons_succ, List.getElem_cons_zero]; all_goals go_simp; all_goals (try with_reducible rfl))); (try simp only [Act.put, List.getElem_toArray, List.getElem_cons_succ, List.getElem_cons_zero, List.setIfInBounds_toArray, List.set_cons_zero, List.set_cons_succ])
  refine wpAnyH_take (i := 13) (v := ?_) (by rfl) (by kernel_rfl) (by kernel_rfl) (by kernel_rfl) (fun _ _ _ h => h) (Or.inl ⟨by kernel_rfl, ?_⟩) (by assumption) ?_; rotate_left 1; (focus (intro w hSw; (try dsimp only at hSw); simp only [List.getElem_toArray, List.getElem_cons_succ, List.getElem_cons_zero]; all_goals go_simp; all_goals (try with_reducible rfl))); (try simp only [Act.put, List.getElem_toArray, List.getElem_cons_succ, List.getElem_cons_zero, List.setIfInBounds_toArray, List.set_cons_zero, List.set_cons_succ])
  refine wpAnyH_take (i := 14) (v := ?_) (by rfl) (by kernel_rfl) (by kernel_rfl) (by kernel_rfl) (fun _ _ _ h => h) (Or.inl ⟨by kernel_rfl, ?_⟩) (by assumption) ?_; rotate_left 1; (focus (intro w hSw; (try dsimp only at hSw); simp only [List.getElem_toArray, List.getElem_cons_succ, List.getElem_cons_zero]; all_goals go_simp; all_goals (try with_reducible rfl))); (try simp only [Act.put, List.getElem_toArray, List.getElem_cons_succ, List.getElem_cons_zero, List.setIfInBounds_toArray, List.set_cons_zero, List.set_cons_succ])
  refine wpAnyH_take (i := 15) (v := ?_) (by rfl) (by kernel_rfl) (by kernel_rfl) (by kernel_rfl) (fun _ _ _ h => h) (Or.inl ⟨by kernel_rfl, ?_⟩) (by assumption) ?_; rotate_left 1; (focus (intro w hSw; (try dsimp only at hSw); simp only [List.getElem_toArray, List.getElem_cons_succ, List.getElem_cons_zero]; all_goals go_simp; all_goals (try with_reducible rfl))); (try simp only [Act.put, List.getElem_toArray, List.getElem_cons_succ, List.getElem_cons_zero, List.setIfInBounds_toArray, List.set_cons_zero, List.set_cons_succ])
  refine wpAnyH_take (i := 16) (v := ?_) (by rfl) (by kernel_rfl) (by kernel_rfl) (by kernel_rfl) (fun _ _ _ h => h) (Or.inl ⟨by kernel_rfl, ?_⟩) (by assumption) ?_; rotate_left 1; (focus (intro w hSw; (try dsimp only at hSw); simp only [List.getElem_toArray, List.getElem_cons_succ, List.getElem_cons_zero]; all_goals go_simp; all_goals (try with_reducible rfl))); (try simp only [Act.put, List.getElem_toArray, List.getElem_cons_succ, List.getElem_cons_zero, List.setIfInBounds_toArray, List.set_cons_zero, List.set_cons_succ])
  refine wpAnyH_take (i := 17) (v := ?_) (by rfl) (by kernel_rfl) (by kernel_rfl) (by kernel_rfl) (fun _ _ _ h => h) (Or.inl ⟨by kernel_rfl, ?_⟩) (by assumption) ?_; rotate_left 1; (focus (intro w hSw; (try dsimp only at hSw); simp only [List.getElem_toArray, List.getElem_cons_succ, List.getElem_cons_zero]; all_goals go_simp; all_goals (try with_reducible rfl))); (try simp only [Act.put, List.getElem_toArray, List.getElem_cons_succ, List.getElem_cons_zero, List.setIfInBounds_toArray, List.set_cons_zero, List.set_cons_succ])
  refine wpAnyH_done (by kernel_rfl) ?_ _
  refine NoPanic.normal ?_
  go_wp2_with fail
  go_ret3
  exact ⟨rfl, HW4.out, (UpT.below HBD.out).trans HU4.out⟩
set_option maxRecDepth 100000 in
theorem nmake_full {base P p B G n c : Nat} {th : Nat → Bool} {vr_ : Nat → Int} {W : Nat → Nat → Value} (vs vr : Value) (a : Option Addr) (m c2 : Nat) (kk : Nat → Nat → Int) (hx : m ≤ 16) (hk : Hid (∀ i, i < m → KRight kk i)) (w : World) (hE : ErrsAt vs vr w) (h : NdAt w base P p B G n c th vr_ W) (hs : SrcK w a m kk B G) (hno : Hid (∀ i, i < n → freeB th vr_ i = false)) (z : Addr) (hF : w.cell? ⟨4, 0, none⟩ = some (eV z)) (hl : 4 < w.heap.size) :
    Calls Tryd.prog 19 #[.pointer (some ⟨P, 0, none⟩), .slice a m c2] w fun e w' => e = .returned (.tuple #[.int .i64 0, .int .i64 0, eV z]) ∧ Below w.heap.size w w' := by
  have H := Lib.hid h
  have HS := Lib.hid hs
  have HE := Lib.hid hE
  have HF := Lib.hid hF
  have f0 := h.f0
  clear h hs hE hF
  go_enter Tryd.func19, Tryd.ntmps19
  go_wp2_with (first
    | (go_at_call 108; (with_reducible refine (nfits_ok vs vr a m c2 hx kk hk _ HE.out HS.out).mono ?_); rintro e w0 ⟨rfl, hb0⟩; have H0 := Lib.hid (H.out.below hb0); have HB0 := Lib.hid hb0; have HF0 := Lib.hid ((hb0.cell (p := ⟨4, 0, none⟩) hl).trans HF.out); have f9 := H0.out.f0; clear hb0 f0)
    | (go_at_call 109; (with_reducible refine (atake_full _ H0.out.ar hno _ HF0.out (Nat.lt_of_lt_of_le hl HB0.out.size)).mono ?_); rintro e w1 ⟨rfl, hb⟩; have HB1 := Lib.hid (HB0.out.trans (hb.mono HB0.out.size)); clear hb f9))
  go_ret3
  exact ⟨rfl, HB1.out⟩
set_option maxRecDepth 100000 in
set_option maxHeartbeats 1000000 in
theorem bndcl_full {w0 : World} {L : BLoc} {D : BSt} (x y : Nat) (vs vr : Value) (a : Option Addr) (m c2 : Nat) (kk : Nat → Nat → Int) (hk : Hid (∀ i, i < m → KRight kk i)) (hx : m ≤ 16) (hno : Hid (∀ i, i < L.a.n → freeB D.nt D.nv i = false)) (z : Addr) (w : World) (h : BW w0 w L D) (hxy : L.T ≤ x ∧ x < w.heap.size ∧ L.T ≤ y ∧ y < w.heap.size) (cx : w.cell? ⟨x, 0, none⟩ = some (.pointer (some ⟨L.P, 0, none⟩))) (cy : w.cell? ⟨y, 0, none⟩ = some (.slice a m c2)) (hE : ErrsAt vs vr w) (hF : w.cell? ⟨4, 0, none⟩ = some (eV z)) (hl : 4 < w.heap.size) (hs : SrcK w a m kk L.a.B L.a.G) :
    Calls Tryd.prog 148 #[.pointer (some ⟨x, 0, none⟩), .pointer (some ⟨y, 0, none⟩)] w fun e w' => e = .returned (.tuple #[.int .i64 0, .int .i64 0, eV z]) ∧ Below w.heap.size w w' := by
  obtain ⟨wD, hwD⟩ : ∃ wD, wD = w.drew := ⟨_, rfl⟩
  have hbD : Below w.heap.size w wD := by rw [hwD]; exact (Below.refl _ _).drew
  have HD := Lib.hid (h.below hbD)
  have HSr := Lib.hid (hs.below hbD)
  have HEd := Lib.hid (hE.up hbD)
  have HBD := Lib.hid hbD
  have hF2 := (hbD.cell (p := ⟨4, 0, none⟩) hl).trans hF
  have hl2 := Nat.lt_of_lt_of_le hl hbD.size
  have HS7 : Hid (∀ W, BW w0 W L D → UpT L.T w W → (World.cell? W ⟨x, 0, none⟩ = some (.pointer (some ⟨L.P, 0, none⟩)) ∧ World.cell? W ⟨L.P, 1, none⟩ = some (.pointer (some ⟨L.mb, 0, none⟩)) ∧ World.cell? W ⟨L.mb, 0, none⟩ = some (.pointer (some ⟨L.S, 0, none⟩)) ∧ World.cell? W ⟨L.S, 0, none⟩ = some (.pointer (some ⟨L.a.P, 0, none⟩)) ∧ World.cell? W ⟨y, 0, none⟩ = some (.slice a m c2))) := Lib.hid (fun W hW hu => ⟨(World.cell?_of_block (a := ⟨x, 0, none⟩) (hu.2 x hxy.1 hxy.2.1)).trans cx, hW.kk.f1, hW.mm.m0, hW.mm.sv.st.s0, (World.cell?_of_block (a := ⟨y, 0, none⟩) (hu.2 y hxy.2.2.1 hxy.2.2.2)).trans cy⟩)
  have hS0 : (World.cell? wD ⟨x, 0, none⟩ = some (.pointer (some ⟨L.P, 0, none⟩)) ∧ World.cell? wD ⟨L.P, 1, none⟩ = some (.pointer (some ⟨L.mb, 0, none⟩)) ∧ World.cell? wD ⟨L.mb, 0, none⟩ = some (.pointer (some ⟨L.S, 0, none⟩)) ∧ World.cell? wD ⟨L.S, 0, none⟩ = some (.pointer (some ⟨L.a.P, 0, none⟩)) ∧ World.cell? wD ⟨y, 0, none⟩ = some (.slice a m c2)) := ⟨(hbD.cell (p := ⟨x, 0, none⟩) hxy.2.1).trans cx, HD.out.kk.f1, HD.out.mm.m0, HD.out.mm.sv.st.s0, (hbD.cell (p := ⟨y, 0, none⟩) hxy.2.2.2).trans cy⟩
  have HLT := Lib.hid h.lowT
  clear h hs cx cy hbD hE hF
  go_enter Tryd.func148, Tryd.ntmps148
  go_upto_region 1 with fail
  refine wp_region_noPanic ?_
  refine wp_region_held_drew (S := fun w' => (World.cell? w' ⟨x, 0, none⟩ = some (.pointer (some ⟨L.P, 0, none⟩)) ∧ World.cell? w' ⟨L.P, 1, none⟩ = some (.pointer (some ⟨L.mb, 0, none⟩)) ∧ World.cell? w' ⟨L.mb, 0, none⟩ = some (.pointer (some ⟨L.S, 0, none⟩)) ∧ World.cell? w' ⟨L.S, 0, none⟩ = some (.pointer (some ⟨L.a.P, 0, none⟩)) ∧ World.cell? w' ⟨y, 0, none⟩ = some (.slice a m c2))) (by kernel_rfl) (by rw [← hwD]; exact hS0) (fun hHeld => ?_)
  rw [← hwD] at hHeld ⊢
  clear hwD hS0
  refine wpAnyH_take (i := 0) (v := ?_) (by rfl) (by kernel_rfl) (by kernel_rfl) (by kernel_rfl) (fun _ _ _ h => h) (Or.inl ⟨by kernel_rfl, ?_⟩) (by assumption) ?_; rotate_left 1; (focus (intro w hSw; (try dsimp only at hSw); simp only [List.getElem_toArray, List.getElem_cons_succ, List.getElem_cons_zero]; all_goals go_simp; all_goals (try with_reducible rfl))); (try simp only [Act.put, List.getElem_toArray, List.getElem_cons_succ, List.getElem_cons_zero, List.setIfInBounds_toArray, List.set_cons_zero, List.set_cons_succ])
  refine wpAnyH_take (i := 1) (v := ?_) (by rfl) (by kernel_rfl) (by kernel_rfl) (by kernel_rfl) (fun _ _ _ h => h) (Or.inl ⟨by kernel_rfl, ?_⟩) (by assumption) ?_; rotate_left 1; (focus (intro w hSw; (try dsimp only at hSw); simp only [List.getElem_toArray, List.getElem_cons_succ, List.getElem_cons_zero]; all_goals go_simp; all_goals (try with_reducible rfl))); (try simp only [Act.put, List.getElem_toArray, List.getElem_cons_succ, List.getElem_cons_zero, List.setIfInBounds_toArray, List.set_cons_zero, List.set_cons_succ])
  refine wpAnyH_take (i := 2) (v := ?_) (by rfl) (by kernel_rfl) (by kernel_rfl) (by kernel_rfl) (fun _ _ _ h => h) (Or.inl ⟨by kernel_rfl, ?_⟩) (by assumption) ?_; rotate_left 1; (focus (intro w hSw; (try dsimp only at hSw); simp only [List.getElem_toArray, List.getElem_cons_succ, List.getElem_cons_zero]; all_goals go_simp; all_goals (try with_reducible rfl))); (try simp only [Act.put, List.getElem_toArray, List.getElem_cons_succ, List.getElem_cons_zero, List.setIfInBounds_toArray, List.set_cons_zero, List.set_cons_succ])
  refine wpAnyH_take (i := 3) (v := ?_) (by rfl) (by kernel_rfl) (by kernel_rfl) (by kernel_rfl) (fun _ _ _ h => h) (Or.inl ⟨by kernel_rfl, ?_⟩) (by assumption) ?_; rotate_left 1; (focus (intro w hSw; (try dsimp only at hSw); simp only [List.getElem_toArray, List.getElem_cons_succ, List.getElem_cons_zero]; all_goals go_simp; all_goals (try with_reducible rfl))); (try simp only [Act.put, List.getElem_toArray, List.getElem_cons_succ, List.getElem_cons_zero, List.setIfInBounds_toArray, List.set_cons_zero, List.set_cons_succ])
  refine wpAnyH_take (i := 4) (v := ?_) (by rfl) (by kernel_rfl) (by kernel_rfl) (by kernel_rfl) (fun _ _ _ h => h) (Or.inl ⟨by kernel_rfl, ?_⟩) (by assumption) ?_; rotate_left 1; (focus (intro w hSw; (try dsimp only at hSw); simp only [List.getElem_toArray, List.getElem_cons_succ, List.getElem_cons_zero]; all_goals go_simp; all_goals (try with_reducible rfl))); (try simp only [Act.put, List.getElem_toArray, List.getElem_cons_succ, List.getElem_cons_zero, List.setIfInBounds_toArray, List.set_cons_zero, List.set_cons_succ])
  refine wpAnyH_take (i := 5) (v := ?_) (by rfl) (by kernel_rfl) (by kernel_rfl) (by kernel_rfl) (fun _ _ _ h => h) (Or.inl ⟨by kernel_rfl, ?_⟩) (by assumption) ?_; rotate_left 1; (focus (intro w hSw; (try dsimp only at hSw); simp only [List.getElem_toArray, List.getElem_cons_succ, List.getElem_cons_zero]; all_goals go_simp; all_goals (try with_reducible rfl))); (try simp only [Act.put, List.getElem_toArray, List.getElem_cons_succ, List.getElem_cons_zero, List.setIfInBounds_toArray, List.set_cons_zero, List.set_cons_succ])
  refine wpAnyH_take (i := 6) (v := ?_) (by rfl) (by kernel_rfl) (by kernel_rfl) (by kernel_rfl) (fun _ _ _ h => h) (Or.inl ⟨by kernel_rfl, ?_⟩) (by assumption) ?_; rotate_left 1; (focus (intro w hSw; (try dsimp only at hSw); simp only [List.getElem_toArray, List.getElem_cons_succ, List.getElem_cons_zero]; all_goals go_simp; all_goals (try with_reducible rfl))); (try simp only [Act.put, List.getElem_toArray, List.getElem_cons_succ, List.getElem_cons_zero, List.setIfInBounds_toArray, List.set_cons_zero, List.set_cons_succ])
  refine wpAnyH_take (i := 7) (v := ?_) (by rfl) (by kernel_rfl) (by kernel_rfl) (by kernel_rfl) (fun _ _ _ h => h) (Or.inl ⟨by kernel_rfl, ?_⟩) (by assumption) ?_; rotate_left 1; (focus (intro w hSw; (try dsimp only at hSw); simp only [List.getElem_toArray, List.getElem_cons_succ, List.getElem_cons_zero]; all_goals go_simp; all_goals (try with_reducible rfl))); (try simp only [Act.put, List.getElem_toArray, List.getElem_cons_succ, List.getElem_cons_zero, List.setIfInBounds_toArray, List.set_cons_zero, List.set_cons_succ])
  refine wpAnyH_take (i := 8) (v := ?_) (by rfl) (by kernel_rfl) (by kernel_rfl) (by kernel_rfl) (fun _ _ _ h => h) (Or.inl ⟨by kernel_rfl, ?_⟩) (by assumption) ?_; rotate_left 1; (focus (intro w hSw; (try dsimp only at hSw); simp only [List.getElem_toArray, List.getElem_cons_succ, List.getElem_cons_zero]; all_goals go_simp; all_goals (try with_reducible rfl))); (try simp only [Act.put, List.getElem_toArray, List.getElem_cons_succ, List.getElem_cons_zero, List.setIfInBounds_toArray, List.set_cons_zero, List.set_cons_succ])
  refine wpAnyH_take (i := 9) (v := ?_) (by rfl) (by kernel_rfl) (by kernel_rfl) (by kernel_rfl) (fun _ _ _ h => h) (Or.inl ⟨by kernel_rfl, ?_⟩) (by assumption) ?_; rotate_left 1; (focus (intro w hSw; (try dsimp only at hSw); simp only [List.getElem_toArray, List.getElem_cons_succ, List.getElem_cons_zero]; all_goals go_simp; all_goals (try with_reducible rfl))); (try simp only [Act.put, List.getElem_toArray, List.getElem_cons_succ, List.getElem_cons_zero, List.setIfInBounds_toArray, List.set_cons_zero, List.set_cons_succ])
  refine wpAnyH_take (i := 10) (v := ?_) (by rfl) (by kernel_rfl) (by kernel_rfl) (by kernel_rfl) (fun _ _ _ h => h) (Or.inl ⟨by kernel_rfl, ?_⟩) (by assumption) ?_; rotate_left 1; (focus (intro w hSw; (try dsimp only at hSw); simp only [List.getElem_toArray, List.getElem_cons_succ, List.getElem_cons_zero]; all_goals go_simp; all_goals (try with_reducible rfl))); (try simp only [Act.put, List.getElem_toArray, List.getElem_cons_succ, List.getElem_cons_zero, List.setIfInBounds_toArray, List.set_cons_zero, List.set_cons_succ])
  refine wpAnyH_ready (rs := [11]) (by kernel_rfl) (by simp) ?_; refine AllReadyH.cons (by rfl) (fun K hK => ?_) AllReadyH.nil; rw [if_pos (by kernel_rfl)]; simp only [List.getElem_toArray, List.getElem_cons_succ, List.getElem_cons_zero]
  go_wp2_with (first
    | (go_at_call 19; (with_reducible refine (nmake_full vs vr a m c2 kk hx hk _ HEd.out HD.out.mm.sv.st.nd HSr.out hno z hF2 hl2).mono ?_); rintro e w2 ⟨rfl, hb2⟩; have HB2 := Lib.hid (HBD.out.trans (hb2.mono HBD.out.size)); have HW2 := Lib.hid (HD.out.below hb2); clear hb2))
  refine hK.out _ _ (HS7.out _ HW2.out (UpT.below HB2.out)) (fun hHeld => ?_)
  clear hK K
  (try simp only [Act.put, List.getElem_toArray, List.getElem_cons_succ, List.getElem_cons_zero, List.setIfInBounds_toArray, List.set_cons_zero, List.set_cons_succ])
  refine wpAnyH_take (i := 12) (v := ?_) (by rfl) (by kernel_rfl) (by kernel_rfl) (by kernel_rfl) (fun _ _ _ h => h) (Or.inl ⟨by kernel_rfl, ?_⟩) (by assumption) ?_; rotate_left 1; (focus (intro w hSw; (try dsimp only at hSw); simp only [List.getElem_toArray, List.getElem_cons_succ, List.getElem_cons_zero]; all_goals go_simp; all_goals (try with_reducible rfl))); (try simp only [Act.put, List.getElem_toArray, List.getElem_cons_succ, List.getElem_cons_zero, List.setIfInBounds_toArray, List.set_cons_zero, List.set_cons_succ])
  refine wpAnyH_take (i := 13) (v := ?_) (by rfl) (by kernel_rfl) (by kernel_rfl) (by kernel_rfl) (fun _ _ _ h => h) (Or.inl ⟨by kernel_rfl, ?_⟩) (by assumption) ?_; rotate_left 1; (focus (intro w hSw; (try dsimp only at hSw); simp only [List.getElem_toArray, List.getElem_cons_succ, List.getElem_cons_zero]; all_goals go_simp; all_goals (try with_reducible rfl))); (try simp only [Act.put, List.getElem_toArray, List.getElem_cons_succ, List.getElem_cons_zero, List.setIfInBounds_toArray, List.set_cons_zero, List.set_cons_succ])
  refine wpAnyH_take (i := 14) (v := ?_) (by rfl) (by kernel_rfl) (by kernel_rfl) (by kernel_rfl) (fun _ _ _ h => h) (Or.inl ⟨by kernel_rfl, ?_⟩) (by assumption) ?_; rotate_left 1; (focus (intro w hSw; (try dsimp only at hSw); simp only [List.getElem_toArray, List.getElem_cons_succ, List.getElem_cons_zero]; all_goals go_simp; all_goals (try with_reducible rfl))); (try simp only [Act.put, List.getElem_toArray, List.getElem_cons_succ, List.getElem_cons_zero, List.setIfInBounds_toArray, List.set_cons_zero, List.set_cons_succ])
  refine wpAnyH_take (i := 15) (v := ?_) (by rfl) (by kernel_rfl) (by kernel_rfl) (by kernel_rfl) (fun _ _ _ h => h) (Or.inl ⟨by kernel_rfl, ?_⟩) (by assumption) ?_; rotate_left 1; (focus (intro w hSw; (try dsimp only at hSw); simp only [List.getElem_toArray, List.getElem_cons_succ, List.getElem_cons_zero]; all_goals go_simp; all_goals (try with_reducible rfl))); (try simp only [Act.put, List.getElem_toArray, List.getElem_cons_succ, List.getElem_cons_zero, List.setIfInBounds_toArray, List.set_cons_zero, List.set_cons_succ])
  refine wpAnyH_take (i := 16) (v := ?_) (by rfl) (by kernel_rfl) (by kernel_rfl) (by kernel_rfl) (fun _ _ _ h => h) (Or.inl ⟨by kernel_rfl, ?_⟩) (by assumption) ?_; rotate_left 1; (focus (intro w hSw; (try dsimp only at hSw); simp only [List.getElem_toArray, List.getElem_cons_succ, List.getElem_cons_zero]; all_goals go_simp; all_goals (try with_reducible rfl))); (try simp only [Act.put, List.getElem_toArray, List.getElem_cons_succ, List.getElem_cons_zero, List.setIfInBounds_toArray, List.set_cons_zero, List.set_cons_succ])
  refine wpAnyH_take (i := 17) (v := ?_) (by rfl) (by kernel_rfl) (by kernel_rfl) (by kernel_rfl) (fun _ _ _ h => h) (Or.inl ⟨by kernel_rfl, ?_⟩) (by assumption) ?_; rotate_left 1; (focus (intro w hSw; (try dsimp only at hSw); simp only [List.getElem_toArray, List.getElem_cons_succ, List.getElem_cons_zero]; all_goals go_simp; all_goals (try with_reducible rfl))); (try simp only [Act.put, List.getElem_toArray, List.getElem_cons_succ, List.getElem_cons_zero, List.setIfInBounds_toArray, List.set_cons_zero, List.set_cons_succ])
  refine wpAnyH_done (by kernel_rfl) ?_ _
  refine NoPanic.normal ?_
  go_wp2_with fail
  go_ret3
  exact ⟨rfl, HB2.out⟩
set_option maxRecDepth 100000 in
set_option maxHeartbeats 1000000 in
theorem bpgcl_full {w0 : World} {L : BLoc} {D : BSt} (x y : Nat) (a : Option Addr) (m c2 : Nat) (xs : List Int) (hm : Hid (xs.length = m)) (hx : m ≤ 32) (hno : Hid (∀ i, i < L.b.n → freeB D.pt D.pv i = false)) (z : Addr) (w : World) (h : BW w0 w L D) (hxy : L.T ≤ x ∧ x < w.heap.size ∧ L.T ≤ y ∧ y < w.heap.size) (cx : w.cell? ⟨x, 0, none⟩ = some (.pointer (some ⟨L.P, 0, none⟩))) (cy : w.cell? ⟨y, 0, none⟩ = some (.slice a m c2)) (hF : w.cell? ⟨4, 0, none⟩ = some (eV z)) (hl : 4 < w.heap.size) :
    Calls Tryd.prog 150 #[.pointer (some ⟨x, 0, none⟩), .pointer (some ⟨y, 0, none⟩)] w fun e w' => e = .returned (.tuple #[.int .i64 0, .int .i64 0, eV z]) ∧ Below w.heap.size w w' := by
  obtain ⟨wD, hwD⟩ : ∃ wD, wD = w.drew := ⟨_, rfl⟩
  have hbD : Below w.heap.size w wD := by rw [hwD]; exact (Below.refl _ _).drew
  have HD := Lib.hid (h.below hbD)
  have HBD := Lib.hid hbD
  have hF2 := (hbD.cell (p := ⟨4, 0, none⟩) hl).trans hF
  have hl2 := Nat.lt_of_lt_of_le hl hbD.size
  have HS7 : Hid (∀ W, BW w0 W L D → UpT L.T w W → (World.cell? W ⟨x, 0, none⟩ = some (.pointer (some ⟨L.P, 0, none⟩)) ∧ World.cell? W ⟨L.P, 1, none⟩ = some (.pointer (some ⟨L.mb, 0, none⟩)) ∧ World.cell? W ⟨L.mb, 0, none⟩ = some (.pointer (some ⟨L.S, 0, none⟩)) ∧ World.cell? W ⟨L.S, 1, none⟩ = some (.pointer (some ⟨L.b.P, 0, none⟩)) ∧ World.cell? W ⟨y, 0, none⟩ = some (.slice a m c2))) := Lib.hid (fun W hW hu => ⟨(World.cell?_of_block (a := ⟨x, 0, none⟩) (hu.2 x hxy.1 hxy.2.1)).trans cx, hW.kk.f1, hW.mm.m0, hW.mm.sv.st.s1, (World.cell?_of_block (a := ⟨y, 0, none⟩) (hu.2 y hxy.2.2.1 hxy.2.2.2)).trans cy⟩)
  have hS0 : (World.cell? wD ⟨x, 0, none⟩ = some (.pointer (some ⟨L.P, 0, none⟩)) ∧ World.cell? wD ⟨L.P, 1, none⟩ = some (.pointer (some ⟨L.mb, 0, none⟩)) ∧ World.cell? wD ⟨L.mb, 0, none⟩ = some (.pointer (some ⟨L.S, 0, none⟩)) ∧ World.cell? wD ⟨L.S, 1, none⟩ = some (.pointer (some ⟨L.b.P, 0, none⟩)) ∧ World.cell? wD ⟨y, 0, none⟩ = some (.slice a m c2)) := ⟨(hbD.cell (p := ⟨x, 0, none⟩) hxy.2.1).trans cx, HD.out.kk.f1, HD.out.mm.m0, HD.out.mm.sv.st.s1, (hbD.cell (p := ⟨y, 0, none⟩) hxy.2.2.2).trans cy⟩
  have HLT := Lib.hid h.lowT
  clear h cx cy hbD hF
  go_enter Tryd.func150, Tryd.ntmps150
  go_upto_region 1 with fail
  refine wp_region_noPanic ?_
  refine wp_region_held_drew (S := fun w' => (World.cell? w' ⟨x, 0, none⟩ = some (.pointer (some ⟨L.P, 0, none⟩)) ∧ World.cell? w' ⟨L.P, 1, none⟩ = some (.pointer (some ⟨L.mb, 0, none⟩)) ∧ World.cell? w' ⟨L.mb, 0, none⟩ = some (.pointer (some ⟨L.S, 0, none⟩)) ∧ World.cell? w' ⟨L.S, 1, none⟩ = some (.pointer (some ⟨L.b.P, 0, none⟩)) ∧ World.cell? w' ⟨y, 0, none⟩ = some (.slice a m c2))) (by kernel_rfl) (by rw [← hwD]; exact hS0) (fun hHeld => ?_)
  rw [← hwD] at hHeld ⊢
  clear hwD hS0
  refine wpAnyH_take (i := 0) (v := ?_) (by rfl) (by kernel_rfl) (by kernel_rfl) (by kernel_rfl) (fun _ _ _ h => h) (Or.inl ⟨by kernel_rfl, ?_⟩) (by assumption) ?_; rotate_left 1; (focus (intro w hSw; (try dsimp only at hSw); simp only [List.getElem_toArray, List.getElem_cons_succ, List.getElem_cons_zero]; all_goals go_simp; all_goals (try with_reducible rfl))); (try simp only [Act.put, List.getElem_toArray, List.getElem_cons_succ, List.getElem_cons_zero, List.setIfInBounds_toArray, List.set_cons_zero, List.set_cons_succ])
  refine wpAnyH_take (i := 1) (v := ?_) (by rfl) (by kernel_rfl) (by kernel_rfl) (by kernel_rfl) (fun _ _ _ h => h) (Or.inl ⟨by kernel_rfl, ?_⟩) (by assumption) ?_; rotate_left 1; (focus (intro w hSw; (try dsimp only at hSw); simp only [List.getElem_toArray, List.getElem_cons_succ, List.getElem_cons_zero]; all_goals go_simp; all_goals (try with_reducible rfl))); (try simp only [Act.put, List.getElem_toArray, List.getElem_cons_succ, List.getElem_cons_zero, List.setIfInBounds_toArray, List.set_cons_zero, List.set_cons_succ])
  refine wpAnyH_take (i := 2) (v := ?_) (by rfl) (by kernel_rfl) (by kernel_rfl) (by kernel_rfl) (fun _ _ _ h => h) (Or.inl ⟨by kernel_rfl, ?_⟩) (by assumption) ?_; rotate_left 1; (focus (intro w hSw; (try dsimp only at hSw); simp only [List.getElem_toArray, List.getElem_cons_succ, List.getElem_cons_zero]; all_goals go_simp; all_goals (try with_reducible rfl))); (try simp only [Act.put, List.getElem_toArray, List.getElem_cons_succ, List.getElem_cons_zero, List.setIfInBounds_toArray, List.set_cons_zero, List.set_cons_succ])
  refine wpAnyH_take (i := 3) (v := ?_) (by rfl) (by kernel_rfl) (by kernel_rfl) (by kernel_rfl) (fun _ _ _ h => h) (Or.inl ⟨by kernel_rfl, ?_⟩) (by assumption) ?_; rotate_left 1; (focus (intro w hSw; (try dsimp only at hSw); simp only [List.getElem_toArray, List.getElem_cons_succ, List.getElem_cons_zero]; all_goals go_simp; all_goals (try with_reducible rfl))); (try simp only [Act.put, List.getElem_toArray, List.getElem_cons_succ, List.getElem_cons_zero, List.setIfInBounds_toArray, List.set_cons_zero, List.set_cons_succ])
  refine wpAnyH_take (i := 4) (v := ?_) (by rfl) (by kernel_rfl) (by kernel_rfl) (by kernel_rfl) (fun _ _ _ h => h) (Or.inl ⟨by kernel_rfl, ?_⟩) (by assumption) ?_; rotate_left 1; (focus (intro w hSw; (try dsimp only at hSw); simp only [List.getElem_toArray, List.getElem_cons_succ, List.getElem_cons_zero]; all_goals go_simp; all_goals (try with_reducible rfl))); (try simp only [Act.put, List.getElem_toArray, List.getElem_cons_succ, List.getElem_cons_zero, List.setIfInBounds_toArray, List.set_cons_zero, List.set_cons_succ])
  refine wpAnyH_take (i := 5) (v := ?_) (by rfl) (by kernel_rfl) (by kernel_rfl) (by kernel_rfl) (fun _ _ _ h => h) (Or.inl ⟨by kernel_rfl, ?_⟩) (by assumption) ?_; rotate_left 1; (focus (intro w hSw; (try dsimp only at hSw); simp only [List.getElem_toArray, List.getElem_cons_succ, List.getElem_cons_zero]; all_goals go_simp; all_goals (try with_reducible rfl))); (try simp only [Act.put, List.getElem_toArray, List.getElem_cons_succ, List.getElem_cons_zero, List.setIfInBounds_toArray, List.set_cons_zero, List.set_cons_succ])
  refine wpAnyH_take (i := 6) (v := ?_) (by rfl) (by kernel_rfl) (by kernel_rfl) (by kernel_rfl) (fun _ _ _ h => h) (Or.inl ⟨by kernel_rfl, ?_⟩) (by assumption) ?_; rotate_left 1; (focus (intro w hSw; (try dsimp only at hSw); simp only [List.getElem_toArray, List.getElem_cons_succ, List.getElem_cons_zero]; all_goals go_simp; all_goals (try with_reducible rfl))); (try simp only [Act.put, List.getElem_toArray, List.getElem_cons_succ, List.getElem_cons_zero, List.setIfInBounds_toArray, List.set_cons_zero, List.set_cons_succ])
  refine wpAnyH_take (i := 7) (v := ?_) (by rfl) (by kernel_rfl) (by kernel_rfl) (by kernel_rfl) (fun _ _ _ h => h) (Or.inl ⟨by kernel_rfl, ?_⟩) (by assumption) ?_; rotate_left 1; (focus (intro w hSw; (try dsimp only at hSw); simp only [List.getElem_toArray, List.getElem_cons_succ, List.getElem_cons_zero]; all_goals go_simp; all_goals (try with_reducible rfl))); (try simp only [Act.put, List.getElem_toArray, List.getElem_cons_succ, List.getElem_cons_zero, List.setIfInBounds_toArray, List.set_cons_zero, List.set_cons_succ])
  refine wpAnyH_take (i := 8) (v := ?_) (by rfl) (by kernel_rfl) (by kernel_rfl) (by kernel_rfl) (fun _ _ _ h => h) (Or.inl ⟨by kernel_rfl, ?_⟩) (by assumption) ?_; rotate_left 1; (focus (intro w hSw; (try dsimp only at hSw); simp only [List.getElem_toArray, List.getElem_cons_succ, List.getElem_cons_zero]; all_goals go_simp; all_goals (try with_reducible rfl))); (try simp only [Act.put, List.getElem_toArray, List.getElem_cons_succ, List.getElem_cons_zero, List.setIfInBounds_toArray, List.set_cons_zero, List.set_cons_succ])
  refine wpAnyH_take (i := 9) (v := ?_) (by rfl) (by kernel_rfl) (by kernel_rfl) (by kernel_rfl) (fun _ _ _ h => h) (Or.inl ⟨by kernel_rfl, ?_⟩) (by assumption) ?_; rotate_left 1; (focus (intro w hSw; (try dsimp only at hSw); simp only [List.getElem_toArray, List.getElem_cons_succ, List.getElem_cons_zero]; all_goals go_simp; all_goals (try with_reducible rfl))); (try simp only [Act.put, List.getElem_toArray, List.getElem_cons_succ, List.getElem_cons_zero, List.setIfInBounds_toArray, List.set_cons_zero, List.set_cons_succ])
  refine wpAnyH_take (i := 10) (v := ?_) (by rfl) (by kernel_rfl) (by kernel_rfl) (by kernel_rfl) (fun _ _ _ h => h) (Or.inl ⟨by kernel_rfl, ?_⟩) (by assumption) ?_; rotate_left 1; (focus (intro w hSw; (try dsimp only at hSw); simp only [List.getElem_toArray, List.getElem_cons_succ, List.getElem_cons_zero]; all_goals go_simp; all_goals (try with_reducible rfl))); (try simp only [Act.put, List.getElem_toArray, List.getElem_cons_succ, List.getElem_cons_zero, List.setIfInBounds_toArray, List.set_cons_zero, List.set_cons_succ])
  refine wpAnyH_ready (rs := [11]) (by kernel_rfl) (by simp) ?_; refine AllReadyH.cons (by rfl) (fun K hK => ?_) AllReadyH.nil; rw [if_pos (by kernel_rfl)]; simp only [List.getElem_toArray, List.getElem_cons_succ, List.getElem_cons_zero]
  go_wp2_with (first
    | (go_at_call 34; (with_reducible refine (pmake_fullg a m c2 hx _ HD.out.mm.sv.st.pg hno z _ hF2 hl2).mono ?_); rintro e w2 ⟨rfl, hb2⟩; have HB2 := Lib.hid (HBD.out.trans (hb2.mono HBD.out.size)); have HW2 := Lib.hid (HD.out.below hb2); clear hb2))
  refine hK.out _ _ (HS7.out _ HW2.out (UpT.below HB2.out)) (fun hHeld => ?_)
  clear hK K
  (try simp only [Act.put, List.getElem_toArray, List.getElem_cons_succ, List.getElem_cons_zero, List.setIfInBounds_toArray, List.set_cons_zero, List.set_cons_succ])
  refine wpAnyH_take (i := 12) (v := ?_) (by rfl) (by kernel_rfl) (by kernel_rfl) (by kernel_rfl) (fun _ _ _ h => h) (Or.inl ⟨by kernel_rfl, ?_⟩) (by assumption) ?_; rotate_left 1; (focus (intro w hSw; (try dsimp only at hSw); simp only [List.getElem_toArray, List.getElem_cons_succ, List.getElem_cons_zero]; all_goals go_simp; all_goals (try with_reducible rfl))); (try simp only [Act.put, List.getElem_toArray, List.getElem_cons_succ, List.getElem_cons_zero, List.setIfInBounds_toArray, List.set_cons_zero, List.set_cons_succ])
  refine wpAnyH_take (i := 13) (v := ?_) (by rfl) (by kernel_rfl) (by kernel_rfl) (by kernel_rfl) (fun _ _ _ h => h) (Or.inl ⟨by kernel_rfl, ?_⟩) (by assumption) ?_; rotate_left 1; (focus (intro w hSw; (try dsimp only at hSw); simp only [List.getElem_toArray, List.getElem_cons_succ, List.getElem_cons_zero]; all_goals go_simp; all_goals (try with_reducible rfl))); (try simp only [Act.put, List.getElem_toArray, List.getElem_cons_succ, List.getElem_cons_zero, List.setIfInBounds_toArray, List.set_cons_zero, List.set_cons_succ])
  refine wpAnyH_take (i := 14) (v := ?_) (by rfl) (by kernel_rfl) (by kernel_rfl) (by kernel_rfl) (fun _ _ _ h => h) (Or.inl ⟨by kernel_rfl, ?_⟩) (by assumption) ?_; rotate_left 1; (focus (intro w hSw; (try dsimp only at hSw); simp only [List.getElem_toArray, List.getElem_cons_succ, List.getElem_cons_zero]; all_goals go_simp; all_goals (try with_reducible rfl))); (try simp only [Act.put, List.getElem_toArray, List.getElem_cons_succ, List.getElem_cons_zero, List.setIfInBounds_toArray, List.set_cons_zero, List.set_cons_succ])
  refine wpAnyH_take (i := 15) (v := ?_) (by rfl) (by kernel_rfl) (by kernel_rfl) (by kernel_rfl) (fun _ _ _ h => h) (Or.inl ⟨by kernel_rfl, ?_⟩) (by assumption) ?_; rotate_left 1; (focus (intro w hSw; (try dsimp only at hSw); simp only [List.getElem_toArray, List.getElem_cons_succ, List.getElem_cons_zero]; all_goals go_simp; all_goals (try with_reducible rfl))); (try simp only [Act.put, List.getElem_toArray, List.getElem_cons_succ, List.getElem_cons_zero, List.setIfInBounds_toArray, List.set_cons_zero, List.set_cons_succ])
  refine wpAnyH_take (i := 16) (v := ?_) (by rfl) (by kernel_rfl) (by kernel_rfl) (by kernel_rfl) (fun _ _ _ h => h) (Or.inl ⟨by kernel_rfl, ?_⟩) (by assumption) ?_; rotate_left 1; (focus (intro w hSw; (try dsimp only at hSw); simp only [List.getElem_toArray, List.getElem_cons_succ, List.getElem_cons_zero]; all_goals go_simp; all_goals (try with_reducible rfl))); (try simp only [Act.put, List.getElem_toArray, List.getElem_cons_succ, List.getElem_cons_zero, List.setIfInBounds_toArray, List.set_cons_zero, List.set_cons_succ])
  refine wpAnyH_take (i := 17) (v := ?_) (by rfl) (by kernel_rfl) (by kernel_rfl) (by kernel_rfl) (fun _ _ _ h => h) (Or.inl ⟨by kernel_rfl, ?_⟩) (by assumption) ?_; rotate_left 1; (focus (intro w hSw; (try dsimp only at hSw); simp only [List.getElem_toArray, List.getElem_cons_succ, List.getElem_cons_zero]; all_goals go_simp; all_goals (try with_reducible rfl))); (try simp only [Act.put, List.getElem_toArray, List.getElem_cons_succ, List.getElem_cons_zero, List.setIfInBounds_toArray, List.set_cons_zero, List.set_cons_succ])
  refine wpAnyH_done (by kernel_rfl) ?_ _
  refine NoPanic.normal ?_
  go_wp2_with fail
  go_ret3
  exact ⟨rfl, HB2.out⟩
set_option maxRecDepth 100000 in
set_option maxHeartbeats 2000000 in
theorem bbuyn_full {w0 : World} {L : BLoc} {D : BSt} (q : Nat) (hq : q < D.nb) (x y : Nat) (z : Addr) (hfull : Hid ((chL D.pr q).any (fullB D.us D.lm) = false)) (w : World) (h : BW w0 w L D)
    (hcl : ∀ W, Below w.heap.size w W → Calls Tryd.prog 148 #[.pointer (some ⟨x, 0, none⟩), .pointer (some ⟨y, 0, none⟩)] W fun e w' => e = .returned (.tuple #[.int .i64 0, .int .i64 0, eV z]) ∧ Below W.heap.size W w') :
    Calls Tryd.prog 146 #[.pointer (some ⟨L.P, 0, none⟩), .int .i64 (q : Int), .slice (some ⟨L.G1, 0, none⟩) 256 256, .nilIface, (Value.func (.func 148) #[] #[.pointer (some ⟨x, 0, none⟩), .pointer (some ⟨y, 0, none⟩)])] w fun e w' => e = .returned (.tuple #[.int .i64 0, .int .i64 0, eV z]) ∧ Below w.heap.size w w' := by
  have H := Lib.hid h
  have HCl := Lib.hid hcl
  have hn := h.n256
  have hnn := h.nn
  have hin := chL_in h.pk h.nn (by omega) q hq
  obtain ⟨l, hl⟩ : ∃ l, Hid (chL D.pr q = l) := ⟨_, Lib.hid rfl⟩
  rw [hl.out] at hin hfull
  obtain ⟨m, hm⟩ : ∃ m, Hid (l.length = m) := ⟨_, Lib.hid rfl⟩
  have hm1 : m ≤ 1000 := by rw [← hm.out]; omega
  have HIn := Lib.hid hin.1
  have HPk := Lib.hid h.pk
  have HTw := Lib.hid h.tw
  have f0 := h.kk.f0
  clear h hcl hin
  go_enter Tryd.func146, Tryd.ntmps146
  go_wp2_with (first
    | (go_at_call 25; (with_reducible refine (athere_in q (by omega) true (Lib.hid (thN_at hq)) _ H.out.kk.ar).mono ?_); rintro e w1 ⟨rfl, rfl⟩)
    | (go_at_call 155; (with_reducible refine (bchain_is (q : Int) D.nb (by omega) (by omega) hnn (Lib.hid (fun i hi => thN_at hi)) HPk _ H.out.kk).mono ?_); rintro e w1 ⟨v9, rfl, hr, hb⟩; rw [hl.out] at hr; obtain ⟨a9, c9, hv9⟩ := own_slice hr m hm; have HRw := Lib.hid (rowT hr hv9 hm.out HTw.out); subst hv9; have H1 := Lib.hid (H.out.below hb); have HB1 := Lib.hid hb; clear hr hb f0)
    | (go_at_call 186; (with_reducible refine (bcf_is l m hm hm1 a9 c9 HIn false hfull _ H1.out.kk (fun i hi => by obtain ⟨g, h1, h2, h3, h4⟩ := HRw.out w1 (UpT.refl _ _) i hi; exact ⟨g, h1, h3, h4⟩)).mono ?_); rintro e w2 ⟨rfl, hb⟩; have HB2 := Lib.hid hb; clear hb)
    | (go_at_call 148; (with_reducible refine (HCl.out _ (HB1.out.trans (HB2.out.mono HB1.out.size))).mono ?_); rintro e w3 ⟨rfl, hb⟩; have HB3 := Lib.hid ((HB1.out.trans (HB2.out.mono HB1.out.size)).trans (hb.mono (Nat.le_trans HB1.out.size HB2.out.size))); clear hb))
  go_ret3
  exact ⟨rfl, HB3.out⟩
set_option maxRecDepth 100000 in
set_option maxHeartbeats 2000000 in
theorem bbuyp_full {w0 : World} {L : BLoc} {D : BSt} (q : Nat) (hq : q < D.nb) (x y : Nat) (z : Addr) (hfull : Hid ((chL D.pr q).any (fullB D.us D.lm) = false)) (w : World) (h : BW w0 w L D)
    (hcl : ∀ W, Below w.heap.size w W → Calls Tryd.prog 150 #[.pointer (some ⟨x, 0, none⟩), .pointer (some ⟨y, 0, none⟩)] W fun e w' => e = .returned (.tuple #[.int .i64 0, .int .i64 0, eV z]) ∧ Below W.heap.size W w') :
    Calls Tryd.prog 146 #[.pointer (some ⟨L.P, 0, none⟩), .int .i64 (q : Int), .slice (some ⟨L.G2, 0, none⟩) 256 256, .nilIface, (Value.func (.func 150) #[] #[.pointer (some ⟨x, 0, none⟩), .pointer (some ⟨y, 0, none⟩)])] w fun e w' => e = .returned (.tuple #[.int .i64 0, .int .i64 0, eV z]) ∧ Below w.heap.size w w' := by
  have H := Lib.hid h
  have HCl := Lib.hid hcl
  have hn := h.n256
  have hnn := h.nn
  have hin := chL_in h.pk h.nn (by omega) q hq
  obtain ⟨l, hl⟩ : ∃ l, Hid (chL D.pr q = l) := ⟨_, Lib.hid rfl⟩
  rw [hl.out] at hin hfull
  obtain ⟨m, hm⟩ : ∃ m, Hid (l.length = m) := ⟨_, Lib.hid rfl⟩
  have hm1 : m ≤ 1000 := by rw [← hm.out]; omega
  have HIn := Lib.hid hin.1
  have HPk := Lib.hid h.pk
  have HTw := Lib.hid h.tw
  have f0 := h.kk.f0
  clear h hcl hin
  go_enter Tryd.func146, Tryd.ntmps146
  go_wp2_with (first
    | (go_at_call 25; (with_reducible refine (athere_in q (by omega) true (Lib.hid (thN_at hq)) _ H.out.kk.ar).mono ?_); rintro e w1 ⟨rfl, rfl⟩)
    | (go_at_call 155; (with_reducible refine (bchain_is (q : Int) D.nb (by omega) (by omega) hnn (Lib.hid (fun i hi => thN_at hi)) HPk _ H.out.kk).mono ?_); rintro e w1 ⟨v9, rfl, hr, hb⟩; rw [hl.out] at hr; obtain ⟨a9, c9, hv9⟩ := own_slice hr m hm; have HRw := Lib.hid (rowT hr hv9 hm.out HTw.out); subst hv9; have H1 := Lib.hid (H.out.below hb); have HB1 := Lib.hid hb; clear hr hb f0)
    | (go_at_call 186; (with_reducible refine (bcf_is l m hm hm1 a9 c9 HIn false hfull _ H1.out.kk (fun i hi => by obtain ⟨g, h1, h2, h3, h4⟩ := HRw.out w1 (UpT.refl _ _) i hi; exact ⟨g, h1, h3, h4⟩)).mono ?_); rintro e w2 ⟨rfl, hb⟩; have HB2 := Lib.hid hb; clear hb)
    | (go_at_call 150; (with_reducible refine (HCl.out _ (HB1.out.trans (HB2.out.mono HB1.out.size))).mono ?_); rintro e w3 ⟨rfl, hb⟩; have HB3 := Lib.hid ((HB1.out.trans (HB2.out.mono HB1.out.size)).trans (hb.mono (Nat.le_trans HB1.out.size HB2.out.size))); clear hb))
  go_ret3
  exact ⟨rfl, HB3.out⟩
set_option maxRecDepth 100000 in
set_option maxHeartbeats 2000000 in
theorem bnode_full {w0 : World} {L : BLoc} {D : BSt} (q : Nat) (hq : q < D.nb) (vs vr : Value) (a : Option Addr) (m c2 : Nat) (kk : Nat → Nat → Int) (hk : Hid (∀ i, i < m → KRight kk i)) (hx0 : m ≤ 16) (hno : Hid (∀ i, i < L.a.n → freeB D.nt D.nv i = false)) (z : Addr) (hfull : Hid ((chL D.pr q).any (fullB D.us D.lm) = false)) (w : World) (h : BW w0 w L D) (hF : w.cell? ⟨4, 0, none⟩ = some (eV z)) (hl : 4 < w.heap.size) (hE : ErrsAt vs vr w) (hs : SrcV L w a m kk) :
    Calls Tryd.prog 80 #[.pointer (some ⟨L.P, 0, none⟩), .int .i64 (q : Int), .slice a m c2] w fun e w' => e = .returned (.tuple #[.int .i64 0, .int .i64 0, eV z]) ∧ Below w.heap.size w w' := by
  have H := Lib.hid h
  have HS := Lib.hid hs
  have HLT := Lib.hid h.lowT
  have HTw := Lib.hid h.tw
  have HE := Lib.hid hE
  clear h hs hE
  go_enter Tryd.func80, Tryd.ntmps80
  go_upto_region 1 with fail
  generalize hw2 : World.alloc (World.alloc w _) _ = w2
  have HB2 : Hid (Below w.heap.size w w2) := Lib.hid (by rw [← hw2]; exact ((Below.refl _ _).alloc (Nat.le_refl _) _).alloc (by simp) _)
  have HX : Hid (∀ W, UpT w.heap.size w2 W → World.cell? W ⟨w.heap.size, 0, none⟩ = some (.pointer (some ⟨L.P, 0, none⟩)) ∧ World.cell? W ⟨w.heap.size + 1, 0, none⟩ = some (.slice a m c2)) := Lib.hid (fun W hu => by
    have e1 : w2.cell? ⟨w.heap.size, 0, none⟩ = some (.pointer (some ⟨L.P, 0, none⟩)) := by rw [← hw2]; simp
    have e2 : w2.cell? ⟨w.heap.size + 1, 0, none⟩ = some (.slice a m c2) := by rw [← hw2]; simp
    have sz : w2.heap.size = w.heap.size + 1 + 1 := by rw [← hw2]; simp
    exact ⟨(World.cell?_of_block (a := ⟨w.heap.size, 0, none⟩) (hu.2 w.heap.size (by omega) (by omega))).trans e1, (World.cell?_of_block (a := ⟨w.heap.size + 1, 0, none⟩) (hu.2 (w.heap.size + 1) (by omega) (by omega))).trans e2⟩)
  have HSz : Hid (w2.heap.size = w.heap.size + 1 + 1) := Lib.hid (by rw [← hw2]; simp)
  clear hw2
  obtain ⟨wD, hwD⟩ : ∃ wD, wD = w2.drew := ⟨_, rfl⟩
  have HBD : Hid (Below w2.heap.size w2 wD) := Lib.hid (by rw [hwD]; exact (Below.refl _ _).drew)
  have HS7 : Hid (∀ W D', BW w0 W L D' → UpT w.heap.size w2 W → (World.cell? W ⟨w.heap.size, 0, none⟩ = some (.pointer (some ⟨L.P, 0, none⟩)) ∧ World.cell? W ⟨L.P, 4, none⟩ = some (.slice (some ⟨L.G1, 0, none⟩) 256 256) ∧ World.cell? W ⟨w.heap.size + 1, 0, none⟩ = some (.slice a m c2))) := Lib.hid (fun W D' hW hu => ⟨(HX.out W hu).1, hW.kk.f4, (HX.out W hu).2⟩)
  have HWD := Lib.hid ((H.out.below HB2.out).below HBD.out)
  have HEd := Lib.hid ((HE.out.up HB2.out).up HBD.out)
  have hS0 := HS7.out _ _ HWD.out (UpT.below HBD.out)
  refine wp_region_noPanic ?_
  refine wp_region_held_drew (S := fun w' => (World.cell? w' ⟨w.heap.size, 0, none⟩ = some (.pointer (some ⟨L.P, 0, none⟩)) ∧ World.cell? w' ⟨L.P, 4, none⟩ = some (.slice (some ⟨L.G1, 0, none⟩) 256 256) ∧ World.cell? w' ⟨w.heap.size + 1, 0, none⟩ = some (.slice a m c2))) (by kernel_rfl) (by rw [← hwD]; exact hS0) (fun hHeld => ?_)
  rw [← hwD] at hHeld ⊢
  clear hwD hS0
  refine wpAnyH_take (i := 0) (v := ?_) (by rfl) (by kernel_rfl) (by kernel_rfl) (by kernel_rfl) (fun _ _ _ h => h) (Or.inl ⟨by kernel_rfl, ?_⟩) (by assumption) ?_; rotate_left 1; (focus (intro w hSw; (try dsimp only at hSw); simp only [List.getElem_toArray, List.getElem_cons_succ, List.getElem_cons_zero]; all_goals go_simp; all_goals (try with_reducible rfl))); (try simp only [Act.put, List.getElem_toArray, List.getElem_cons_succ, List.getElem_cons_zero, List.setIfInBounds_toArray, List.set_cons_zero, List.set_cons_succ])
  refine wpAnyH_take (i := 1) (v := ?_) (by rfl) (by kernel_rfl) (by kernel_rfl) (by kernel_rfl) (fun _ _ _ h => h) (Or.inl ⟨by kernel_rfl, ?_⟩) (by assumption) ?_; rotate_left 1; (focus (intro w hSw; (try dsimp only at hSw); simp only [List.getElem_toArray, List.getElem_cons_succ, List.getElem_cons_zero]; all_goals go_simp; all_goals (try with_reducible rfl))); (try simp only [Act.put, List.getElem_toArray, List.getElem_cons_succ, List.getElem_cons_zero, List.setIfInBounds_toArray, List.set_cons_zero, List.set_cons_succ])
  refine wpAnyH_take (i := 2) (v := ?_) (by rfl) (by kernel_rfl) (by kernel_rfl) (by kernel_rfl) (fun _ _ _ h => h) (Or.inl ⟨by kernel_rfl, ?_⟩) (by assumption) ?_; rotate_left 1; (focus (intro w hSw; (try dsimp only at hSw); simp only [List.getElem_toArray, List.getElem_cons_succ, List.getElem_cons_zero]; all_goals go_simp; all_goals (try with_reducible rfl))); (try simp only [Act.put, List.getElem_toArray, List.getElem_cons_succ, List.getElem_cons_zero, List.setIfInBounds_toArray, List.set_cons_zero, List.set_cons_succ])
  refine wpAnyH_take (i := 3) (v := ?_) (by rfl) (by kernel_rfl) (by kernel_rfl) (by kernel_rfl) (fun _ _ _ h => h) (Or.inl ⟨by kernel_rfl, ?_⟩) (by assumption) ?_; rotate_left 1; (focus (intro w hSw; (try dsimp only at hSw); simp only [List.getElem_toArray, List.getElem_cons_succ, List.getElem_cons_zero]; all_goals go_simp; all_goals (try with_reducible rfl))); (try simp only [Act.put, List.getElem_toArray, List.getElem_cons_succ, List.getElem_cons_zero, List.setIfInBounds_toArray, List.set_cons_zero, List.set_cons_succ])
  refine wpAnyH_take (i := 4) (v := ?_) (by rfl) (by kernel_rfl) (by kernel_rfl) (by kernel_rfl) (fun _ _ _ h => h) (Or.inl ⟨by kernel_rfl, ?_⟩) (by assumption) ?_; rotate_left 1; (focus (intro w hSw; (try dsimp only at hSw); simp only [List.getElem_toArray, List.getElem_cons_succ, List.getElem_cons_zero]; all_goals go_simp; all_goals (try with_reducible rfl))); (try simp only [Act.put, List.getElem_toArray, List.getElem_cons_succ, List.getElem_cons_zero, List.setIfInBounds_toArray, List.set_cons_zero, List.set_cons_succ])
  refine wpAnyH_take (i := 5) (v := ?_) (by rfl) (by kernel_rfl) (by kernel_rfl) (by kernel_rfl) (fun _ _ _ h => h) (Or.inl ⟨by kernel_rfl, ?_⟩) (by assumption) ?_; rotate_left 1; (focus (intro w hSw; (try dsimp only at hSw); simp only [List.getElem_toArray, List.getElem_cons_succ, List.getElem_cons_zero]; all_goals go_simp; all_goals (try with_reducible rfl))); (try simp only [Act.put, List.getElem_toArray, List.getElem_cons_succ, List.getElem_cons_zero, List.setIfInBounds_toArray, List.set_cons_zero, List.set_cons_succ])
  refine wpAnyH_take (i := 6) (v := ?_) (by rfl) (by kernel_rfl) (by kernel_rfl) (by kernel_rfl) (fun _ _ _ h => h) (Or.inl ⟨by kernel_rfl, ?_⟩) (by assumption) ?_; rotate_left 1; (focus (intro w hSw; (try dsimp only at hSw); simp only [List.getElem_toArray, List.getElem_cons_succ, List.getElem_cons_zero]; all_goals go_simp; all_goals (try with_reducible rfl))); (try simp only [Act.put, List.getElem_toArray, List.getElem_cons_succ, List.getElem_cons_zero, List.setIfInBounds_toArray, List.set_cons_zero, List.set_cons_succ])
  refine wpAnyH_take (i := 8) (v := ?_) (by rfl) (by kernel_rfl) (by kernel_rfl) (by kernel_rfl) (fun _ _ _ h => h) (Or.inl ⟨by kernel_rfl, ?_⟩) (by assumption) ?_; rotate_left 1; (focus (intro w hSw; (try dsimp only at hSw); simp only [List.getElem_toArray, List.getElem_cons_succ, List.getElem_cons_zero]; all_goals go_simp; all_goals (try with_reducible rfl))); (try simp only [Act.put, List.getElem_toArray, List.getElem_cons_succ, List.getElem_cons_zero, List.setIfInBounds_toArray, List.set_cons_zero, List.set_cons_succ])
  refine wpAnyH_ready (rs := [7]) (by kernel_rfl) (by simp) ?_; refine AllReadyH.cons (by rfl) (fun K hK => ?_) AllReadyH.nil; rw [if_pos (by kernel_rfl)]; simp only [List.getElem_toArray, List.getElem_cons_succ, List.getElem_cons_zero]
  go_wp2_with (first
    | (go_at_call 147; (with_reducible refine (bnodeof_ok vs vr a m c2 kk hk hx0 _ HEd.out (fun B G hB hG => HS.out.run _ (HB2.out.trans (HBD.out.mono HB2.out.size)) B G (.inr (Nat.le_trans (Nat.le_trans HB2.out.size HBD.out.size) hB)) (.inr (Nat.le_trans (Nat.le_trans HB2.out.size HBD.out.size) hG)))).mono ?_); rintro e w3 ⟨rfl, hb⟩; have HB3 := Lib.hid (HBD.out.trans (hb.mono HBD.out.size)); have HW3 := Lib.hid (HWD.out.below hb); clear hb))
  refine hK.out _ _ (HS7.out _ _ HW3.out (UpT.below HB3.out)) (fun hHeld => ?_)
  clear hK K
  (try simp only [Act.put, List.getElem_toArray, List.getElem_cons_succ, List.getElem_cons_zero, List.setIfInBounds_toArray, List.set_cons_zero, List.set_cons_succ])
  refine wpAnyH_ready (rs := [9]) (by kernel_rfl) (by simp) ?_; refine AllReadyH.cons (by rfl) (fun K hK => ?_) AllReadyH.nil; rw [if_pos (by kernel_rfl)]; simp only [List.getElem_toArray, List.getElem_cons_succ, List.getElem_cons_zero]
  have HCl : Hid (∀ W, Below w3.heap.size w3 W → Calls Tryd.prog 148 #[.pointer (some ⟨w.heap.size, 0, none⟩), .pointer (some ⟨w.heap.size + 1, 0, none⟩)] W fun e w' => e = .returned (.tuple #[.int .i64 0, .int .i64 0, eV z]) ∧ Below W.heap.size W w') := Lib.hid (fun W hb => by
    have hbw : Below w2.heap.size w2 W := HB3.out.trans (hb.mono HB3.out.size)
    have hx := HX.out W (UpT.below hbw)
    have h1 := hbw.size
    have h2 := HSz.out
    have h3 := HTw.out
    have h4 := HLT.out
    exact bndcl_full w.heap.size (w.heap.size + 1) vs vr a m c2 kk hk hx0 hno z W (HW3.out.below hb) (by omega) hx.1 hx.2 ((HE.out.up (HB2.out.trans (hbw.mono HB2.out.size)))) (((HB2.out.trans (hbw.mono HB2.out.size)).cell (p := ⟨4, 0, none⟩) hl).trans hF) (Nat.lt_of_lt_of_le hl (HB2.out.trans (hbw.mono HB2.out.size)).size) (HS.out.run W (HB2.out.trans (hbw.mono HB2.out.size)) _ _ (.inl (by omega)) (.inl (by omega))))
  go_wp2_with (first
    | (go_at_call 146; (with_reducible refine (bbuyn_full q hq w.heap.size (w.heap.size + 1) z hfull _ HW3.out HCl.out).mono ?_); rintro e w4 ⟨rfl, hb4⟩; have HW4 := Lib.hid (HW3.out.below hb4); have HB4 := Lib.hid (HB3.out.trans (hb4.mono HB3.out.size)); clear hb4))
  refine hK.out _ _ (HS7.out _ _ HW4.out (UpT.below HB4.out)) (fun hHeld => ?_)
  clear hK K
  (try simp only [Act.put, List.getElem_toArray, List.getElem_cons_succ, List.getElem_cons_zero, List.setIfInBounds_toArray, List.set_cons_zero, List.set_cons_succ])
  refine wpAnyH_take (i := 10) (v := ?_) (by rfl) (by kernel_rfl) (by kernel_rfl) (by kernel_rfl) (fun _ _ _ h => h) (Or.inl ⟨by kernel_rfl, ?_⟩) (by assumption) ?_; rotate_left 1; (focus (intro w hSw; (try dsimp only at hSw); simp only [List.getElem_toArray, List.getElem_cons_succ, List.getElem_cons_zero]; all_goals go_simp; all_goals (try with_reducible rfl))); (try simp only [Act.put, List.getElem_toArray, List.getElem_cons_succ, List.getElem_cons_zero, List.setIfInBounds_toArray, List.set_cons_zero, List.set_cons_succ])
  refine wpAnyH_take (i := 11) (v := ?_) (by rfl) (by kernel_rfl) (by kernel_rfl) (by kernel_rfl) (fun _ _ _ h => h) (Or.inl ⟨by kernel_rfl, ?_⟩) (by assumption) ?_; rotate_left 1; (focus (intro w hSw; (try dsimp only at hSw); simp only [List.getElem_toArray, List.getElem_cons_succ, List.getElem_cons_zero]; all_goals go_simp; all_goals (try with_reducible rfl))); (try simp only [Act.put, List.getElem_toArray, List.getElem_cons_succ, List.getElem_cons_zero, List.setIfInBounds_toArray, List.set_cons_zero, List.set_cons_succ])
  refine wpAnyH_take (i := 12) (v := ?_) (by rfl) (by kernel_rfl) (by kernel_rfl) (by kernel_rfl) (fun _ _ _ h => h) (Or.inl ⟨by kernel_rfl, ?_⟩) (by assumption) ?_; rotate_left 1; (focus (intro w hSw; (try dsimp only at hSw); simp only [List.getElem_toArray, List.getElem_cons_succ, List.getElem_cons_zero]; all_goals go_simp; all_goals (try with_reducible rfl))); (try simp only [Act.put, List.getElem_toArray, List.getElem_cons_succ, List.getElem_cons_zero, List.setIfInBounds_toArray, List.set_cons_zero, List.set_cons_succ])
  refine wpAnyH_take (i := 13) (v := ?_) (by rfl) (by kernel_rfl) (by kernel_rfl) (by kernel_rfl) (fun _ _ _ h => h) (Or.inl ⟨by kernel_rfl, ?_⟩) (by assumption) ?_; rotate_left 1; (focus (intro w hSw; (try dsimp only at hSw); simp only [List.getElem_toArray, List.getElem_cons_succ, List.getElem_cons_zero]; all_goals go_simp; all_goals (try with_reducible rfl))); (try simp only [Act.put, List.getElem_toArray, List.getElem_cons_succ, List.getElem_cons_zero, List.setIfInBounds_toArray, List.set_cons_zero, List.set_cons_succ])
  refine wpAnyH_take (i := 14) (v := ?_) (by rfl) (by kernel_rfl) (by kernel_rfl) (by kernel_rfl) (fun _ _ _ h => h) (Or.inl ⟨by kernel_rfl, ?_⟩) (by assumption) ?_; rotate_left 1; (focus (intro w hSw; (try dsimp only at hSw); simp only [List.getElem_toArray, List.getElem_cons_succ, List.getElem_cons_zero]; all_goals go_simp; all_goals (try with_reducible rfl))); (try simp only [Act.put, List.getElem_toArray, List.getElem_cons_succ, List.getElem_cons_zero, List.setIfInBounds_toArray, List.set_cons_zero, List.set_cons_succ])
  refine wpAnyH_take (i := 15) (v := ?_) (by rfl) (by kernel_rfl) (by kernel_rfl) (by kernel_rfl) (fun _ _ _ h => h) (Or.inl ⟨by kernel_rfl, ?_⟩) (by assumption) ?_; rotate_left 1; (focus (intro w hSw; (try dsimp only at hSw); simp only [List.getElem_toArray, List.getElem_cons_succ, List.getElem_cons_zero]; all_goals go_simp; all_goals (try with_reducible rfl))); (try simp only [Act.put, List.getElem_toArray, List.getElem_cons_succ, List.getElem_cons_zero, List.setIfInBounds_toArray, List.set_cons_zero, List.set_cons_succ])
  refine wpAnyH_done (by kernel_rfl) ?_ _
  refine NoPanic.normal ?_
  go_wp2_with fail
  go_ret3
  exact ⟨rfl, HB2.out.trans (HB4.out.mono HB2.out.size)⟩
set_option maxRecDepth 100000 in
set_option maxHeartbeats 2000000 in
theorem bpage_full {w0 : World} {L : BLoc} {D : BSt} (q : Nat) (hq : q < D.nb) (a : Option Addr) (m c2 : Nat) (xs : List Int) (hm : Hid (xs.length = m)) (hx0 : m ≤ 32) (hno : Hid (∀ i, i < L.b.n → freeB D.pt D.pv i = false)) (z : Addr) (hfull : Hid ((chL D.pr q).any (fullB D.us D.lm) = false)) (w : World) (h : BW w0 w L D) (hF : w.cell? ⟨4, 0, none⟩ = some (eV z)) (hl : 4 < w.heap.size) (hs : SrcW L w a xs) :
    Calls Tryd.prog 81 #[.pointer (some ⟨L.P, 0, none⟩), .int .i64 (q : Int), .slice a m c2] w fun e w' => e = .returned (.tuple #[.int .i64 0, .int .i64 0, eV z]) ∧ Below w.heap.size w w' := by
  have H := Lib.hid h
  have HS := Lib.hid hs
  have HLT := Lib.hid h.lowT
  have HTw := Lib.hid h.tw
  clear h hs
  go_enter Tryd.func81, Tryd.ntmps81
  go_upto_region 1 with fail
  generalize hw2 : World.alloc (World.alloc w _) _ = w2
  have HB2 : Hid (Below w.heap.size w w2) := Lib.hid (by rw [← hw2]; exact ((Below.refl _ _).alloc (Nat.le_refl _) _).alloc (by simp) _)
  have HX : Hid (∀ W, UpT w.heap.size w2 W → World.cell? W ⟨w.heap.size, 0, none⟩ = some (.pointer (some ⟨L.P, 0, none⟩)) ∧ World.cell? W ⟨w.heap.size + 1, 0, none⟩ = some (.slice a m c2)) := Lib.hid (fun W hu => by
    have e1 : w2.cell? ⟨w.heap.size, 0, none⟩ = some (.pointer (some ⟨L.P, 0, none⟩)) := by rw [← hw2]; simp
    have e2 : w2.cell? ⟨w.heap.size + 1, 0, none⟩ = some (.slice a m c2) := by rw [← hw2]; simp
    have sz : w2.heap.size = w.heap.size + 1 + 1 := by rw [← hw2]; simp
    exact ⟨(World.cell?_of_block (a := ⟨w.heap.size, 0, none⟩) (hu.2 w.heap.size (by omega) (by omega))).trans e1, (World.cell?_of_block (a := ⟨w.heap.size + 1, 0, none⟩) (hu.2 (w.heap.size + 1) (by omega) (by omega))).trans e2⟩)
  have HSz : Hid (w2.heap.size = w.heap.size + 1 + 1) := Lib.hid (by rw [← hw2]; simp)
  clear hw2
  obtain ⟨wD, hwD⟩ : ∃ wD, wD = w2.drew := ⟨_, rfl⟩
  have HBD : Hid (Below w2.heap.size w2 wD) := Lib.hid (by rw [hwD]; exact (Below.refl _ _).drew)
  have HS7 : Hid (∀ W D', BW w0 W L D' → UpT w.heap.size w2 W → (World.cell? W ⟨w.heap.size, 0, none⟩ = some (.pointer (some ⟨L.P, 0, none⟩)) ∧ World.cell? W ⟨L.P, 5, none⟩ = some (.slice (some ⟨L.G2, 0, none⟩) 256 256) ∧ World.cell? W ⟨w.heap.size + 1, 0, none⟩ = some (.slice a m c2))) := Lib.hid (fun W D' hW hu => ⟨(HX.out W hu).1, hW.kk.f5, (HX.out W hu).2⟩)
  have HWD := Lib.hid ((H.out.below HB2.out).below HBD.out)
  have hS0 := HS7.out _ _ HWD.out (UpT.below HBD.out)
  refine wp_region_noPanic ?_
  refine wp_region_held_drew (S := fun w' => (World.cell? w' ⟨w.heap.size, 0, none⟩ = some (.pointer (some ⟨L.P, 0, none⟩)) ∧ World.cell? w' ⟨L.P, 5, none⟩ = some (.slice (some ⟨L.G2, 0, none⟩) 256 256) ∧ World.cell? w' ⟨w.heap.size + 1, 0, none⟩ = some (.slice a m c2))) (by kernel_rfl) (by rw [← hwD]; exact hS0) (fun hHeld => ?_)
  rw [← hwD] at hHeld ⊢
  clear hwD hS0
  refine wpAnyH_take (i := 0) (v := ?_) (by rfl) (by kernel_rfl) (by kernel_rfl) (by kernel_rfl) (fun _ _ _ h => h) (Or.inl ⟨by kernel_rfl, ?_⟩) (by assumption) ?_; rotate_left 1; (focus (intro w hSw; (try dsimp only at hSw); simp only [List.getElem_toArray, List.getElem_cons_succ, List.getElem_cons_zero]; all_goals go_simp; all_goals (try with_reducible rfl))); (try simp only [Act.put, List.getElem_toArray, List.getElem_cons_succ, List.getElem_cons_zero, List.setIfInBounds_toArray, List.set_cons_zero, List.set_cons_succ])
  refine wpAnyH_take (i := 1) (v := ?_) (by rfl) (by kernel_rfl) (by kernel_rfl) (by kernel_rfl) (fun _ _ _ h => h) (Or.inl ⟨by kernel_rfl, ?_⟩) (by assumption) ?_; rotate_left 1; (focus (intro w hSw; (try dsimp only at hSw); simp only [List.getElem_toArray, List.getElem_cons_succ, List.getElem_cons_zero]; all_goals go_simp; all_goals (try with_reducible rfl))); (try simp only [Act.put, List.getElem_toArray, List.getElem_cons_succ, List.getElem_cons_zero, List.setIfInBounds_toArray, List.set_cons_zero, List.set_cons_succ])
  refine wpAnyH_take (i := 2) (v := ?_) (by rfl) (by kernel_rfl) (by kernel_rfl) (by kernel_rfl) (fun _ _ _ h => h) (Or.inl ⟨by kernel_rfl, ?_⟩) (by assumption) ?_; rotate_left 1; (focus (intro w hSw; (try dsimp only at hSw); simp only [List.getElem_toArray, List.getElem_cons_succ, List.getElem_cons_zero]; all_goals go_simp; all_goals (try with_reducible rfl))); (try simp only [Act.put, List.getElem_toArray, List.getElem_cons_succ, List.getElem_cons_zero, List.setIfInBounds_toArray, List.set_cons_zero, List.set_cons_succ])
  refine wpAnyH_take (i := 3) (v := ?_) (by rfl) (by kernel_rfl) (by kernel_rfl) (by kernel_rfl) (fun _ _ _ h => h) (Or.inl ⟨by kernel_rfl, ?_⟩) (by assumption) ?_; rotate_left 1; (focus (intro w hSw; (try dsimp only at hSw); simp only [List.getElem_toArray, List.getElem_cons_succ, List.getElem_cons_zero]; all_goals go_simp; all_goals (try with_reducible rfl))); (try simp only [Act.put, List.getElem_toArray, List.getElem_cons_succ, List.getElem_cons_zero, List.setIfInBounds_toArray, List.set_cons_zero, List.set_cons_succ])
  refine wpAnyH_take (i := 4) (v := ?_) (by rfl) (by kernel_rfl) (by kernel_rfl) (by kernel_rfl) (fun _ _ _ h => h) (Or.inl ⟨by kernel_rfl, ?_⟩) (by assumption) ?_; rotate_left 1; (focus (intro w hSw; (try dsimp only at hSw); simp only [List.getElem_toArray, List.getElem_cons_succ, List.getElem_cons_zero]; all_goals go_simp; all_goals (try with_reducible rfl))); (try simp only [Act.put, List.getElem_toArray, List.getElem_cons_succ, List.getElem_cons_zero, List.setIfInBounds_toArray, List.set_cons_zero, List.set_cons_succ])
  refine wpAnyH_take (i := 5) (v := ?_) (by rfl) (by kernel_rfl) (by kernel_rfl) (by kernel_rfl) (fun _ _ _ h => h) (Or.inl ⟨by kernel_rfl, ?_⟩) (by assumption) ?_; rotate_left 1; (focus (intro w hSw; (try dsimp only at hSw); simp only [List.getElem_toArray, List.getElem_cons_succ, List.getElem_cons_zero]; all_goals go_simp; all_goals (try with_reducible rfl))); (try simp only [Act.put, List.getElem_toArray, List.getElem_cons_succ, List.getElem_cons_zero, List.setIfInBounds_toArray, List.set_cons_zero, List.set_cons_succ])
  refine wpAnyH_take (i := 6) (v := ?_) (by rfl) (by kernel_rfl) (by kernel_rfl) (by kernel_rfl) (fun _ _ _ h => h) (Or.inl ⟨by kernel_rfl, ?_⟩) (by assumption) ?_; rotate_left 1; (focus (intro w hSw; (try dsimp only at hSw); simp only [List.getElem_toArray, List.getElem_cons_succ, List.getElem_cons_zero]; all_goals go_simp; all_goals (try with_reducible rfl))); (try simp only [Act.put, List.getElem_toArray, List.getElem_cons_succ, List.getElem_cons_zero, List.setIfInBounds_toArray, List.set_cons_zero, List.set_cons_succ])
  refine wpAnyH_take (i := 8) (v := ?_) (by rfl) (by kernel_rfl) (by kernel_rfl) (by kernel_rfl) (fun _ _ _ h => h) (Or.inl ⟨by kernel_rfl, ?_⟩) (by assumption) ?_; rotate_left 1; (focus (intro w hSw; (try dsimp only at hSw); simp only [List.getElem_toArray, List.getElem_cons_succ, List.getElem_cons_zero]; all_goals go_simp; all_goals (try with_reducible rfl))); (try simp only [Act.put, List.getElem_toArray, List.getElem_cons_succ, List.getElem_cons_zero, List.setIfInBounds_toArray, List.set_cons_zero, List.set_cons_succ])
  refine wpAnyH_ready (rs := [7]) (by kernel_rfl) (by simp) ?_; refine AllReadyH.cons (by rfl) (fun K hK => ?_) AllReadyH.nil; rw [if_pos (by kernel_rfl)]; simp only [List.getElem_toArray, List.getElem_cons_succ, List.getElem_cons_zero]
  go_wp2_with (first
    | (go_at_call 149; (with_reducible refine (bpageof_ok a m c2 xs hm hx0 _ (fun B G hB hG => HS.out.run _ (HB2.out.trans (HBD.out.mono HB2.out.size)) B G (.inr (Nat.le_trans (Nat.le_trans HB2.out.size HBD.out.size) hB)) (.inr (Nat.le_trans (Nat.le_trans HB2.out.size HBD.out.size) hG)))).mono ?_); rintro e w3 ⟨rfl, hb⟩; have HB3 := Lib.hid (HBD.out.trans (hb.mono HBD.out.size)); have HW3 := Lib.hid (HWD.out.below hb); clear hb))
  refine hK.out _ _ (HS7.out _ _ HW3.out (UpT.below HB3.out)) (fun hHeld => ?_)
  clear hK K
  (try simp only [Act.put, List.getElem_toArray, List.getElem_cons_succ, List.getElem_cons_zero, List.setIfInBounds_toArray, List.set_cons_zero, List.set_cons_succ])
  refine wpAnyH_ready (rs := [9]) (by kernel_rfl) (by simp) ?_; refine AllReadyH.cons (by rfl) (fun K hK => ?_) AllReadyH.nil; rw [if_pos (by kernel_rfl)]; simp only [List.getElem_toArray, List.getElem_cons_succ, List.getElem_cons_zero]
  have HCl : Hid (∀ W, Below w3.heap.size w3 W → Calls Tryd.prog 150 #[.pointer (some ⟨w.heap.size, 0, none⟩), .pointer (some ⟨w.heap.size + 1, 0, none⟩)] W fun e w' => e = .returned (.tuple #[.int .i64 0, .int .i64 0, eV z]) ∧ Below W.heap.size W w') := Lib.hid (fun W hb => by
    have hbw : Below w2.heap.size w2 W := HB3.out.trans (hb.mono HB3.out.size)
    have hx := HX.out W (UpT.below hbw)
    have h1 := hbw.size
    have h2 := HSz.out
    have h3 := HTw.out
    have h4 := HLT.out
    exact bpgcl_full w.heap.size (w.heap.size + 1) a m c2 xs hm hx0 hno z W (HW3.out.below hb) (by omega) hx.1 hx.2 (((HB2.out.trans (hbw.mono HB2.out.size)).cell (p := ⟨4, 0, none⟩) hl).trans hF) (Nat.lt_of_lt_of_le hl (HB2.out.trans (hbw.mono HB2.out.size)).size))
  go_wp2_with (first
    | (go_at_call 146; (with_reducible refine (bbuyp_full q hq w.heap.size (w.heap.size + 1) z hfull _ HW3.out HCl.out).mono ?_); rintro e w4 ⟨rfl, hb4⟩; have HW4 := Lib.hid (HW3.out.below hb4); have HB4 := Lib.hid (HB3.out.trans (hb4.mono HB3.out.size)); clear hb4))
  refine hK.out _ _ (HS7.out _ _ HW4.out (UpT.below HB4.out)) (fun hHeld => ?_)
  clear hK K
  (try simp only [Act.put, List.getElem_toArray, List.getElem_cons_succ, List.getElem_cons_zero, List.setIfInBounds_toArray, List.set_cons_zero, List.set_cons_succ])
  refine wpAnyH_take (i := 10) (v := ?_) (by rfl) (by kernel_rfl) (by kernel_rfl) (by kernel_rfl) (fun _ _ _ h => h) (Or.inl ⟨by kernel_rfl, ?_⟩) (by assumption) ?_; rotate_left 1; (focus (intro w hSw; (try dsimp only at hSw); simp only [List.getElem_toArray, List.getElem_cons_succ, List.getElem_cons_zero]; all_goals go_simp; all_goals (try with_reducible rfl))); (try simp only [Act.put, List.getElem_toArray, List.getElem_cons_succ, List.getElem_cons_zero, List.setIfInBounds_toArray, List.set_cons_zero, List.set_cons_succ])
  refine wpAnyH_take (i := 11) (v := ?_) (by rfl) (by kernel_rfl) (by kernel_rfl) (by kernel_rfl) (fun _ _ _ h => h) (Or.inl ⟨by kernel_rfl, ?_⟩) (by assumption) ?_; rotate_left 1; (focus (intro w hSw; (try dsimp only at hSw); simp only [List.getElem_toArray, List.getElem_cons_succ, List.getElem_cons_zero]; all_goals go_simp; all_goals (try with_reducible rfl))); (try simp only [Act.put, List.getElem_toArray, List.getElem_cons_succ, List.getElem_cons_zero, List.setIfInBounds_toArray, List.set_cons_zero, List.set_cons_succ])
  refine wpAnyH_take (i := 12) (v := ?_) (by rfl) (by kernel_rfl) (by kernel_rfl) (by kernel_rfl) (fun _ _ _ h => h) (Or.inl ⟨by kernel_rfl, ?_⟩) (by assumption) ?_; rotate_left 1; (focus (intro w hSw; (try dsimp only at hSw); simp only [List.getElem_toArray, List.getElem_cons_succ, List.getElem_cons_zero]; all_goals go_simp; all_goals (try with_reducible rfl))); (try simp only [Act.put, List.getElem_toArray, List.getElem_cons_succ, List.getElem_cons_zero, List.setIfInBounds_toArray, List.set_cons_zero, List.set_cons_succ])
  refine wpAnyH_take (i := 13) (v := ?_) (by rfl) (by kernel_rfl) (by kernel_rfl) (by kernel_rfl) (fun _ _ _ h => h) (Or.inl ⟨by kernel_rfl, ?_⟩) (by assumption) ?_; rotate_left 1; (focus (intro w hSw; (try dsimp only at hSw); simp only [List.getElem_toArray, List.getElem_cons_succ, List.getElem_cons_zero]; all_goals go_simp; all_goals (try with_reducible rfl))); (try simp only [Act.put, List.getElem_toArray, List.getElem_cons_succ, List.getElem_cons_zero, List.setIfInBounds_toArray, List.set_cons_zero, List.set_cons_succ])
  refine wpAnyH_take (i := 14) (v := ?_) (by rfl) (by kernel_rfl) (by kernel_rfl) (by kernel_rfl) (fun _ _ _ h => h) (Or.inl ⟨by kernel_rfl, ?_⟩) (by assumption) ?_; rotate_left 1; (focus (intro w hSw; (try dsimp only at hSw); simp only [List.getElem_toArray, List.getElem_cons_succ, List.getElem_cons_zero]; all_goals go_simp; all_goals (try with_reducible rfl))); (try simp only [Act.put, List.getElem_toArray, List.getElem_cons_succ, List.getElem_cons_zero, List.setIfInBounds_toArray, List.set_cons_zero, List.set_cons_succ])
  refine wpAnyH_take (i := 15) (v := ?_) (by rfl) (by kernel_rfl) (by kernel_rfl) (by kernel_rfl) (fun _ _ _ h => h) (Or.inl ⟨by kernel_rfl, ?_⟩) (by assumption) ?_; rotate_left 1; (focus (intro w hSw; (try dsimp only at hSw); simp only [List.getElem_toArray, List.getElem_cons_succ, List.getElem_cons_zero]; all_goals go_simp; all_goals (try with_reducible rfl))); (try simp only [Act.put, List.getElem_toArray, List.getElem_cons_succ, List.getElem_cons_zero, List.setIfInBounds_toArray, List.set_cons_zero, List.set_cons_succ])
  refine wpAnyH_done (by kernel_rfl) ?_ _
  refine NoPanic.normal ?_
  go_wp2_with fail
  go_ret3
  exact ⟨rfl, HB2.out.trans (HB4.out.mono HB2.out.size)⟩
end Go.Proofs.YtkogmhgpkacehaaDoor
namespace Go.Proofs.YtkogmhgpkacehaaDoor
open Go.ChangeShapes Go.WideShapes Go.ChangeAt Go.RowKit
set_option linter.unusedVariables false
set_option linter.unusedSimpArgs false
theorem st0_nb : st0.nb = 0 := rfl
/-- Each within the one ahead of it. -/
def pD (k : Nat) (i : Nat) : Int := if i < k then (i : Int) - 1 else 0
theorem pD_put (k : Nat) (x : Int) (hx : x = (k : Int) - 1) : upd (pD k) k x = pD (k + 1) := by
  funext i
  unfold upd pD
  by_cases e : i = k
  · subst e; simp [hx]
  · rw [if_neg e]
    by_cases h : i < k
    · rw [if_pos h, if_pos (by omega)]
    · rw [if_neg h, if_neg (by omega)]
theorem pD_ok (k : Nat) : PrOk k (pD k) := fun i hi => by unfold pD; rw [if_pos hi]; omega
theorem pD_chain (k : Nat) (hk : k ≤ 256) : ∀ q : Nat, q < k → (chL (pD k) (q : Int)).length = q + 1 ∧ ∀ z : Int, z ∈ chL (pD k) (q : Int) ↔ 0 ≤ z ∧ z ≤ q := by
  intro q
  induction q with
  | zero =>
    intro hq
    rw [chL_cons (pD_ok k) 0 hq hk, show pD k 0 = -1 by unfold pD; rw [if_pos hq]; rfl, chL_neg _ _ (by omega)]
    refine ⟨rfl, fun z => ?_⟩
    simp
    omega
  | succ q ih =>
    intro hq
    have h := ih (by omega)
    rw [chL_cons (pD_ok k) (q + 1) hq hk, show pD k (q + 1) = (q : Int) by unfold pD; rw [if_pos hq]; omega]
    refine ⟨by rw [List.length_cons, h.1], fun z => ?_⟩
    rw [List.mem_cons, h.2 z]
    omega
theorem cntB_thN (k : Nat) : ∀ n, k ≤ n → cntB (thN k) n = k := by
  intro n
  induction n with
  | zero => intro h; have e : k = 0 := (by omega); subst e; rfl
  | succ n ih =>
    intro h
    unfold cntB
    by_cases e : k = n + 1
    · subst e
      have : ∀ m, m ≤ n → cntB (thN (n + 1)) m = m := by
        intro m
        induction m with
        | zero => intro _; rfl
        | succ m ih2 => intro hm; unfold cntB; rw [ih2 (by omega), if_pos (thN_at (by omega))]
      rw [this n (Nat.le_refl _), if_pos (thN_at (by omega))]
    · rw [ih (by omega), if_neg (by simp [thN]; omega)]
      rfl
theorem contains_iff {l : List Int} {x : Int} {b : Bool} (h : x ∈ l ↔ b = true) : l.contains x = b := by
  cases b
  · simp only [Bool.false_eq_true, iff_false] at h
    simpa using h
  · simpa using h
theorem aused_n {base p B n c : Nat} (k : Nat) (x : Int) (hx : Hid ((k : Int) = x)) (hk : k ≤ n) (w : World) (hA : ArAt w base p B n c (thN k) (fun _ => 0)) :
    Calls Tryd.prog 90 #[.pointer (some ⟨p, 0, none⟩)] w fun e w' => e = .returned (.int .i64 x) ∧ Below w.heap.size w w' :=
  (aused_is w hA).mono fun e w' ⟨h1, h2⟩ => ⟨by rw [h1, cntB_thN k n hk, hx.out], h2⟩
set_option maxRecDepth 100000 in
set_option maxHeartbeats 4000000 in
theorem bdepth_walk (a0 lim : Int) (n R : Nat) (hR : Hid (n = R + 1)) (hR9 : R < 12) (CR : Hid (∀ w, Calls Tryd.prog 71 #[.int .i64 a0, .int .i64 12] w fun e w' => e = .returned (.int .i64 (R : Int)) ∧ w = w')) (hlim : 0 ≤ lim ∧ lim ≤ 512) (w : World) (A : Nat → Addr) (hS : Sen A w) : Calls Tryd.prog 12 #[.int .i64 a0, .int .i64 lim] w fun e w' => e = .returned (.bool true) ∧ Below w.heap.size w w' := by
  have HS := Lib.hid hS
  have hn1 : (R : Int) + 1 = (n : Int) := by have := hR.out; omega
  have hn0 : 1 ≤ n := by have := hR.out; omega
  have hn : n ≤ 12 := by have := hR.out; omega
  obtain ⟨l0, l1⟩ := hlim
  have d0 : decide (0 ≤ lim) = true := decide_eq_true l0
  have d1 : decide (lim ≤ 512) = true := decide_eq_true l1
  clear hS
  go_enter Tryd.func12, Tryd.ntmps12
  go_wp2_with (first
    | (go_at_call 73; (with_reducible refine (bfirst_is _ A HS.out).mono ?_); rintro e w1 ⟨rfl, hb1⟩; have HB1 := Lib.hid hb1; have HS1 := Lib.hid (HS.out.below hb1); clear hb1)
    | (go_at_call 71; (with_reducible refine (CR.out _).mono ?_); rintro e w2 ⟨rfl, rfl⟩)
    | (go_at_call 74; (with_reducible refine (made18_is 2 2 2 16 2 2 2 16 (Lib.hid ⟨rfl, rfl, rfl, rfl⟩) (by decide) (by decide) (by decide) (by decide) _).mono ?_); rintro e w2 ⟨L, rfl, hW, hn⟩; have HW1 := Lib.hid hW; have HN := Lib.hid hn.out; clear hW hn)
    | (go_at_call 75; (with_reducible refine (bwroot_ok lim l0 l1 0 (Lib.hid rfl) (by rw [st0_nb]; have := HN.out; omega) _ HW1.out).mono ?_); rintro e w3 ⟨rfl, hW, hu⟩; have HW2 := Lib.hid hW; clear hW hu))
  have HPr : Hid ((openedB st0 (-1) lim).nb = 1 ∧ (openedB st0 (-1) lim).pr = pD 1) := Lib.hid ⟨rfl, by rw [← pD_put 0 (-1) (by decide)]; funext i; simp [openedB, st0, upd, pD]⟩
  go_loopw [12] (fun z wr => ∃ (i : Nat) (D : BSt), 1 ≤ i ∧ i ≤ n ∧ i ≤ 8 ∧ z = .int .i64 i ∧ BW w1 wr L D ∧ Hid (D.nb = i ∧ D.pr = pD i)) (fun z _ => n - (intOf z).toNat)
  case atStart => exact ⟨1, _, by omega, by omega, by omega, rfl, HW2.out, HPr⟩
  case round =>
    obtain ⟨i, D, hi1, hi2, hi3, rfl, hW, hD⟩ := hrel; have HW := Lib.hid hW; obtain ⟨hnb, hpr⟩ := hD.out; have HNb := Lib.hid hnb; have HPrD := Lib.hid hpr; obtain ⟨q, hq0⟩ : ∃ q : Nat, q + 1 = i := ⟨i - 1, by omega⟩; have HQ := Lib.hid hq0; have HQi : Hid ((i : Int) - 1 = (q : Int)) := Lib.hid (by omega); have hqnb : q < D.nb := (by rw [hnb]; omega); have HCh : Hid ((chL D.pr (q : Int)).length = i) := Lib.hid (by rw [hpr, (pD_chain i (by omega) q (by omega)).1]; exact hq0); have i0 : (1 : Int) ≤ i := (by omega); clear hW hD hnb hpr hq0
    by_cases hlt : i < n
    · by_cases h8 : i < 8
      · have d8 : decide ((8 : Int) ≤ (i : Int)) = false := decide_eq_false (by omega)
        have HPut : Hid (∀ D', D' = openedB D (q : Int) 5 → D'.nb = i + 1 ∧ D'.pr = pD (i + 1) ∧ PrOk D'.nb D'.pr) := Lib.hid (by
          rintro D' rfl
          have e : (openedB D (q : Int) 5).pr = pD (i + 1) := by
            show upd D.pr D.nb (q : Int) = _
            rw [HPrD.out, HNb.out]
            exact pD_put i _ (by have := HQi.out; omega)
          exact ⟨by show D.nb + 1 = _; rw [HNb.out], e, by rw [e]; show PrOk (D.nb + 1) _; rw [HNb.out]; exact pD_ok _⟩)
        have HChi := Lib.hid (pD_chain (i + 1) (by omega) i (by omega))
        have HCh0 := Lib.hid (pD_chain (i + 1) (by omega) 0 (by omega))
        go_wp2_with (first
          | (go_at_call 76; (with_reducible refine (bwsub_ok _ q HQi 5 (by decide) (by decide) hqnb (i : Int) (Lib.hid (by rw [HNb.out])) (by rw [HNb.out]; have := HN.out; omega) (Lib.hid (by rw [HCh.out]; exact h8)) _ HW.out).mono ?_); rintro e w4 ⟨rfl, hW, hu⟩; obtain ⟨D', hD'⟩ : ∃ D', D' = openedB D (q : Int) 5 := ⟨_, rfl⟩; rw [← hD'] at hW; obtain ⟨g1, g2, g3⟩ := HPut.out D' hD'; have HW4 := Lib.hid hW; have HG1 := Lib.hid g1; have HG2 := Lib.hid g2; have HG3 := Lib.hid g3; have HQ' := Lib.hid hD'; clear hW hu g1 g2 g3 hD')
          | (go_at_call 77; (with_reducible refine (bparent_is i (i : Int) ((i : Int) - 1) (Lib.hid rfl) (by rw [HG1.out]; omega) HW4.out.nn (Lib.hid (by rw [HG2.out]; unfold pD; rw [if_pos (by omega)])) _ HW4.out.kk).mono ?_); rintro e w5 ⟨rfl, rfl⟩)
          | (go_at_call 84; (with_reducible refine (bwithin_is (i : Int) 0 true (by omega) (by rw [HG1.out]; omega) HW4.out.nn HG3 (Lib.hid (by rw [HG2.out]; exact contains_iff (by rw [HChi.out.2]; simp))) _ HW4.out.kk).mono ?_); rintro e w6 ⟨rfl, hb⟩; have HW6 := Lib.hid (HW4.out.below hb); clear hb)
          | (go_at_call 84; (with_reducible refine (bwithin_is 0 (i : Int) false (by omega) (by rw [HG1.out]; omega) HW6.out.nn HG3 (Lib.hid (by rw [HG2.out]; exact contains_iff (by rw [show (0 : Int) = ((0 : Nat) : Int) from rfl, HCh0.out.2]; simp; omega))) _ HW6.out.kk).mono ?_); rintro e w7 ⟨rfl, hb⟩; have HW7 := Lib.hid (HW6.out.below hb); clear hb)
          | (go_at_call 84; (with_reducible refine (bwithin_is (i : Int) (i : Int) true (by omega) (by rw [HG1.out]; omega) HW7.out.nn HG3 (Lib.hid (by rw [HG2.out]; exact contains_iff (by rw [HChi.out.2]; simp))) _ HW7.out.kk).mono ?_); rintro e w8 ⟨rfl, hb⟩; have HW8 := Lib.hid (HW7.out.below hb); clear hb))
        go_roundw
        case rel => exact ⟨i + 1, D', by omega, by omega, by omega, by go_num, HW8.out, Lib.hid ⟨HG1.out, HG2.out⟩⟩
        case measure => simp [intOf]; omega
      · have d8 : decide ((8 : Int) ≤ (i : Int)) = true := decide_eq_true (by omega)
        go_wp2_with (first
          | (go_at_call 76; (with_reducible refine (bwsub_many _ q HQi 5 (by decide) (by decide) hqnb (Lib.hid (by rw [HCh.out]; omega)) _ (eV (sA A 3)) HW.out (HS1.out.below HW.out.bel).c3 (HS1.out.below HW.out.bel).s3).mono ?_); rintro e w4 ⟨rfl, hb⟩; have HW4 := Lib.hid (HW.out.below hb); clear hb)
          | (go_at_call 20; (with_reducible refine (is_sen A 3 104 (by decide) (Lib.hid (by decide)) _ (HS1.out.below HW4.out.bel)).mono ?_); rintro e w5 ⟨rfl, hb⟩; have HW5 := Lib.hid (HW4.out.below hb); have HU5 := Lib.hid (HW4.out.below hb).kk.ar; have f5 := (HW4.out.below hb).kk.f0; rw [HNb.out] at HU5; clear hb)
          | (go_at_call 90; (with_reducible refine (aused_n i 8 (Lib.hid (by omega)) (by have := HN.out; omega) _ HU5.out).mono ?_); rintro e w6 ⟨rfl, hb⟩; have HB6 := Lib.hid (HW5.out.below hb).bel; clear hb f5))
        go_ret
        exact ⟨rfl, HB1.out.trans (HB6.out.mono HB1.out.size)⟩
    · obtain rfl : i = n := by omega
      have hdd : decide (i < i) = false := by simp
      have HU := Lib.hid HW.out.kk.ar
      rw [HNb.out] at HU
      have f5 := HW.out.kk.f0
      go_wp2_with (first
        | (go_at_call 90; (with_reducible refine (aused_n i (i : Int) (Lib.hid rfl) (by have := HN.out; omega) _ HU.out).mono ?_); rintro e w6 ⟨rfl, hb⟩; have HB6 := Lib.hid (HW.out.below hb).bel; clear hb f5))
      go_ret
      exact ⟨rfl, HB1.out.trans (HB6.out.mono HB1.out.size)⟩
set_option maxRecDepth 100000 in
set_option maxHeartbeats 4000000 in
theorem bdepth_neg (a0 lim : Int) (n R : Nat) (hR : Hid (n = R + 1)) (hR9 : R < 12) (CR : Hid (∀ w, Calls Tryd.prog 71 #[.int .i64 a0, .int .i64 12] w fun e w' => e = .returned (.int .i64 (R : Int)) ∧ w = w')) (hneg : lim < 0) (w : World) (A : Nat → Addr) (hS : Sen A w) : Calls Tryd.prog 12 #[.int .i64 a0, .int .i64 lim] w fun e w' => e = .returned (.bool true) ∧ Below w.heap.size w w' := by
  have HS := Lib.hid hS
  have hn1 : (R : Int) + 1 = (n : Int) := by have := hR.out; omega
  have hn0 : 1 ≤ n := by have := hR.out; omega
  have hn : n ≤ 12 := by have := hR.out; omega
  have hlim : ¬ (0 ≤ lim ∧ lim ≤ 512) := by omega
  have d0 : decide (0 ≤ lim) = false := decide_eq_false (by omega)
  clear hneg
  clear hS
  go_enter Tryd.func12, Tryd.ntmps12
  go_wp2_with (first
    | (go_at_call 73; (with_reducible refine (bfirst_is _ A HS.out).mono ?_); rintro e w1 ⟨rfl, hb1⟩; have HB1 := Lib.hid hb1; have HS1 := Lib.hid (HS.out.below hb1); clear hb1)
    | (go_at_call 71; (with_reducible refine (CR.out _).mono ?_); rintro e w2 ⟨rfl, rfl⟩)
    | (go_at_call 74; (with_reducible refine (made18_is 2 2 2 16 2 2 2 16 (Lib.hid ⟨rfl, rfl, rfl, rfl⟩) (by decide) (by decide) (by decide) (by decide) _).mono ?_); rintro e w2 ⟨L, rfl, hW, hn⟩; have HW1 := Lib.hid hW; have HN := Lib.hid hn.out; clear hW hn)
    | (go_at_call 75; (with_reducible refine (bwroot_range lim hlim _ (eV (sA A 2)) (HS1.out.below HW1.out.bel).c2 HW1.out).mono ?_); rintro e w3 ⟨rfl, hb⟩; have HWr := Lib.hid (HW1.out.below hb); clear hb)
    | (go_at_call 20; (with_reducible refine (is_sen A 2 103 (by decide) (Lib.hid (by decide)) _ (HS1.out.below HWr.out.bel)).mono ?_); rintro e w4 ⟨rfl, hb⟩; have HWs := Lib.hid (HWr.out.below hb); clear hb)
    | (go_at_call 75; (with_reducible refine (bwroot_ok 5 (by decide) (by decide) 0 (Lib.hid rfl) (by rw [st0_nb]; have := HN.out; omega) _ HWs.out).mono ?_); rintro e w5 ⟨rfl, hW, hu⟩; have HW2 := Lib.hid hW; clear hW hu))
  have HPr : Hid ((openedB st0 (-1) 5).nb = 1 ∧ (openedB st0 (-1) 5).pr = pD 1) := Lib.hid ⟨rfl, by rw [← pD_put 0 (-1) (by decide)]; funext i; simp [openedB, st0, upd, pD]⟩
  go_loopw [12] (fun z wr => ∃ (i : Nat) (D : BSt), 1 ≤ i ∧ i ≤ n ∧ i ≤ 8 ∧ z = .int .i64 i ∧ BW w1 wr L D ∧ Hid (D.nb = i ∧ D.pr = pD i)) (fun z _ => n - (intOf z).toNat)
  case atStart => exact ⟨1, _, by omega, by omega, by omega, rfl, HW2.out, HPr⟩
  case round =>
    obtain ⟨i, D, hi1, hi2, hi3, rfl, hW, hD⟩ := hrel; have HW := Lib.hid hW; obtain ⟨hnb, hpr⟩ := hD.out; have HNb := Lib.hid hnb; have HPrD := Lib.hid hpr; obtain ⟨q, hq0⟩ : ∃ q : Nat, q + 1 = i := ⟨i - 1, by omega⟩; have HQ := Lib.hid hq0; have HQi : Hid ((i : Int) - 1 = (q : Int)) := Lib.hid (by omega); have hqnb : q < D.nb := (by rw [hnb]; omega); have HCh : Hid ((chL D.pr (q : Int)).length = i) := Lib.hid (by rw [hpr, (pD_chain i (by omega) q (by omega)).1]; exact hq0); have i0 : (1 : Int) ≤ i := (by omega); clear hW hD hnb hpr hq0
    by_cases hlt : i < n
    · by_cases h8 : i < 8
      · have d8 : decide ((8 : Int) ≤ (i : Int)) = false := decide_eq_false (by omega)
        have HPut : Hid (∀ D', D' = openedB D (q : Int) 5 → D'.nb = i + 1 ∧ D'.pr = pD (i + 1) ∧ PrOk D'.nb D'.pr) := Lib.hid (by
          rintro D' rfl
          have e : (openedB D (q : Int) 5).pr = pD (i + 1) := by
            show upd D.pr D.nb (q : Int) = _
            rw [HPrD.out, HNb.out]
            exact pD_put i _ (by have := HQi.out; omega)
          exact ⟨by show D.nb + 1 = _; rw [HNb.out], e, by rw [e]; show PrOk (D.nb + 1) _; rw [HNb.out]; exact pD_ok _⟩)
        have HChi := Lib.hid (pD_chain (i + 1) (by omega) i (by omega))
        have HCh0 := Lib.hid (pD_chain (i + 1) (by omega) 0 (by omega))
        go_wp2_with (first
          | (go_at_call 76; (with_reducible refine (bwsub_ok _ q HQi 5 (by decide) (by decide) hqnb (i : Int) (Lib.hid (by rw [HNb.out])) (by rw [HNb.out]; have := HN.out; omega) (Lib.hid (by rw [HCh.out]; exact h8)) _ HW.out).mono ?_); rintro e w4 ⟨rfl, hW, hu⟩; obtain ⟨D', hD'⟩ : ∃ D', D' = openedB D (q : Int) 5 := ⟨_, rfl⟩; rw [← hD'] at hW; obtain ⟨g1, g2, g3⟩ := HPut.out D' hD'; have HW4 := Lib.hid hW; have HG1 := Lib.hid g1; have HG2 := Lib.hid g2; have HG3 := Lib.hid g3; have HQ' := Lib.hid hD'; clear hW hu g1 g2 g3 hD')
          | (go_at_call 77; (with_reducible refine (bparent_is i (i : Int) ((i : Int) - 1) (Lib.hid rfl) (by rw [HG1.out]; omega) HW4.out.nn (Lib.hid (by rw [HG2.out]; unfold pD; rw [if_pos (by omega)])) _ HW4.out.kk).mono ?_); rintro e w5 ⟨rfl, rfl⟩)
          | (go_at_call 84; (with_reducible refine (bwithin_is (i : Int) 0 true (by omega) (by rw [HG1.out]; omega) HW4.out.nn HG3 (Lib.hid (by rw [HG2.out]; exact contains_iff (by rw [HChi.out.2]; simp))) _ HW4.out.kk).mono ?_); rintro e w6 ⟨rfl, hb⟩; have HW6 := Lib.hid (HW4.out.below hb); clear hb)
          | (go_at_call 84; (with_reducible refine (bwithin_is 0 (i : Int) false (by omega) (by rw [HG1.out]; omega) HW6.out.nn HG3 (Lib.hid (by rw [HG2.out]; exact contains_iff (by rw [show (0 : Int) = ((0 : Nat) : Int) from rfl, HCh0.out.2]; simp; omega))) _ HW6.out.kk).mono ?_); rintro e w7 ⟨rfl, hb⟩; have HW7 := Lib.hid (HW6.out.below hb); clear hb)
          | (go_at_call 84; (with_reducible refine (bwithin_is (i : Int) (i : Int) true (by omega) (by rw [HG1.out]; omega) HW7.out.nn HG3 (Lib.hid (by rw [HG2.out]; exact contains_iff (by rw [HChi.out.2]; simp))) _ HW7.out.kk).mono ?_); rintro e w8 ⟨rfl, hb⟩; have HW8 := Lib.hid (HW7.out.below hb); clear hb))
        go_roundw
        case rel => exact ⟨i + 1, D', by omega, by omega, by omega, by go_num, HW8.out, Lib.hid ⟨HG1.out, HG2.out⟩⟩
        case measure => simp [intOf]; omega
      · have d8 : decide ((8 : Int) ≤ (i : Int)) = true := decide_eq_true (by omega)
        go_wp2_with (first
          | (go_at_call 76; (with_reducible refine (bwsub_many _ q HQi 5 (by decide) (by decide) hqnb (Lib.hid (by rw [HCh.out]; omega)) _ (eV (sA A 3)) HW.out (HS1.out.below HW.out.bel).c3 (HS1.out.below HW.out.bel).s3).mono ?_); rintro e w4 ⟨rfl, hb⟩; have HW4 := Lib.hid (HW.out.below hb); clear hb)
          | (go_at_call 20; (with_reducible refine (is_sen A 3 104 (by decide) (Lib.hid (by decide)) _ (HS1.out.below HW4.out.bel)).mono ?_); rintro e w5 ⟨rfl, hb⟩; have HW5 := Lib.hid (HW4.out.below hb); have HU5 := Lib.hid (HW4.out.below hb).kk.ar; have f5 := (HW4.out.below hb).kk.f0; rw [HNb.out] at HU5; clear hb)
          | (go_at_call 90; (with_reducible refine (aused_n i 8 (Lib.hid (by omega)) (by have := HN.out; omega) _ HU5.out).mono ?_); rintro e w6 ⟨rfl, hb⟩; have HB6 := Lib.hid (HW5.out.below hb).bel; clear hb f5))
        go_ret
        exact ⟨rfl, HB1.out.trans (HB6.out.mono HB1.out.size)⟩
    · obtain rfl : i = n := by omega
      have hdd : decide (i < i) = false := by simp
      have HU := Lib.hid HW.out.kk.ar
      rw [HNb.out] at HU
      have f5 := HW.out.kk.f0
      go_wp2_with (first
        | (go_at_call 90; (with_reducible refine (aused_n i (i : Int) (Lib.hid rfl) (by have := HN.out; omega) _ HU.out).mono ?_); rintro e w6 ⟨rfl, hb⟩; have HB6 := Lib.hid (HW.out.below hb).bel; clear hb f5))
      go_ret
      exact ⟨rfl, HB1.out.trans (HB6.out.mono HB1.out.size)⟩
set_option maxRecDepth 100000 in
set_option maxHeartbeats 4000000 in
theorem bdepth_big (a0 lim : Int) (n R : Nat) (hR : Hid (n = R + 1)) (hR9 : R < 12) (CR : Hid (∀ w, Calls Tryd.prog 71 #[.int .i64 a0, .int .i64 12] w fun e w' => e = .returned (.int .i64 (R : Int)) ∧ w = w')) (hbig : 512 < lim) (w : World) (A : Nat → Addr) (hS : Sen A w) : Calls Tryd.prog 12 #[.int .i64 a0, .int .i64 lim] w fun e w' => e = .returned (.bool true) ∧ Below w.heap.size w w' := by
  have HS := Lib.hid hS
  have hn1 : (R : Int) + 1 = (n : Int) := by have := hR.out; omega
  have hn0 : 1 ≤ n := by have := hR.out; omega
  have hn : n ≤ 12 := by have := hR.out; omega
  have hlim : ¬ (0 ≤ lim ∧ lim ≤ 512) := by omega
  have d0 : decide (0 ≤ lim) = true := decide_eq_true (by omega)
  have d1 : decide (lim ≤ 512) = false := decide_eq_false (by omega)
  clear hbig
  clear hS
  go_enter Tryd.func12, Tryd.ntmps12
  go_wp2_with (first
    | (go_at_call 73; (with_reducible refine (bfirst_is _ A HS.out).mono ?_); rintro e w1 ⟨rfl, hb1⟩; have HB1 := Lib.hid hb1; have HS1 := Lib.hid (HS.out.below hb1); clear hb1)
    | (go_at_call 71; (with_reducible refine (CR.out _).mono ?_); rintro e w2 ⟨rfl, rfl⟩)
    | (go_at_call 74; (with_reducible refine (made18_is 2 2 2 16 2 2 2 16 (Lib.hid ⟨rfl, rfl, rfl, rfl⟩) (by decide) (by decide) (by decide) (by decide) _).mono ?_); rintro e w2 ⟨L, rfl, hW, hn⟩; have HW1 := Lib.hid hW; have HN := Lib.hid hn.out; clear hW hn)
    | (go_at_call 75; (with_reducible refine (bwroot_range lim hlim _ (eV (sA A 2)) (HS1.out.below HW1.out.bel).c2 HW1.out).mono ?_); rintro e w3 ⟨rfl, hb⟩; have HWr := Lib.hid (HW1.out.below hb); clear hb)
    | (go_at_call 20; (with_reducible refine (is_sen A 2 103 (by decide) (Lib.hid (by decide)) _ (HS1.out.below HWr.out.bel)).mono ?_); rintro e w4 ⟨rfl, hb⟩; have HWs := Lib.hid (HWr.out.below hb); clear hb)
    | (go_at_call 75; (with_reducible refine (bwroot_ok 5 (by decide) (by decide) 0 (Lib.hid rfl) (by rw [st0_nb]; have := HN.out; omega) _ HWs.out).mono ?_); rintro e w5 ⟨rfl, hW, hu⟩; have HW2 := Lib.hid hW; clear hW hu))
  have HPr : Hid ((openedB st0 (-1) 5).nb = 1 ∧ (openedB st0 (-1) 5).pr = pD 1) := Lib.hid ⟨rfl, by rw [← pD_put 0 (-1) (by decide)]; funext i; simp [openedB, st0, upd, pD]⟩
  go_loopw [12] (fun z wr => ∃ (i : Nat) (D : BSt), 1 ≤ i ∧ i ≤ n ∧ i ≤ 8 ∧ z = .int .i64 i ∧ BW w1 wr L D ∧ Hid (D.nb = i ∧ D.pr = pD i)) (fun z _ => n - (intOf z).toNat)
  case atStart => exact ⟨1, _, by omega, by omega, by omega, rfl, HW2.out, HPr⟩
  case round =>
    obtain ⟨i, D, hi1, hi2, hi3, rfl, hW, hD⟩ := hrel; have HW := Lib.hid hW; obtain ⟨hnb, hpr⟩ := hD.out; have HNb := Lib.hid hnb; have HPrD := Lib.hid hpr; obtain ⟨q, hq0⟩ : ∃ q : Nat, q + 1 = i := ⟨i - 1, by omega⟩; have HQ := Lib.hid hq0; have HQi : Hid ((i : Int) - 1 = (q : Int)) := Lib.hid (by omega); have hqnb : q < D.nb := (by rw [hnb]; omega); have HCh : Hid ((chL D.pr (q : Int)).length = i) := Lib.hid (by rw [hpr, (pD_chain i (by omega) q (by omega)).1]; exact hq0); have i0 : (1 : Int) ≤ i := (by omega); clear hW hD hnb hpr hq0
    by_cases hlt : i < n
    · by_cases h8 : i < 8
      · have d8 : decide ((8 : Int) ≤ (i : Int)) = false := decide_eq_false (by omega)
        have HPut : Hid (∀ D', D' = openedB D (q : Int) 5 → D'.nb = i + 1 ∧ D'.pr = pD (i + 1) ∧ PrOk D'.nb D'.pr) := Lib.hid (by
          rintro D' rfl
          have e : (openedB D (q : Int) 5).pr = pD (i + 1) := by
            show upd D.pr D.nb (q : Int) = _
            rw [HPrD.out, HNb.out]
            exact pD_put i _ (by have := HQi.out; omega)
          exact ⟨by show D.nb + 1 = _; rw [HNb.out], e, by rw [e]; show PrOk (D.nb + 1) _; rw [HNb.out]; exact pD_ok _⟩)
        have HChi := Lib.hid (pD_chain (i + 1) (by omega) i (by omega))
        have HCh0 := Lib.hid (pD_chain (i + 1) (by omega) 0 (by omega))
        go_wp2_with (first
          | (go_at_call 76; (with_reducible refine (bwsub_ok _ q HQi 5 (by decide) (by decide) hqnb (i : Int) (Lib.hid (by rw [HNb.out])) (by rw [HNb.out]; have := HN.out; omega) (Lib.hid (by rw [HCh.out]; exact h8)) _ HW.out).mono ?_); rintro e w4 ⟨rfl, hW, hu⟩; obtain ⟨D', hD'⟩ : ∃ D', D' = openedB D (q : Int) 5 := ⟨_, rfl⟩; rw [← hD'] at hW; obtain ⟨g1, g2, g3⟩ := HPut.out D' hD'; have HW4 := Lib.hid hW; have HG1 := Lib.hid g1; have HG2 := Lib.hid g2; have HG3 := Lib.hid g3; have HQ' := Lib.hid hD'; clear hW hu g1 g2 g3 hD')
          | (go_at_call 77; (with_reducible refine (bparent_is i (i : Int) ((i : Int) - 1) (Lib.hid rfl) (by rw [HG1.out]; omega) HW4.out.nn (Lib.hid (by rw [HG2.out]; unfold pD; rw [if_pos (by omega)])) _ HW4.out.kk).mono ?_); rintro e w5 ⟨rfl, rfl⟩)
          | (go_at_call 84; (with_reducible refine (bwithin_is (i : Int) 0 true (by omega) (by rw [HG1.out]; omega) HW4.out.nn HG3 (Lib.hid (by rw [HG2.out]; exact contains_iff (by rw [HChi.out.2]; simp))) _ HW4.out.kk).mono ?_); rintro e w6 ⟨rfl, hb⟩; have HW6 := Lib.hid (HW4.out.below hb); clear hb)
          | (go_at_call 84; (with_reducible refine (bwithin_is 0 (i : Int) false (by omega) (by rw [HG1.out]; omega) HW6.out.nn HG3 (Lib.hid (by rw [HG2.out]; exact contains_iff (by rw [show (0 : Int) = ((0 : Nat) : Int) from rfl, HCh0.out.2]; simp; omega))) _ HW6.out.kk).mono ?_); rintro e w7 ⟨rfl, hb⟩; have HW7 := Lib.hid (HW6.out.below hb); clear hb)
          | (go_at_call 84; (with_reducible refine (bwithin_is (i : Int) (i : Int) true (by omega) (by rw [HG1.out]; omega) HW7.out.nn HG3 (Lib.hid (by rw [HG2.out]; exact contains_iff (by rw [HChi.out.2]; simp))) _ HW7.out.kk).mono ?_); rintro e w8 ⟨rfl, hb⟩; have HW8 := Lib.hid (HW7.out.below hb); clear hb))
        go_roundw
        case rel => exact ⟨i + 1, D', by omega, by omega, by omega, by go_num, HW8.out, Lib.hid ⟨HG1.out, HG2.out⟩⟩
        case measure => simp [intOf]; omega
      · have d8 : decide ((8 : Int) ≤ (i : Int)) = true := decide_eq_true (by omega)
        go_wp2_with (first
          | (go_at_call 76; (with_reducible refine (bwsub_many _ q HQi 5 (by decide) (by decide) hqnb (Lib.hid (by rw [HCh.out]; omega)) _ (eV (sA A 3)) HW.out (HS1.out.below HW.out.bel).c3 (HS1.out.below HW.out.bel).s3).mono ?_); rintro e w4 ⟨rfl, hb⟩; have HW4 := Lib.hid (HW.out.below hb); clear hb)
          | (go_at_call 20; (with_reducible refine (is_sen A 3 104 (by decide) (Lib.hid (by decide)) _ (HS1.out.below HW4.out.bel)).mono ?_); rintro e w5 ⟨rfl, hb⟩; have HW5 := Lib.hid (HW4.out.below hb); have HU5 := Lib.hid (HW4.out.below hb).kk.ar; have f5 := (HW4.out.below hb).kk.f0; rw [HNb.out] at HU5; clear hb)
          | (go_at_call 90; (with_reducible refine (aused_n i 8 (Lib.hid (by omega)) (by have := HN.out; omega) _ HU5.out).mono ?_); rintro e w6 ⟨rfl, hb⟩; have HB6 := Lib.hid (HW5.out.below hb).bel; clear hb f5))
        go_ret
        exact ⟨rfl, HB1.out.trans (HB6.out.mono HB1.out.size)⟩
    · obtain rfl : i = n := by omega
      have hdd : decide (i < i) = false := by simp
      have HU := Lib.hid HW.out.kk.ar
      rw [HNb.out] at HU
      have f5 := HW.out.kk.f0
      go_wp2_with (first
        | (go_at_call 90; (with_reducible refine (aused_n i (i : Int) (Lib.hid rfl) (by have := HN.out; omega) _ HU.out).mono ?_); rintro e w6 ⟨rfl, hb⟩; have HB6 := Lib.hid (HW.out.below hb).bel; clear hb f5))
      go_ret
      exact ⟨rfl, HB1.out.trans (HB6.out.mono HB1.out.size)⟩
theorem walk_BankDepth (a0 : Int) (a1 : Int) (w : World) (w0 : (Lit.int .i64 a0).wf = true) (w1 : (Lit.int .i64 a1).wf = true) (hL : laidMetH Tryd.prog Rows.bankDepthRow.laid w) :
    Calls Tryd.prog 12 #[.int .i64 a0, .int .i64 a1] w fun e w' => e = .returned (.bool true) ∧ Below w.heap.size w w' := by
  have hS := (sen_of hL (by intro n hn; simp only [List.mem_cons, List.not_mem_nil, or_false] at hn; rcases hn with rfl | rfl | rfl | rfl | rfl | rfl | rfl | rfl | rfl | rfl | rfl | rfl <;> exact ⟨_, by repeat (first | exact List.Mem.head _ | apply List.Mem.tail)⟩))
  clear hL
  obtain ⟨R, hR, CR⟩ := number_nat a0 12 12 rfl (by decide) (by decide) (fit64 w0).1 (fit64 w0).2
  by_cases h0 : a1 < 0
  · exact bdepth_neg a0 a1 (R + 1) R (Lib.hid rfl) hR (Lib.hid CR) h0 w _ hS
  · by_cases h1 : 512 < a1
    · exact bdepth_big a0 a1 (R + 1) R (Lib.hid rfl) hR (Lib.hid CR) h1 w _ hS
    · exact bdepth_walk a0 a1 (R + 1) R (Lib.hid rfl) hR (Lib.hid CR) (by omega) w _ hS
end Go.Proofs.YtkogmhgpkacehaaDoor
