/-
  Mx, My as one.
-/
import Derived.Test.YtedidopkemjgeaaDoorP10
import Derived.Test.YtedidopkemjgeaaDoorP11
import Derived.Test.YtedidopkemjgeaaDoorP12
namespace Go.Proofs.YtedidopkemjgeaaDoor
open Go.ChangeShapes Go.WideShapes Go.ChangeAt Go.RowKit
set_option linter.unusedVariables false
set_option linter.unusedSimpArgs false
set_option maxRecDepth 100000 in
theorem mfindx_is {w0 : World} {mb S : Nat} {a b : Shp} {N cb : Nat} {size : Int} {th : Nat → Bool} {vr_ : Nat → Int} {W : Nat → Nat → Value} {th2 : Nat → Bool} {vr2 : Nat → Int} {W2 : Nat → Nat → Int} {hits : Int} {v : Value} {E : List EW} (k0 k1 k2 k3 k4 : Int) (ad : Nat) (had : ad ≤ 4294967295) (ids : List Int) (pg at_ : Int) (r : Bool) (f : Int) (hroom : Hid ((E.length : Int) ≤ size ∧ 1 ≤ size ∧ size ≤ 64)) (hh : Hid (0 ≤ hits ∧ hits ≤ 1000000)) (hw : Hid (Way a b th vr_ W th2 vr2 k0 k1 k2 k3 k4 5 ad false ids pg at_ r f)) (w : World) (h : (MemAt w0 w mb S a b N cb size th vr_ W th2 vr2 W2 hits v E)) :
    Calls Tryd.prog 65 #[.pointer (some ⟨mb, 0, none⟩), (Value.agg #[.int .i64 k0, .int .i64 k1, .int .i64 k2, .int .i64 k3, .int .u32 k4]), .int .u32 (ad : Int)] w fun e w' => e = .returned (.tuple #[.agg #[.int .i64 pg, .int .i64 at_, .bool r], .int .i64 f]) ∧ ∃ hits' v' E', MemAt w0 w' mb S a b N cb size th vr_ W th2 vr2 W2 hits' v' E' ∧ (E'.length : Int) ≤ size ∧ hits ≤ hits' ∧ hits' ≤ hits + 1 ∧ KeepB w w' cb v ∧ (v'.ownBlock = v.ownBlock ∨ ∃ g, w.heap.size ≤ g ∧ v'.ownBlock = some g) := by
  have H := Lib.hid h
  obtain ⟨full, hful⟩ : ∃ full, Hid (((E.length : Int) == size) = full) := ⟨_, Lib.hid rfl⟩
  clear h
  go_enter Tryd.func65, Tryd.ntmps65
  go_upto_region 1 with fail
  obtain ⟨wB, hwB⟩ : ∃ wB, wB = ((w.alloc (.cells #[.int .i64 k0, .int .i64 k1, .int .i64 k2, .int .i64 k3, .int .u32 k4] 29 (0, 0))).alloc (.cells #[.int .i64 0, .int .i64 0, .bool false] 40 (0, 0))).drew := ⟨_, rfl⟩
  have HBB : Hid (Below w.heap.size w wB) := Lib.hid (by rw [hwB]; exact (((Below.refl _ _).alloc (Nat.le_refl _) _ : Below w.heap.size w _).alloc (by simp) _).drew)
  have HKB : Hid (KeyC wB w.heap.size k0 k1 k2 k3 k4) := Lib.hid (by rw [hwB]; exact ((KeyC.new w k0 k1 k2 k3 k4 29).below ((Below.refl _ _).alloc (Nat.le_refl _) _)).below (Below.refl _ _).drew)
  have HPB : Hid (PlC wB (w.heap.size + 1) 0 0 false) := Lib.hid (by rw [hwB]; exact (PlC.newB w _ 0 0 false 40).below (Below.refl _ _).drew)
  have H2 := Lib.hid (H.out.below HBB.out)
  have HSz : Hid (wB.heap.size = w.heap.size + 1 + 1) := Lib.hid (by rw [hwB]; simp)
  have HS7 : Hid (∀ w', World.cell? w' ⟨mb, 0, none⟩ = some (.pointer (some ⟨S, 0, none⟩)) → World.cell? w' ⟨mb, 1, none⟩ = some (.pointer (some ⟨cb, 0, none⟩)) → KeyC w' w.heap.size k0 k1 k2 k3 k4 → (World.cell? w' ⟨mb, 0, none⟩ = some (.pointer (some ⟨S, 0, none⟩)) ∧ World.cell? w' ⟨mb, 1, none⟩ = some (.pointer (some ⟨cb, 0, none⟩)) ∧ World.cell? w' ⟨w.heap.size, 0, none⟩ = some (.int .i64 k0) ∧ World.cell? w' ⟨w.heap.size, 1, none⟩ = some (.int .i64 k1) ∧ World.cell? w' ⟨w.heap.size, 2, none⟩ = some (.int .i64 k2) ∧ World.cell? w' ⟨w.heap.size, 3, none⟩ = some (.int .i64 k3) ∧ World.cell? w' ⟨w.heap.size, 4, none⟩ = some (.int .u32 k4))) := Lib.hid (fun w' h0 h1 hk => ⟨h0, h1, hk.c0, hk.c1, hk.c2, hk.c3, hk.c4⟩)
  refine wp_region_noPanic ?_
  refine wp_region_held_drew (S := fun w' => (World.cell? w' ⟨mb, 0, none⟩ = some (.pointer (some ⟨S, 0, none⟩)) ∧ World.cell? w' ⟨mb, 1, none⟩ = some (.pointer (some ⟨cb, 0, none⟩)) ∧ World.cell? w' ⟨w.heap.size, 0, none⟩ = some (.int .i64 k0) ∧ World.cell? w' ⟨w.heap.size, 1, none⟩ = some (.int .i64 k1) ∧ World.cell? w' ⟨w.heap.size, 2, none⟩ = some (.int .i64 k2) ∧ World.cell? w' ⟨w.heap.size, 3, none⟩ = some (.int .i64 k3) ∧ World.cell? w' ⟨w.heap.size, 4, none⟩ = some (.int .u32 k4))) (by kernel_rfl) (by rw [← hwB]; exact HS7.out _ H2.out.m0 H2.out.m1 HKB.out) (fun hHeld => ?_)
  rw [← hwB] at hHeld ⊢
  clear hwB
  refine wpAnyH_take (i := 0) (v := ?_) (by rfl) (by kernel_rfl) (by kernel_rfl) (by kernel_rfl) (fun _ _ _ h => h) (Or.inl ⟨by kernel_rfl, ?_⟩) (by assumption) ?_; rotate_left 1; (focus (intro w hSw; (try dsimp only at hSw); simp only [List.getElem_toArray, List.getElem_cons_succ, List.getElem_cons_zero]; all_goals go_simp; all_goals (try with_reducible rfl))); (try simp only [Act.put, List.getElem_toArray, List.getElem_cons_succ, List.getElem_cons_zero, List.setIfInBounds_toArray, List.set_cons_zero, List.set_cons_succ])
  refine wpAnyH_take (i := 1) (v := ?_) (by rfl) (by kernel_rfl) (by kernel_rfl) (by kernel_rfl) (fun _ _ _ h => h) (Or.inl ⟨by kernel_rfl, ?_⟩) (by assumption) ?_; rotate_left 1; (focus (intro w hSw; (try dsimp only at hSw); simp only [List.getElem_toArray, List.getElem_cons_succ, List.getElem_cons_zero]; all_goals go_simp; all_goals (try with_reducible rfl))); (try simp only [Act.put, List.getElem_toArray, List.getElem_cons_succ, List.getElem_cons_zero, List.setIfInBounds_toArray, List.set_cons_zero, List.set_cons_succ])
  refine wpAnyH_take (i := 2) (v := ?_) (by rfl) (by kernel_rfl) (by kernel_rfl) (by kernel_rfl) (fun _ _ _ h => h) (Or.inl ⟨by kernel_rfl, ?_⟩) (by assumption) ?_; rotate_left 1; (focus (intro w hSw; (try dsimp only at hSw); simp only [List.getElem_toArray, List.getElem_cons_succ, List.getElem_cons_zero]; all_goals go_simp; all_goals (try with_reducible rfl))); (try simp only [Act.put, List.getElem_toArray, List.getElem_cons_succ, List.getElem_cons_zero, List.setIfInBounds_toArray, List.set_cons_zero, List.set_cons_succ])
  refine wpAnyH_take (i := 3) (v := ?_) (by rfl) (by kernel_rfl) (by kernel_rfl) (by kernel_rfl) (fun _ _ _ h => h) (Or.inl ⟨by kernel_rfl, ?_⟩) (by assumption) ?_; rotate_left 1; (focus (intro w hSw; (try dsimp only at hSw); simp only [List.getElem_toArray, List.getElem_cons_succ, List.getElem_cons_zero]; all_goals go_simp; all_goals (try with_reducible rfl))); (try simp only [Act.put, List.getElem_toArray, List.getElem_cons_succ, List.getElem_cons_zero, List.setIfInBounds_toArray, List.set_cons_zero, List.set_cons_succ])
  refine wpAnyH_take (i := 4) (v := ?_) (by rfl) (by kernel_rfl) (by kernel_rfl) (by kernel_rfl) (fun _ _ _ h => h) (Or.inl ⟨by kernel_rfl, ?_⟩) (by assumption) ?_; rotate_left 1; (focus (intro w hSw; (try dsimp only at hSw); simp only [List.getElem_toArray, List.getElem_cons_succ, List.getElem_cons_zero]; all_goals go_simp; all_goals (try with_reducible rfl))); (try simp only [Act.put, List.getElem_toArray, List.getElem_cons_succ, List.getElem_cons_zero, List.setIfInBounds_toArray, List.set_cons_zero, List.set_cons_succ])
  refine wpAnyH_take (i := 5) (v := ?_) (by rfl) (by kernel_rfl) (by kernel_rfl) (by kernel_rfl) (fun _ _ _ h => h) (Or.inl ⟨by kernel_rfl, ?_⟩) (by assumption) ?_; rotate_left 1; (focus (intro w hSw; (try dsimp only at hSw); simp only [List.getElem_toArray, List.getElem_cons_succ, List.getElem_cons_zero]; all_goals go_simp; all_goals (try with_reducible rfl))); (try simp only [Act.put, List.getElem_toArray, List.getElem_cons_succ, List.getElem_cons_zero, List.setIfInBounds_toArray, List.set_cons_zero, List.set_cons_succ])
  refine wpAnyH_take (i := 6) (v := ?_) (by rfl) (by kernel_rfl) (by kernel_rfl) (by kernel_rfl) (fun _ _ _ h => h) (Or.inl ⟨by kernel_rfl, ?_⟩) (by assumption) ?_; rotate_left 1; (focus (intro w hSw; (try dsimp only at hSw); simp only [List.getElem_toArray, List.getElem_cons_succ, List.getElem_cons_zero]; all_goals go_simp; all_goals (try with_reducible rfl))); (try simp only [Act.put, List.getElem_toArray, List.getElem_cons_succ, List.getElem_cons_zero, List.setIfInBounds_toArray, List.set_cons_zero, List.set_cons_succ])
  refine wpAnyH_take (i := 7) (v := ?_) (by rfl) (by kernel_rfl) (by kernel_rfl) (by kernel_rfl) (fun _ _ _ h => h) (Or.inl ⟨by kernel_rfl, ?_⟩) (by assumption) ?_; rotate_left 1; (focus (intro w hSw; (try dsimp only at hSw); simp only [List.getElem_toArray, List.getElem_cons_succ, List.getElem_cons_zero]; all_goals go_simp; all_goals (try with_reducible rfl))); (try simp only [Act.put, List.getElem_toArray, List.getElem_cons_succ, List.getElem_cons_zero, List.setIfInBounds_toArray, List.set_cons_zero, List.set_cons_succ])
  refine wpAnyH_take (i := 8) (v := ?_) (by rfl) (by kernel_rfl) (by kernel_rfl) (by kernel_rfl) (fun _ _ _ h => h) (Or.inl ⟨by kernel_rfl, ?_⟩) (by assumption) ?_; rotate_left 1; (focus (intro w hSw; (try dsimp only at hSw); simp only [List.getElem_toArray, List.getElem_cons_succ, List.getElem_cons_zero]; all_goals go_simp; all_goals (try with_reducible rfl))); (try simp only [Act.put, List.getElem_toArray, List.getElem_cons_succ, List.getElem_cons_zero, List.setIfInBounds_toArray, List.set_cons_zero, List.set_cons_succ])
  refine wpAnyH_take (i := 9) (v := ?_) (by rfl) (by kernel_rfl) (by kernel_rfl) (by kernel_rfl) (fun _ _ _ h => h) (Or.inl ⟨by kernel_rfl, ?_⟩) (by assumption) ?_; rotate_left 1; (focus (intro w hSw; (try dsimp only at hSw); simp only [List.getElem_toArray, List.getElem_cons_succ, List.getElem_cons_zero]; all_goals go_simp; all_goals (try with_reducible rfl))); (try simp only [Act.put, List.getElem_toArray, List.getElem_cons_succ, List.getElem_cons_zero, List.setIfInBounds_toArray, List.set_cons_zero, List.set_cons_succ])
  refine wpAnyH_ready (rs := [10]) (by kernel_rfl) (by simp) ?_; refine AllReadyH.cons (by rfl) (fun K hK => ?_) AllReadyH.nil; rw [if_pos (by kernel_rfl)]; simp only [List.getElem_toArray, List.getElem_cons_succ, List.getElem_cons_zero]
  go_wp2_with (first
    | (go_at_call 16; (with_reducible refine (cfindx_is k0 k1 k2 k3 k4 ad had ids pg at_ r f E.length (Lib.hid rfl) full (Lib.hid ⟨hroom.out.1, hroom.out.2.1⟩) hful (by have := hroom.out; omega) hh hw (Lib.hid H.out.ok) _ H2.out.sv.st H2.out.ca H2.out.nN).mono ?_); rintro e w1 ⟨rfl, hb, hits', v', E', hc, ok, ho, hk, hv, hnn⟩; have HNo := Lib.hid (hnn (w.heap.size + 1) (by rw [HSz.out]; omega) (H.out.ca.noNode _ (by omega))); have HM := Lib.hid (H2.out.found hb hc ok hk hv); have HP := Lib.hid (HPB.out.same hk.1 (hk.2 _ (by rw [HSz.out]; omega) (by have := H.out.ca.cl; omega) (fun e => by have := (H.out.ca.row.lt _ e).2; omega))); have HKK := Lib.hid (HKB.out.same' hk.1 (hk.2 _ (by rw [HSz.out]; omega) (by have := H.out.ca.cl; omega) (fun e => by have := (H.out.ca.row.lt _ e).2; omega))); have HK := Lib.hid hk; have HV := Lib.hid hv; have HG := Lib.hid (ho.room ⟨hroom.out.1, hroom.out.2.1⟩ hful.out); clear hb hc ok ho hk hv hnn))
  refine hK.out _ _ (HS7.out _ HM.out.m0 HM.out.m1 HKK.out) (fun hHeld => ?_)
  clear hK K
  (try simp only [Act.put, List.getElem_toArray, List.getElem_cons_succ, List.getElem_cons_zero, List.setIfInBounds_toArray, List.set_cons_zero, List.set_cons_succ])
  refine wpAnyH_take (i := 11) (v := ?_) (by rfl) (by kernel_rfl) (by kernel_rfl) (by kernel_rfl) (fun _ _ _ h => h) (Or.inl ⟨by kernel_rfl, ?_⟩) (by assumption) ?_; rotate_left 1; (focus (intro w hSw; (try dsimp only at hSw); simp only [List.getElem_toArray, List.getElem_cons_succ, List.getElem_cons_zero]; all_goals go_simp; all_goals (try with_reducible rfl))); (try simp only [Act.put, List.getElem_toArray, List.getElem_cons_succ, List.getElem_cons_zero, List.setIfInBounds_toArray, List.set_cons_zero, List.set_cons_succ])
  refine wpAnyH_take (i := 12) (v := ?_) (by rfl) (by kernel_rfl) (by kernel_rfl) (by kernel_rfl) (fun _ _ _ h => h) (Or.inl ⟨by kernel_rfl, ?_⟩) (by assumption) ?_; rotate_left 1; (focus (intro w hSw; (try dsimp only at hSw); simp only [List.getElem_toArray, List.getElem_cons_succ, List.getElem_cons_zero]; all_goals go_simp; all_goals (try with_reducible rfl))); (try simp only [Act.put, List.getElem_toArray, List.getElem_cons_succ, List.getElem_cons_zero, List.setIfInBounds_toArray, List.set_cons_zero, List.set_cons_succ])
  refine wpAnyH_ready (rs := [13]) (by kernel_rfl) (by simp) ?_; refine AllReadyH.cons (by rfl) (fun K hK => ?_) AllReadyH.nil; rw [if_pos (by kernel_rfl)]; simp only [List.getElem_toArray, List.getElem_cons_succ, List.getElem_cons_zero]
  have p0 := HP.out.c0
  have p1 := HP.out.c1
  have p2 := HP.out.c2
  have f0 := HP.out.fr 0
  have f1 := HP.out.fr 1
  have f2 := HP.out.fr 2
  have hx1 : cb ≠ w.heap.size + 1 := by have := H.out.ca.cl; omega
  have hx2 : mb ≠ w.heap.size + 1 := by have := H.out.ml; omega
  have hx3 : v'.ownBlock ≠ some (w.heap.size + 1) := fun e => by
    rcases HV.out with e' | ⟨g, hg, e'⟩
    · rw [e'] at e; have := (H.out.ca.row.lt _ e).2; omega
    · rw [e'] at e; injection e with e; rw [HSz.out] at hg; omega
  have HFin := Lib.hid (HM.out.put3 (w.heap.size + 1) (by have := H.out.nN; omega) hx1 hx2 hx3 HNo.out (.int .i64 pg) (.int .i64 at_) (.bool r))
  go_wp2_with fail
  refine hK.out _ _ (HS7.out _ HFin.out.m0 HFin.out.m1 (HKK.out.same' (by simp) (by rw [set_heap _ _ _ _ _ (by omega), set_heap _ _ _ _ _ (by omega), set_heap _ _ _ _ _ (by omega)]))) (fun hHeld => ?_)
  clear hK K
  (try simp only [Act.put, List.getElem_toArray, List.getElem_cons_succ, List.getElem_cons_zero, List.setIfInBounds_toArray, List.set_cons_zero, List.set_cons_succ])
  refine wpAnyH_take (i := 14) (v := ?_) (by rfl) (by kernel_rfl) (by kernel_rfl) (by kernel_rfl) (fun _ _ _ h => h) (Or.inl ⟨by kernel_rfl, ?_⟩) (by assumption) ?_; rotate_left 1; (focus (intro w hSw; (try dsimp only at hSw); simp only [List.getElem_toArray, List.getElem_cons_succ, List.getElem_cons_zero]; all_goals go_simp; all_goals (try with_reducible rfl))); (try simp only [Act.put, List.getElem_toArray, List.getElem_cons_succ, List.getElem_cons_zero, List.setIfInBounds_toArray, List.set_cons_zero, List.set_cons_succ])
  refine wpAnyH_done (by kernel_rfl) ?_ _
  refine NoPanic.normal ?_
  go_wp2_with fail
  have t := HP.out.set pg at_ r
  have t0 := t.c0
  have t1 := t.c1
  have t2 := t.c2
  refine bodyPost_ret (v := .tuple #[.agg #[.int .i64 pg, .int .i64 at_, .bool r], .int .i64 f]) (by simp [results, Tryd.results65, go_sem, t0, t1, t2]) rfl ⟨rfl, ?_⟩
  have hsz := HK.out.1
  rw [HSz.out] at hsz
  refine ⟨hits', v', E', HFin.out, HG.out.1, HG.out.2.1, HG.out.2.2, ⟨by simp; omega, fun k hk hkc hkv => ?_⟩, HV.out.imp id (fun ⟨g, hg, e⟩ => ⟨g, by rw [HSz.out] at hg; omega, e⟩)⟩
  rw [set_heap _ _ _ _ _ (by omega), set_heap _ _ _ _ _ (by omega), set_heap _ _ _ _ _ (by omega), HK.out.2 k (by rw [HSz.out]; omega) hkc hkv]
  exact HBB.out.block k hk
set_option maxRecDepth 100000 in
set_option maxHeartbeats 2000000 in
theorem mloadx_fault {w0 : World} {mb S : Nat} {a b : Shp} {N cb : Nat} {size : Int} {th : Nat → Bool} {vr_ : Nat → Int} {W : Nat → Nat → Value} {th2 : Nat → Bool} {vr2 : Nat → Int} {W2 : Nat → Nat → Int} {hits : Int} {v : Value} {E : List EW} (k0 k1 k2 k3 k4 : Int) (ad : Nat) (had : ad ≤ 4294967295) (ids : List Int) (pg at_ : Int) (r : Bool) (f : Int) (hf : (f != 0) = true) (hroom : Hid ((E.length : Int) ≤ size ∧ 1 ≤ size ∧ size ≤ 64)) (hh : Hid (0 ≤ hits ∧ hits ≤ 1000000)) (hw : Hid (Way a b th vr_ W th2 vr2 k0 k1 k2 k3 k4 5 ad false ids pg at_ r f)) (w : World) (h : (MemAt w0 w mb S a b N cb size th vr_ W th2 vr2 W2 hits v E)) :
    Calls Tryd.prog 35 #[.pointer (some ⟨mb, 0, none⟩), (Value.agg #[.int .i64 k0, .int .i64 k1, .int .i64 k2, .int .i64 k3, .int .u32 k4]), .int .u32 (ad : Int)] w fun e w' => e = .returned (.tuple #[.int .u32 0, .int .i64 f]) ∧ ∃ hits' v' E', MemAt w0 w' mb S a b N cb size th vr_ W th2 vr2 W2 hits' v' E' ∧ (E'.length : Int) ≤ size ∧ hits ≤ hits' ∧ hits' ≤ hits + 1 ∧ KeepM w w' N cb v ∧ (v'.ownBlock = v.ownBlock ∨ ∃ g, w.heap.size ≤ g ∧ v'.ownBlock = some g) := by
  have hb1 : ∀ o, Below w.heap.size w (w.alloc o) := fun o => (Below.refl _ _).alloc (Nat.le_refl _) _
  have H := Lib.hid (fun o => h.below (hb1 o))
  have HB := Lib.hid hb1
  have hf0 : ¬ f = 0 := by simpa using hf
  clear h hb1
  go_enter Tryd.func35, Tryd.ntmps35
  go_wp2_with (first
    | (go_at_call 65; (with_reducible refine (mfindx_is k0 k1 k2 k3 k4 ad had ids pg at_ r f hroom hh hw _ (H.out _)).mono ?_); rintro e w1 ⟨rfl, hits', v', E', hm, g1, g2, g3, hk, hv⟩; have HM := Lib.hid hm; have HG := Lib.hid (And.intro g1 (And.intro g2 g3)); have HK := Lib.hid hk; have HV := Lib.hid hv; clear hm g1 g2 g3 hk hv))
  go_ret2
  have hs := HK.out.1
  simp at hs
  refine ⟨rfl, hits', v', E', HM.out.below ((Below.refl _ _).alloc (Nat.le_refl _) _), HG.out.1, HG.out.2.1, HG.out.2.2, ⟨by simp; omega, fun k hkN hk hkc hkv => ?_⟩, HV.out.imp id (fun ⟨g, hg, e⟩ => ⟨g, by simp at hg; omega, e⟩)⟩
  rw [((Below.refl _ _).alloc (Nat.le_refl _) _ : Below w1.heap.size w1 _).block k (by omega), HK.out.2 k (by simp; omega) hkc hkv]
  exact (HB.out _).block k hk
set_option maxRecDepth 100000 in
set_option maxHeartbeats 4000000 in
theorem mloadx_ok {w0 : World} {mb S : Nat} {a b : Shp} {N cb : Nat} {size : Int} {th : Nat → Bool} {vr_ : Nat → Int} {W : Nat → Nat → Value} {th2 : Nat → Bool} {vr2 : Nat → Int} {W2 : Nat → Nat → Int} {hits : Int} {v : Value} {E : List EW} (k0 k1 k2 k3 k4 : Int) (ad : Nat) (had : ad ≤ 4294967295) (ids : List Int) (pg at_ : Int) (r : Bool) (i x : Nat) (hpg : Hid (pg = i ∧ at_ = x)) (hi : i < b.n) (hx : x < 32) (hti : Hid (th2 i = true)) (z : Int) (hz : Hid (W2 i x = z)) (hroom : Hid ((E.length : Int) ≤ size ∧ 1 ≤ size ∧ size ≤ 64)) (hh : Hid (0 ≤ hits ∧ hits ≤ 1000000)) (hw : Hid (Way a b th vr_ W th2 vr2 k0 k1 k2 k3 k4 5 ad false ids pg at_ r 0)) (w : World) (h : (MemAt w0 w mb S a b N cb size th vr_ W th2 vr2 W2 hits v E)) :
    Calls Tryd.prog 35 #[.pointer (some ⟨mb, 0, none⟩), (Value.agg #[.int .i64 k0, .int .i64 k1, .int .i64 k2, .int .i64 k3, .int .u32 k4]), .int .u32 (ad : Int)] w fun e w' => e = .returned (.tuple #[.int .u32 z, .int .i64 0]) ∧ ∃ hits' v' E', MemAt w0 w' mb S a b N cb size th vr_ W th2 vr2 W2 hits' v' E' ∧ (E'.length : Int) ≤ size ∧ hits ≤ hits' ∧ hits' ≤ hits + 1 ∧ KeepM w w' N cb v ∧ (v'.ownBlock = v.ownBlock ∨ ∃ g, w.heap.size ≤ g ∧ v'.ownBlock = some g) := by
  have hb1 : ∀ o, Below w.heap.size w (w.alloc o) := fun o => (Below.refl _ _).alloc (Nat.le_refl _) _
  have H := Lib.hid (fun o => h.below (hb1 o))
  have HB := Lib.hid hb1
  clear h hb1
  go_enter Tryd.func35, Tryd.ntmps35
  go_upto_region 4 with (first
    | (go_at_call 65; (with_reducible refine (mfindx_is k0 k1 k2 k3 k4 ad had ids pg at_ r 0 hroom hh hw _ (H.out _)).mono ?_); rintro e w1 ⟨rfl, hits', v', E', hm, g1, g2, g3, hk, hv⟩; have HM := Lib.hid hm; have HG := Lib.hid (And.intro g1 (And.intro g2 g3)); have HK := Lib.hid hk; have HV := Lib.hid hv; clear hm g1 g2 g3 hk hv))
  have hq := (PlC.new w1 pg at_ r 40).below (Below.refl _ _).drew
  have hm2 := (HM.out.below ((Below.refl _ _).alloc (Nat.le_refl _) _ : Below w1.heap.size w1 (w1.alloc (.cells #[.int .i64 pg, .int .i64 at_, .bool r] 40 (0, 0))))).below (Below.refl _ _).drew
  have HM2 := Lib.hid hm2
  refine wp_region_noPanic ?_
  refine wp_region_held_drew (S := fun w' => World.cell? w' ⟨mb, 0, none⟩ = some (.pointer (some ⟨S, 0, none⟩)) ∧ World.cell? w' ⟨S, 1, none⟩ = some (.pointer (some ⟨b.P, 0, none⟩)) ∧ World.cell? w' ⟨w1.heap.size, 0, none⟩ = some (.int .i64 pg) ∧ World.cell? w' ⟨w1.heap.size, 1, none⟩ = some (.int .i64 at_)) (by kernel_rfl) ⟨hm2.m0, hm2.sv.st.s1, hq.c0, hq.c1⟩ (fun hHeld => ?_)
  clear hq hm2
  refine wpAnyH_take (i := 0) (v := ?_) (by rfl) (by kernel_rfl) (by kernel_rfl) (by kernel_rfl) (fun _ _ _ h => h) (Or.inl ⟨by kernel_rfl, ?_⟩) (by assumption) ?_; rotate_left 1; (focus (intro w hSw; (try dsimp only at hSw); simp only [List.getElem_toArray, List.getElem_cons_succ, List.getElem_cons_zero]; all_goals go_simp; all_goals (try with_reducible rfl))); (try simp only [Act.put, List.getElem_toArray, List.getElem_cons_succ, List.getElem_cons_zero, List.setIfInBounds_toArray, List.set_cons_zero, List.set_cons_succ])
  refine wpAnyH_take (i := 1) (v := ?_) (by rfl) (by kernel_rfl) (by kernel_rfl) (by kernel_rfl) (fun _ _ _ h => h) (Or.inl ⟨by kernel_rfl, ?_⟩) (by assumption) ?_; rotate_left 1; (focus (intro w hSw; (try dsimp only at hSw); simp only [List.getElem_toArray, List.getElem_cons_succ, List.getElem_cons_zero]; all_goals go_simp; all_goals (try with_reducible rfl))); (try simp only [Act.put, List.getElem_toArray, List.getElem_cons_succ, List.getElem_cons_zero, List.setIfInBounds_toArray, List.set_cons_zero, List.set_cons_succ])
  refine wpAnyH_take (i := 2) (v := ?_) (by rfl) (by kernel_rfl) (by kernel_rfl) (by kernel_rfl) (fun _ _ _ h => h) (Or.inl ⟨by kernel_rfl, ?_⟩) (by assumption) ?_; rotate_left 1; (focus (intro w hSw; (try dsimp only at hSw); simp only [List.getElem_toArray, List.getElem_cons_succ, List.getElem_cons_zero]; all_goals go_simp; all_goals (try with_reducible rfl))); (try simp only [Act.put, List.getElem_toArray, List.getElem_cons_succ, List.getElem_cons_zero, List.setIfInBounds_toArray, List.set_cons_zero, List.set_cons_succ])
  refine wpAnyH_take (i := 3) (v := ?_) (by rfl) (by kernel_rfl) (by kernel_rfl) (by kernel_rfl) (fun _ _ _ h => h) (Or.inl ⟨by kernel_rfl, ?_⟩) (by assumption) ?_; rotate_left 1; (focus (intro w hSw; (try dsimp only at hSw); simp only [List.getElem_toArray, List.getElem_cons_succ, List.getElem_cons_zero]; all_goals go_simp; all_goals (try with_reducible rfl))); (try simp only [Act.put, List.getElem_toArray, List.getElem_cons_succ, List.getElem_cons_zero, List.setIfInBounds_toArray, List.set_cons_zero, List.set_cons_succ])
  refine wpAnyH_take (i := 4) (v := ?_) (by rfl) (by kernel_rfl) (by kernel_rfl) (by kernel_rfl) (fun _ _ _ h => h) (Or.inl ⟨by kernel_rfl, ?_⟩) (by assumption) ?_; rotate_left 1; (focus (intro w hSw; (try dsimp only at hSw); simp only [List.getElem_toArray, List.getElem_cons_succ, List.getElem_cons_zero]; all_goals go_simp; all_goals (try with_reducible rfl))); (try simp only [Act.put, List.getElem_toArray, List.getElem_cons_succ, List.getElem_cons_zero, List.setIfInBounds_toArray, List.set_cons_zero, List.set_cons_succ])
  refine wpAnyH_take (i := 5) (v := ?_) (by rfl) (by kernel_rfl) (by kernel_rfl) (by kernel_rfl) (fun _ _ _ h => h) (Or.inl ⟨by kernel_rfl, ?_⟩) (by assumption) ?_; rotate_left 1; (focus (intro w hSw; (try dsimp only at hSw); simp only [List.getElem_toArray, List.getElem_cons_succ, List.getElem_cons_zero]; all_goals go_simp; all_goals (try with_reducible rfl))); (try simp only [Act.put, List.getElem_toArray, List.getElem_cons_succ, List.getElem_cons_zero, List.setIfInBounds_toArray, List.set_cons_zero, List.set_cons_succ])
  refine wpAnyH_take (i := 6) (v := ?_) (by rfl) (by kernel_rfl) (by kernel_rfl) (by kernel_rfl) (fun _ _ _ h => h) (Or.inl ⟨by kernel_rfl, ?_⟩) (by assumption) ?_; rotate_left 1; (focus (intro w hSw; (try dsimp only at hSw); simp only [List.getElem_toArray, List.getElem_cons_succ, List.getElem_cons_zero]; all_goals go_simp; all_goals (try with_reducible rfl))); (try simp only [Act.put, List.getElem_toArray, List.getElem_cons_succ, List.getElem_cons_zero, List.setIfInBounds_toArray, List.set_cons_zero, List.set_cons_succ])
  refine wpAnyH_take (i := 7) (v := ?_) (by rfl) (by kernel_rfl) (by kernel_rfl) (by kernel_rfl) (fun _ _ _ h => h) (Or.inl ⟨by kernel_rfl, ?_⟩) (by assumption) ?_; rotate_left 1; (focus (intro w hSw; (try dsimp only at hSw); simp only [List.getElem_toArray, List.getElem_cons_succ, List.getElem_cons_zero]; all_goals go_simp; all_goals (try with_reducible rfl))); (try simp only [Act.put, List.getElem_toArray, List.getElem_cons_succ, List.getElem_cons_zero, List.setIfInBounds_toArray, List.set_cons_zero, List.set_cons_succ])
  refine wpAnyH_take (i := 8) (v := ?_) (by rfl) (by kernel_rfl) (by kernel_rfl) (by kernel_rfl) (fun _ _ _ h => h) (Or.inl ⟨by kernel_rfl, ?_⟩) (by assumption) ?_; rotate_left 1; (focus (intro w hSw; (try dsimp only at hSw); simp only [List.getElem_toArray, List.getElem_cons_succ, List.getElem_cons_zero]; all_goals go_simp; all_goals (try with_reducible rfl))); (try simp only [Act.put, List.getElem_toArray, List.getElem_cons_succ, List.getElem_cons_zero, List.setIfInBounds_toArray, List.set_cons_zero, List.set_cons_succ])
  refine wpAnyH_take (i := 9) (v := ?_) (by rfl) (by kernel_rfl) (by kernel_rfl) (by kernel_rfl) (fun _ _ _ h => h) (Or.inl ⟨by kernel_rfl, ?_⟩) (by assumption) ?_; rotate_left 1; (focus (intro w hSw; (try dsimp only at hSw); simp only [List.getElem_toArray, List.getElem_cons_succ, List.getElem_cons_zero]; all_goals go_simp; all_goals (try with_reducible rfl))); (try simp only [Act.put, List.getElem_toArray, List.getElem_cons_succ, List.getElem_cons_zero, List.setIfInBounds_toArray, List.set_cons_zero, List.set_cons_succ])
  refine wpAnyH_take (i := 10) (v := ?_) (by rfl) (by kernel_rfl) (by kernel_rfl) (by kernel_rfl) (fun _ _ _ h => h) (Or.inl ⟨by kernel_rfl, ?_⟩) (by assumption) ?_; rotate_left 1; (focus (intro w hSw; (try dsimp only at hSw); simp only [List.getElem_toArray, List.getElem_cons_succ, List.getElem_cons_zero]; all_goals go_simp; all_goals (try with_reducible rfl))); (try simp only [Act.put, List.getElem_toArray, List.getElem_cons_succ, List.getElem_cons_zero, List.setIfInBounds_toArray, List.set_cons_zero, List.set_cons_succ])
  refine wpAnyH_ready (rs := [11]) (by kernel_rfl) (by simp) ?_; refine AllReadyH.cons (by rfl) (fun K hK => ?_) AllReadyH.nil; rw [if_pos (by kernel_rfl)]; simp only [List.getElem_toArray, List.getElem_cons_succ, List.getElem_cons_zero]
  go_wp2_with (first
    | (go_at_call 36; (with_reducible refine (pread_at pg at_ i x (Lib.hid hpg.out.1) (Lib.hid hpg.out.2) hi hx hti z hz _ HM2.out.sv.st.pg).mono ?_); rintro e w2 ⟨rfl, rfl⟩))
  refine hK.out _ _ hHeld (fun hHeld => ?_)
  clear hK K
  (try simp only [Act.put, List.getElem_toArray, List.getElem_cons_succ, List.getElem_cons_zero, List.setIfInBounds_toArray, List.set_cons_zero, List.set_cons_succ])
  refine wpAnyH_take (i := 12) (v := ?_) (by rfl) (by kernel_rfl) (by kernel_rfl) (by kernel_rfl) (fun _ _ _ h => h) (Or.inl ⟨by kernel_rfl, ?_⟩) (by assumption) ?_; rotate_left 1; (focus (intro w hSw; (try dsimp only at hSw); simp only [List.getElem_toArray, List.getElem_cons_succ, List.getElem_cons_zero]; all_goals go_simp; all_goals (try with_reducible rfl))); (try simp only [Act.put, List.getElem_toArray, List.getElem_cons_succ, List.getElem_cons_zero, List.setIfInBounds_toArray, List.set_cons_zero, List.set_cons_succ])
  refine wpAnyH_take (i := 13) (v := ?_) (by rfl) (by kernel_rfl) (by kernel_rfl) (by kernel_rfl) (fun _ _ _ h => h) (Or.inl ⟨by kernel_rfl, ?_⟩) (by assumption) ?_; rotate_left 1; (focus (intro w hSw; (try dsimp only at hSw); simp only [List.getElem_toArray, List.getElem_cons_succ, List.getElem_cons_zero]; all_goals go_simp; all_goals (try with_reducible rfl))); (try simp only [Act.put, List.getElem_toArray, List.getElem_cons_succ, List.getElem_cons_zero, List.setIfInBounds_toArray, List.set_cons_zero, List.set_cons_succ])
  refine wpAnyH_take (i := 14) (v := ?_) (by rfl) (by kernel_rfl) (by kernel_rfl) (by kernel_rfl) (fun _ _ _ h => h) (Or.inl ⟨by kernel_rfl, ?_⟩) (by assumption) ?_; rotate_left 1; (focus (intro w hSw; (try dsimp only at hSw); simp only [List.getElem_toArray, List.getElem_cons_succ, List.getElem_cons_zero]; all_goals go_simp; all_goals (try with_reducible rfl))); (try simp only [Act.put, List.getElem_toArray, List.getElem_cons_succ, List.getElem_cons_zero, List.setIfInBounds_toArray, List.set_cons_zero, List.set_cons_succ])
  refine wpAnyH_take (i := 15) (v := ?_) (by rfl) (by kernel_rfl) (by kernel_rfl) (by kernel_rfl) (fun _ _ _ h => h) (Or.inl ⟨by kernel_rfl, ?_⟩) (by assumption) ?_; rotate_left 1; (focus (intro w hSw; (try dsimp only at hSw); simp only [List.getElem_toArray, List.getElem_cons_succ, List.getElem_cons_zero]; all_goals go_simp; all_goals (try with_reducible rfl))); (try simp only [Act.put, List.getElem_toArray, List.getElem_cons_succ, List.getElem_cons_zero, List.setIfInBounds_toArray, List.set_cons_zero, List.set_cons_succ])
  refine wpAnyH_take (i := 16) (v := ?_) (by rfl) (by kernel_rfl) (by kernel_rfl) (by kernel_rfl) (fun _ _ _ h => h) (Or.inl ⟨by kernel_rfl, ?_⟩) (by assumption) ?_; rotate_left 1; (focus (intro w hSw; (try dsimp only at hSw); simp only [List.getElem_toArray, List.getElem_cons_succ, List.getElem_cons_zero]; all_goals go_simp; all_goals (try with_reducible rfl))); (try simp only [Act.put, List.getElem_toArray, List.getElem_cons_succ, List.getElem_cons_zero, List.setIfInBounds_toArray, List.set_cons_zero, List.set_cons_succ])
  refine wpAnyH_done (by kernel_rfl) ?_ _
  refine NoPanic.normal ?_
  go_wp2_with fail
  go_ret2
  have hs := HK.out.1
  simp at hs
  refine ⟨rfl, hits', v', E', HM2.out, HG.out.1, HG.out.2.1, HG.out.2.2, ⟨by simp; omega, fun k hkN hk hkc hkv => ?_⟩, HV.out.imp id (fun ⟨g, hg, e⟩ => ⟨g, by simp at hg; omega, e⟩)⟩
  rw [(((Below.refl _ _).alloc (Nat.le_refl _) _ : Below w1.heap.size w1 _).drew).block k (by omega), HK.out.2 k (by simp; omega) hkc hkv]
  exact (HB.out _).block k hk
set_option maxRecDepth 100000 in
set_option maxHeartbeats 2000000 in
theorem msavex_fault {w0 : World} {mb S : Nat} {a b : Shp} {N cb : Nat} {size : Int} {th : Nat → Bool} {vr_ : Nat → Int} {W : Nat → Nat → Value} {th2 : Nat → Bool} {vr2 : Nat → Int} {W2 : Nat → Nat → Int} {hits : Int} {v : Value} {E : List EW} (k0 k1 k2 k3 k4 : Int) (ad : Nat) (had : ad ≤ 4294967295) (ids : List Int) (pg at_ : Int) (r : Bool) (f : Int) (hf : (f != 0) = true) (u : Int) (hroom : Hid ((E.length : Int) ≤ size ∧ 1 ≤ size ∧ size ≤ 64)) (hh : Hid (0 ≤ hits ∧ hits ≤ 1000000)) (hw : Hid (Way a b th vr_ W th2 vr2 k0 k1 k2 k3 k4 5 ad false ids pg at_ r f)) (w : World) (h : (MemAt w0 w mb S a b N cb size th vr_ W th2 vr2 W2 hits v E)) :
    Calls Tryd.prog 34 #[.pointer (some ⟨mb, 0, none⟩), (Value.agg #[.int .i64 k0, .int .i64 k1, .int .i64 k2, .int .i64 k3, .int .u32 k4]), .int .u32 (ad : Int), .int .u32 u] w fun e w' => e = .returned (.int .i64 f) ∧ ∃ hits' v' E', MemAt w0 w' mb S a b N cb size th vr_ W th2 vr2 W2 hits' v' E' ∧ (E'.length : Int) ≤ size ∧ hits ≤ hits' ∧ hits' ≤ hits + 1 ∧ KeepM w w' N cb v ∧ (v'.ownBlock = v.ownBlock ∨ ∃ g, w.heap.size ≤ g ∧ v'.ownBlock = some g) := by
  have hb1 : ∀ o, Below w.heap.size w (w.alloc o) := fun o => (Below.refl _ _).alloc (Nat.le_refl _) _
  have H := Lib.hid (fun o => h.below (hb1 o))
  have HB := Lib.hid hb1
  have hf0 : ¬ f = 0 := by simpa using hf
  clear h hb1
  go_enter Tryd.func34, Tryd.ntmps34
  go_wp2_with (first
    | (go_at_call 65; (with_reducible refine (mfindx_is k0 k1 k2 k3 k4 ad had ids pg at_ r f hroom hh hw _ (H.out _)).mono ?_); rintro e w1 ⟨rfl, hits', v', E', hm, g1, g2, g3, hk, hv⟩; have HM := Lib.hid hm; have HG := Lib.hid (And.intro g1 (And.intro g2 g3)); have HK := Lib.hid hk; have HV := Lib.hid hv; clear hm g1 g2 g3 hk hv))
  go_ret
  have hs := HK.out.1
  simp at hs
  refine ⟨rfl, hits', v', E', HM.out.below ((Below.refl _ _).alloc (Nat.le_refl _) _), HG.out.1, HG.out.2.1, HG.out.2.2, ⟨by simp; omega, fun k hkN hk hkc hkv => ?_⟩, HV.out.imp id (fun ⟨g, hg, e⟩ => ⟨g, by simp at hg; omega, e⟩)⟩
  rw [((Below.refl _ _).alloc (Nat.le_refl _) _ : Below w1.heap.size w1 _).block k (by omega), HK.out.2 k (by simp; omega) hkc hkv]
  exact (HB.out _).block k hk
set_option maxRecDepth 100000 in
set_option maxHeartbeats 4000000 in
theorem msavex_ok {w0 : World} {mb S : Nat} {a b : Shp} {N cb : Nat} {size : Int} {th : Nat → Bool} {vr_ : Nat → Int} {W : Nat → Nat → Value} {th2 : Nat → Bool} {vr2 : Nat → Int} {W2 : Nat → Nat → Int} {hits : Int} {v : Value} {E : List EW} (k0 k1 k2 k3 k4 : Int) (ad : Nat) (had : ad ≤ 4294967295) (ids : List Int) (i x : Nat) (hi : i < b.n) (hx : x < 32) (hti : Hid (th2 i = true)) (u : Int) (hroom : Hid ((E.length : Int) ≤ size ∧ 1 ≤ size ∧ size ≤ 64)) (hh : Hid (0 ≤ hits ∧ hits ≤ 1000000)) (hw : Hid (Way a b th vr_ W th2 vr2 k0 k1 k2 k3 k4 5 ad false ids i x false 0)) (w : World) (h : (MemAt w0 w mb S a b N cb size th vr_ W th2 vr2 W2 hits v E)) :
    Calls Tryd.prog 34 #[.pointer (some ⟨mb, 0, none⟩), (Value.agg #[.int .i64 k0, .int .i64 k1, .int .i64 k2, .int .i64 k3, .int .u32 k4]), .int .u32 (ad : Int), .int .u32 u] w fun e w' => e = .returned (.int .i64 0) ∧ ∃ hits' v' E', MemAt w0 w' mb S a b N cb size th vr_ W th2 vr2 (updA W2 i x u) hits' v' E' ∧ (E'.length : Int) ≤ size ∧ hits ≤ hits' ∧ hits' ≤ hits + 1 ∧ KeepM w w' N cb v ∧ (v'.ownBlock = v.ownBlock ∨ ∃ g, w.heap.size ≤ g ∧ v'.ownBlock = some g) := by
  have hb1 : ∀ o, Below w.heap.size w (w.alloc o) := fun o => (Below.refl _ _).alloc (Nat.le_refl _) _
  have H := Lib.hid (fun o => h.below (hb1 o))
  have HB := Lib.hid hb1
  clear h hb1
  go_enter Tryd.func34, Tryd.ntmps34
  go_upto_region 6 with (first
    | (go_at_call 65; (with_reducible refine (mfindx_is k0 k1 k2 k3 k4 ad had ids i x false 0 hroom hh hw _ (H.out _)).mono ?_); rintro e w1 ⟨rfl, hits', v', E', hm, g1, g2, g3, hk, hv⟩; have HM := Lib.hid hm; have HG := Lib.hid (And.intro g1 (And.intro g2 g3)); have HK := Lib.hid hk; have HV := Lib.hid hv; clear hm g1 g2 g3 hk hv))
  have hq := (PlC.new w1 i x false 40).below (Below.refl _ _).drew
  have hm2 := (HM.out.below ((Below.refl _ _).alloc (Nat.le_refl _) _ : Below w1.heap.size w1 (w1.alloc (.cells #[.int .i64 i, .int .i64 x, .bool false] 40 (0, 0))))).below (Below.refl _ _).drew
  have HM2 := Lib.hid hm2
  refine wp_region_noPanic ?_
  refine wp_region_held_drew (S := fun w' => World.cell? w' ⟨mb, 0, none⟩ = some (.pointer (some ⟨S, 0, none⟩)) ∧ World.cell? w' ⟨S, 1, none⟩ = some (.pointer (some ⟨b.P, 0, none⟩)) ∧ World.cell? w' ⟨w1.heap.size, 0, none⟩ = some (.int .i64 i) ∧ World.cell? w' ⟨w1.heap.size, 1, none⟩ = some (.int .i64 x)) (by kernel_rfl) ⟨hm2.m0, hm2.sv.st.s1, hq.c0, hq.c1⟩ (fun hHeld => ?_)
  have HQ := Lib.hid hq
  clear hq hm2
  refine wpAnyH_take (i := 0) (v := ?_) (by rfl) (by kernel_rfl) (by kernel_rfl) (by kernel_rfl) (fun _ _ _ h => h) (Or.inl ⟨by kernel_rfl, ?_⟩) (by assumption) ?_; rotate_left 1; (focus (intro w hSw; (try dsimp only at hSw); simp only [List.getElem_toArray, List.getElem_cons_succ, List.getElem_cons_zero]; all_goals go_simp; all_goals (try with_reducible rfl))); (try simp only [Act.put, List.getElem_toArray, List.getElem_cons_succ, List.getElem_cons_zero, List.setIfInBounds_toArray, List.set_cons_zero, List.set_cons_succ])
  refine wpAnyH_take (i := 1) (v := ?_) (by rfl) (by kernel_rfl) (by kernel_rfl) (by kernel_rfl) (fun _ _ _ h => h) (Or.inl ⟨by kernel_rfl, ?_⟩) (by assumption) ?_; rotate_left 1; (focus (intro w hSw; (try dsimp only at hSw); simp only [List.getElem_toArray, List.getElem_cons_succ, List.getElem_cons_zero]; all_goals go_simp; all_goals (try with_reducible rfl))); (try simp only [Act.put, List.getElem_toArray, List.getElem_cons_succ, List.getElem_cons_zero, List.setIfInBounds_toArray, List.set_cons_zero, List.set_cons_succ])
  refine wpAnyH_take (i := 2) (v := ?_) (by rfl) (by kernel_rfl) (by kernel_rfl) (by kernel_rfl) (fun _ _ _ h => h) (Or.inl ⟨by kernel_rfl, ?_⟩) (by assumption) ?_; rotate_left 1; (focus (intro w hSw; (try dsimp only at hSw); simp only [List.getElem_toArray, List.getElem_cons_succ, List.getElem_cons_zero]; all_goals go_simp; all_goals (try with_reducible rfl))); (try simp only [Act.put, List.getElem_toArray, List.getElem_cons_succ, List.getElem_cons_zero, List.setIfInBounds_toArray, List.set_cons_zero, List.set_cons_succ])
  refine wpAnyH_take (i := 3) (v := ?_) (by rfl) (by kernel_rfl) (by kernel_rfl) (by kernel_rfl) (fun _ _ _ h => h) (Or.inl ⟨by kernel_rfl, ?_⟩) (by assumption) ?_; rotate_left 1; (focus (intro w hSw; (try dsimp only at hSw); simp only [List.getElem_toArray, List.getElem_cons_succ, List.getElem_cons_zero]; all_goals go_simp; all_goals (try with_reducible rfl))); (try simp only [Act.put, List.getElem_toArray, List.getElem_cons_succ, List.getElem_cons_zero, List.setIfInBounds_toArray, List.set_cons_zero, List.set_cons_succ])
  refine wpAnyH_take (i := 4) (v := ?_) (by rfl) (by kernel_rfl) (by kernel_rfl) (by kernel_rfl) (fun _ _ _ h => h) (Or.inl ⟨by kernel_rfl, ?_⟩) (by assumption) ?_; rotate_left 1; (focus (intro w hSw; (try dsimp only at hSw); simp only [List.getElem_toArray, List.getElem_cons_succ, List.getElem_cons_zero]; all_goals go_simp; all_goals (try with_reducible rfl))); (try simp only [Act.put, List.getElem_toArray, List.getElem_cons_succ, List.getElem_cons_zero, List.setIfInBounds_toArray, List.set_cons_zero, List.set_cons_succ])
  refine wpAnyH_take (i := 5) (v := ?_) (by rfl) (by kernel_rfl) (by kernel_rfl) (by kernel_rfl) (fun _ _ _ h => h) (Or.inl ⟨by kernel_rfl, ?_⟩) (by assumption) ?_; rotate_left 1; (focus (intro w hSw; (try dsimp only at hSw); simp only [List.getElem_toArray, List.getElem_cons_succ, List.getElem_cons_zero]; all_goals go_simp; all_goals (try with_reducible rfl))); (try simp only [Act.put, List.getElem_toArray, List.getElem_cons_succ, List.getElem_cons_zero, List.setIfInBounds_toArray, List.set_cons_zero, List.set_cons_succ])
  refine wpAnyH_take (i := 6) (v := ?_) (by rfl) (by kernel_rfl) (by kernel_rfl) (by kernel_rfl) (fun _ _ _ h => h) (Or.inl ⟨by kernel_rfl, ?_⟩) (by assumption) ?_; rotate_left 1; (focus (intro w hSw; (try dsimp only at hSw); simp only [List.getElem_toArray, List.getElem_cons_succ, List.getElem_cons_zero]; all_goals go_simp; all_goals (try with_reducible rfl))); (try simp only [Act.put, List.getElem_toArray, List.getElem_cons_succ, List.getElem_cons_zero, List.setIfInBounds_toArray, List.set_cons_zero, List.set_cons_succ])
  refine wpAnyH_take (i := 7) (v := ?_) (by rfl) (by kernel_rfl) (by kernel_rfl) (by kernel_rfl) (fun _ _ _ h => h) (Or.inl ⟨by kernel_rfl, ?_⟩) (by assumption) ?_; rotate_left 1; (focus (intro w hSw; (try dsimp only at hSw); simp only [List.getElem_toArray, List.getElem_cons_succ, List.getElem_cons_zero]; all_goals go_simp; all_goals (try with_reducible rfl))); (try simp only [Act.put, List.getElem_toArray, List.getElem_cons_succ, List.getElem_cons_zero, List.setIfInBounds_toArray, List.set_cons_zero, List.set_cons_succ])
  refine wpAnyH_take (i := 8) (v := ?_) (by rfl) (by kernel_rfl) (by kernel_rfl) (by kernel_rfl) (fun _ _ _ h => h) (Or.inl ⟨by kernel_rfl, ?_⟩) (by assumption) ?_; rotate_left 1; (focus (intro w hSw; (try dsimp only at hSw); simp only [List.getElem_toArray, List.getElem_cons_succ, List.getElem_cons_zero]; all_goals go_simp; all_goals (try with_reducible rfl))); (try simp only [Act.put, List.getElem_toArray, List.getElem_cons_succ, List.getElem_cons_zero, List.setIfInBounds_toArray, List.set_cons_zero, List.set_cons_succ])
  refine wpAnyH_take (i := 9) (v := ?_) (by rfl) (by kernel_rfl) (by kernel_rfl) (by kernel_rfl) (fun _ _ _ h => h) (Or.inl ⟨by kernel_rfl, ?_⟩) (by assumption) ?_; rotate_left 1; (focus (intro w hSw; (try dsimp only at hSw); simp only [List.getElem_toArray, List.getElem_cons_succ, List.getElem_cons_zero]; all_goals go_simp; all_goals (try with_reducible rfl))); (try simp only [Act.put, List.getElem_toArray, List.getElem_cons_succ, List.getElem_cons_zero, List.setIfInBounds_toArray, List.set_cons_zero, List.set_cons_succ])
  refine wpAnyH_take (i := 10) (v := ?_) (by rfl) (by kernel_rfl) (by kernel_rfl) (by kernel_rfl) (fun _ _ _ h => h) (Or.inl ⟨by kernel_rfl, ?_⟩) (by assumption) ?_; rotate_left 1; (focus (intro w hSw; (try dsimp only at hSw); simp only [List.getElem_toArray, List.getElem_cons_succ, List.getElem_cons_zero]; all_goals go_simp; all_goals (try with_reducible rfl))); (try simp only [Act.put, List.getElem_toArray, List.getElem_cons_succ, List.getElem_cons_zero, List.setIfInBounds_toArray, List.set_cons_zero, List.set_cons_succ])
  refine wpAnyH_take (i := 11) (v := ?_) (by rfl) (by kernel_rfl) (by kernel_rfl) (by kernel_rfl) (fun _ _ _ h => h) (Or.inl ⟨by kernel_rfl, ?_⟩) (by assumption) ?_; rotate_left 1; (focus (intro w hSw; (try dsimp only at hSw); simp only [List.getElem_toArray, List.getElem_cons_succ, List.getElem_cons_zero]; all_goals go_simp; all_goals (try with_reducible rfl))); (try simp only [Act.put, List.getElem_toArray, List.getElem_cons_succ, List.getElem_cons_zero, List.setIfInBounds_toArray, List.set_cons_zero, List.set_cons_succ])
  refine wpAnyH_ready (rs := [12]) (by kernel_rfl) (by simp) ?_; refine AllReadyH.cons (by rfl) (fun K hK => ?_) AllReadyH.nil; rw [if_pos (by kernel_rfl)]; simp only [List.getElem_toArray, List.getElem_cons_succ, List.getElem_cons_zero]
  have HPl := Lib.hid HM2.out.lo.p
  go_wp2_with (first
    | (go_at_call 66; (with_reducible refine (pwrite_is i x hi hx hti u _ HM2.out.sv.st.pg).mono ?_); rintro e w2 ⟨rfl, hP, hb⟩; have HF := Lib.hid (HM2.out.page hP hb HM2.out.ok); have HPB := Lib.hid hb; clear hP hb))
  have hN1 : N ≤ w1.heap.size := HM.out.nN
  have hqq : w2.heap[w1.heap.size]? = _ := HPB.out.2.2.2.2 w1.heap.size (by simp) (by have := HPl.out; omega) (by have := HPl.out; omega)
  refine hK.out _ _ ⟨HF.out.m0, HF.out.sv.st.s1, (World.cell?_of_block (a := ⟨w1.heap.size, 0, none⟩) hqq).trans HQ.out.c0, (World.cell?_of_block (a := ⟨w1.heap.size, 1, none⟩) hqq).trans HQ.out.c1⟩ (fun hHeld => ?_)
  clear hK K
  (try simp only [Act.put, List.getElem_toArray, List.getElem_cons_succ, List.getElem_cons_zero, List.setIfInBounds_toArray, List.set_cons_zero, List.set_cons_succ])
  refine wpAnyH_done (by kernel_rfl) ?_ _
  refine NoPanic.normal ?_
  go_wp2_with fail
  go_ret
  have hs := HK.out.1
  simp at hs
  have hs2 := HPB.out.2.2.2.1
  simp at hs2
  refine ⟨rfl, hits', v', E', HF.out, HG.out.1, HG.out.2.1, HG.out.2.2, ⟨by omega, fun k hkN hk hkc hkv => ?_⟩, HV.out.imp id (fun ⟨g, hg, e⟩ => ⟨g, by simp at hg; omega, e⟩)⟩
  rw [HPB.out.2.2.2.2 k (by simp; omega) (by have := HPl.out; omega) (by have := HPl.out; omega), (((Below.refl _ _).alloc (Nat.le_refl _) _ : Below w1.heap.size w1 _).drew).block k (by omega), HK.out.2 k (by simp; omega) hkc hkv]
  exact (HB.out _).block k hk
end Go.Proofs.YtedidopkemjgeaaDoor
namespace Go.Proofs.YtedidopkemjgeaaDoor
open Go.ChangeShapes Go.WideShapes Go.ChangeAt Go.RowKit
set_option linter.unusedVariables false
set_option linter.unusedSimpArgs false
theorem ways_ids {a b : Shp} {th : Nat → Bool} {vr_ : Nat → Int} {W : Nat → Nat → Value} {th2 : Nat → Bool} {vr2 : Nat → Int} {E : List EW} (ok : WaysOk a b th vr_ W th2 vr2 E) : ∀ e, e ∈ E → e.ids.length ≤ 1000 := fun e he => by
  have := ((ok e he).2 0 (by decide) (by decide)).ids_len
  omega
/-- Ways that a node is not on stay, whatever becomes of it. -/
theorem ways_off_set {a b : Shp} {th : Nat → Bool} {vr_ : Nat → Int} {W W' : Nat → Nat → Value} {th2 : Nat → Bool} {vr2 : Nat → Int} {E : List EW} (i : Nat) (ok : WaysOk a b th vr_ W th2 vr2 E) (hW : ∀ q, q ≠ i → ∀ j y0 y1 y2 y3 y4, KAt (W q) j y0 y1 y2 y3 y4 → KAt (W' q) j y0 y1 y2 y3 y4) : WaysOk a b th vr_ W' th2 vr2 (offE [(i : Int)] E) := by
  intro e he
  obtain ⟨h1, h2⟩ := mem_off he
  refine ⟨(ok e h1).1, fun x x0 x1 => ((ok e h1).2 x x0 x1).keep rfl (fun q hq _ ht => ⟨ht, hW q (fun e' => ?_)⟩)⟩
  subst e'
  have : e.on [(q : Int)] = true := by
    show e.ids.any _ = true
    rw [List.any_eq_true]
    exact ⟨_, hq, by simp⟩
  rw [h2] at this
  cases this
/-- A memory whose ways may be stale. -/
structure MemX (w0 w : World) (mb S : Nat) (a b : Shp) (N cb : Nat) (size : Int) (th : Nat → Bool) (vr_ : Nat → Int) (W : Nat → Nat → Value) (th2 : Nat → Bool) (vr2 : Nat → Int) (W2 : Nat → Nat → Int) (hits : Int) (v : Value) (E : List EW) : Prop where
  sv : SV w0 w S a b th vr_ W th2 vr2 W2
  lo : StLo S a b N
  n0 : w0.heap.size ≤ N
  nN : N ≤ w.heap.size
  m0 : w.cell? ⟨mb, 0, none⟩ = some (.pointer (some ⟨S, 0, none⟩))
  m1 : w.cell? ⟨mb, 1, none⟩ = some (.pointer (some ⟨cb, 0, none⟩))
  ml : mb < w.heap.size
  mn : N ≤ mb
  mo : OutC cb v mb
  ca : CacheAt w N cb size hits v E
section
variable {w w' : World}
theorem MemX.below {w0 : World} {mb S : Nat} {a b : Shp} {N cb : Nat} {size : Int} {th : Nat → Bool} {vr_ : Nat → Int} {W : Nat → Nat → Value} {th2 : Nat → Bool} {vr2 : Nat → Int} {W2 : Nat → Nat → Int} {hits : Int} {v : Value} {E : List EW} (h : (MemX w0 w mb S a b N cb size th vr_ W th2 vr2 W2 hits v E)) (hb : Below w.heap.size w w') : (MemX w0 w' mb S a b N cb size th vr_ W th2 vr2 W2 hits v E) :=
  ⟨h.sv.step hb, h.lo, h.n0, Nat.le_trans h.nN hb.size, (hb.cell (p := ⟨mb, 0, none⟩) h.ml).trans h.m0, (hb.cell (p := ⟨mb, 1, none⟩) h.ml).trans h.m1, Nat.lt_of_lt_of_le h.ml hb.size, h.mn, h.mo, h.ca.below hb⟩
theorem MemX.found {w0 : World} {mb S : Nat} {a b : Shp} {N cb : Nat} {size : Int} {th : Nat → Bool} {vr_ : Nat → Int} {W : Nat → Nat → Value} {th2 : Nat → Bool} {vr2 : Nat → Int} {W2 : Nat → Nat → Int} {hits : Int} {v : Value} {E : List EW} (h : (MemX w0 w mb S a b N cb size th vr_ W th2 vr2 W2 hits v E)) {hits' : Int} {v' : Value} {E' : List EW} (hb : Below N w w') (hc : CacheAt w' N cb size hits' v' E') (ok : WaysOk a b th vr_ W th2 vr2 E') (hk : KeepB w w' cb v) (hv : v'.ownBlock = v.ownBlock) : MemAt w0 w' mb S a b N cb size th vr_ W th2 vr2 W2 hits' v' E' := by
  have e := hk.2 mb h.ml h.mo.1 h.mo.2
  exact ⟨⟨h.sv.bel.trans (hb.mono h.n0), h.sv.wb, h.sv.st.under h.lo hk.1 (fun k hkN => hb.block k hkN)⟩, h.lo, h.n0, Nat.le_trans h.nN hk.1, (World.cell?_of_block (a := ⟨mb, 0, none⟩) e).trans h.m0, (World.cell?_of_block (a := ⟨mb, 1, none⟩) e).trans h.m1, Nat.lt_of_lt_of_le h.ml hk.1, h.mn, ⟨h.mo.1, by rw [hv]; exact h.mo.2⟩, hc, ok⟩
theorem MemAt.nodeX {w0 : World} {mb S : Nat} {a b : Shp} {N cb : Nat} {size : Int} {th : Nat → Bool} {vr_ : Nat → Int} {W : Nat → Nat → Value} {th2 : Nat → Bool} {vr2 : Nat → Int} {W2 : Nat → Nat → Int} {hits : Int} {v : Value} {E : List EW} (h : (MemAt w0 w mb S a b N cb size th vr_ W th2 vr2 W2 hits v E)) {th' : Nat → Bool} {vr' : Nat → Int} {W' : Nat → Nat → Value} (hN : NdAt w' a.b a.P a.p a.B a.G a.n a.c th' vr' W') (hb : PBelow w w' a.B a.G) : MemX w0 w' mb S a b N cb size th' vr' W' th2 vr2 W2 hits v E := by
  have hl := h.lo.n
  have e := hb.2.2.2.2 mb h.ml (by have := h.mn; omega) (by have := h.mn; omega)
  exact ⟨h.sv.node hN hb, h.lo, h.n0, Nat.le_trans h.nN hb.2.2.2.1, (World.cell?_of_block (a := ⟨mb, 0, none⟩) e).trans h.m0, (World.cell?_of_block (a := ⟨mb, 1, none⟩) e).trans h.m1, Nat.lt_of_lt_of_le h.ml hb.2.2.2.1, h.mn, h.mo, h.ca.same hb.2.2.2.1 (fun k hk hks => hb.2.2.2.2 k hks (by omega) (by omega))⟩
end
theorem KeepM.of_pbelow {w w' : World} {N cb B G : Nat} {v : Value} (hb : PBelow w w' B G) (h1 : B < N) (h2 : G < N) : KeepM w w' N cb v := ⟨hb.2.2.2.1, fun k hkN hk _ _ => hb.2.2.2.2 k hk (by omega) (by omega)⟩
theorem KeepM.of_below {w w' : World} {N cb : Nat} {v : Value} (hb : Below w.heap.size w w') : KeepM w w' N cb v := ⟨hb.size, fun k _ hk _ _ => hb.block k hk⟩
theorem KeepM.of_keepB {w w' : World} {N cb : Nat} {v : Value} (h : KeepB w w' cb v) : KeepM w w' N cb v := ⟨h.1, fun k _ hk h1 h2 => h.2 k hk h1 h2⟩
theorem KeepM.trans {w w1 w2 : World} {N cb : Nat} {v v1 : Value} (h : KeepM w w1 N cb v) (h2 : KeepM w1 w2 N cb v1) (e : v1.ownBlock = v.ownBlock) : KeepM w w2 N cb v :=
  ⟨Nat.le_trans h.1 h2.1, fun k hkN hk hkc hkv => (h2.2 k hkN (Nat.lt_of_lt_of_le hk h.1) hkc (by rw [e]; exact hkv)).trans (h.2 k hkN hk hkc hkv)⟩
theorem rn1 (w : World) (x : Int) : RN (w.alloc (.cells #[.int .i64 x] 3 (0, 0))) w.heap.size 1 [x] := fun i hi => by
  obtain rfl : i = 0 := by omega
  simp
set_option maxRecDepth 100000 in
set_option maxHeartbeats 4000000 in
theorem mset_ok {w0 : World} {mb S : Nat} {a b : Shp} {N cb : Nat} {size : Int} {th : Nat → Bool} {vr_ : Nat → Int} {W : Nat → Nat → Value} {th2 : Nat → Bool} {vr2 : Nat → Int} {W2 : Nat → Nat → Int} {hits : Int} {v : Value} {E : List EW} (vs vr : Value) (id sl : Int) (i s : Nat) (hid : Hid (id = i)) (hsl : Hid (sl = s)) (hi : i < a.n) (hs : s < 16) (ht : Hid (th i = true)) (y0 y1 y2 y3 y4 : Int) (hy : Hid (rightB y0 y1 y2 y3 y4 = true)) (hcell : Hid (∀ j, j < 80 → (W i j).oneCell' = true)) (hm : Hid (E.length ≤ 64)) (w : World) (hE : ErrsAt vs vr w) (h : (MemAt w0 w mb S a b N cb size th vr_ W th2 vr2 W2 hits v E)) :
    Calls Tryd.prog 33 #[.pointer (some ⟨mb, 0, none⟩), .int .i64 id, .int .i64 sl, (Value.agg #[.int .i64 y0, .int .i64 y1, .int .i64 y2, .int .i64 y3, .int .u32 y4])] w fun e w' => e = .returned .nilIface ∧ ∃ v', MemAt w0 w' mb S a b N cb size th vr_ (updV W i (s * 5) (k5 y0 y1 y2 y3 y4)) th2 vr2 W2 hits v' (offE [(i : Int)] E) ∧ KeepM w w' N cb v ∧ v'.ownBlock = v.ownBlock := by
  have H := Lib.hid h
  have HE := Lib.hid hE
  have HOw : Hid (∀ g, v.ownBlock = some g → g < w.heap.size) := Lib.hid (fun g e => (h.ca.row.lt g e).2)
  clear h hE
  go_enter Tryd.func33, Tryd.ntmps33
  go_upto_region 1 with fail
  obtain ⟨wB, hwB⟩ : ∃ wB, wB = (w.alloc (.cells #[.int .i64 y0, .int .i64 y1, .int .i64 y2, .int .i64 y3, .int .u32 y4] 29 (0, 0))) := ⟨_, rfl⟩
  rw [← hwB]
  have HB1 : Hid (Below w.heap.size w wB.drew) := Lib.hid (by rw [hwB]; exact ((Below.refl _ _).alloc (Nat.le_refl _) _ : Below w.heap.size w _).drew)
  have HK1 : Hid (KeyC wB.drew w.heap.size y0 y1 y2 y3 y4) := Lib.hid (by rw [hwB]; exact (KeyC.new w y0 y1 y2 y3 y4 29).below (Below.refl _ _).drew)
  have H1 := Lib.hid (H.out.below HB1.out)
  obtain ⟨kb, hkb⟩ : ∃ kb, Hid (w.heap.size = kb) := ⟨_, Lib.hid rfl⟩
  rw [hkb.out] at HK1 ⊢
  have HKN : Hid (N ≤ kb) := Lib.hid (by rw [← hkb.out]; exact H.out.nN)
  clear hwB
  have HS7 : Hid (∀ w', World.cell? w' ⟨mb, 0, none⟩ = some (.pointer (some ⟨S, 0, none⟩)) → World.cell? w' ⟨S, 0, none⟩ = some (.pointer (some ⟨a.P, 0, none⟩)) → KeyC w' kb y0 y1 y2 y3 y4 → (World.cell? w' ⟨mb, 0, none⟩ = some (.pointer (some ⟨S, 0, none⟩)) ∧ World.cell? w' ⟨S, 0, none⟩ = some (.pointer (some ⟨a.P, 0, none⟩)) ∧ World.cell? w' ⟨kb, 0, none⟩ = some (.int .i64 y0) ∧ World.cell? w' ⟨kb, 1, none⟩ = some (.int .i64 y1) ∧ World.cell? w' ⟨kb, 2, none⟩ = some (.int .i64 y2) ∧ World.cell? w' ⟨kb, 3, none⟩ = some (.int .i64 y3) ∧ World.cell? w' ⟨kb, 4, none⟩ = some (.int .u32 y4))) := Lib.hid (fun w' h0 h1 hk => ⟨h0, h1, hk.c0, hk.c1, hk.c2, hk.c3, hk.c4⟩)
  refine wp_region_noPanic ?_
  refine wp_region_held_drew (S := fun w' => (World.cell? w' ⟨mb, 0, none⟩ = some (.pointer (some ⟨S, 0, none⟩)) ∧ World.cell? w' ⟨S, 0, none⟩ = some (.pointer (some ⟨a.P, 0, none⟩)) ∧ World.cell? w' ⟨kb, 0, none⟩ = some (.int .i64 y0) ∧ World.cell? w' ⟨kb, 1, none⟩ = some (.int .i64 y1) ∧ World.cell? w' ⟨kb, 2, none⟩ = some (.int .i64 y2) ∧ World.cell? w' ⟨kb, 3, none⟩ = some (.int .i64 y3) ∧ World.cell? w' ⟨kb, 4, none⟩ = some (.int .u32 y4))) (by kernel_rfl) (HS7.out _ H1.out.m0 H1.out.sv.st.s0 HK1.out) (fun hHeld => ?_)
  refine wpAnyH_take (i := 0) (v := ?_) (by rfl) (by kernel_rfl) (by kernel_rfl) (by kernel_rfl) (fun _ _ _ h => h) (Or.inl ⟨by kernel_rfl, ?_⟩) (by assumption) ?_; rotate_left 1; (focus (intro w hSw; (try dsimp only at hSw); simp only [List.getElem_toArray, List.getElem_cons_succ, List.getElem_cons_zero]; all_goals go_simp; all_goals (try with_reducible rfl))); (try simp only [Act.put, List.getElem_toArray, List.getElem_cons_succ, List.getElem_cons_zero, List.setIfInBounds_toArray, List.set_cons_zero, List.set_cons_succ])
  refine wpAnyH_take (i := 1) (v := ?_) (by rfl) (by kernel_rfl) (by kernel_rfl) (by kernel_rfl) (fun _ _ _ h => h) (Or.inl ⟨by kernel_rfl, ?_⟩) (by assumption) ?_; rotate_left 1; (focus (intro w hSw; (try dsimp only at hSw); simp only [List.getElem_toArray, List.getElem_cons_succ, List.getElem_cons_zero]; all_goals go_simp; all_goals (try with_reducible rfl))); (try simp only [Act.put, List.getElem_toArray, List.getElem_cons_succ, List.getElem_cons_zero, List.setIfInBounds_toArray, List.set_cons_zero, List.set_cons_succ])
  refine wpAnyH_take (i := 2) (v := ?_) (by rfl) (by kernel_rfl) (by kernel_rfl) (by kernel_rfl) (fun _ _ _ h => h) (Or.inl ⟨by kernel_rfl, ?_⟩) (by assumption) ?_; rotate_left 1; (focus (intro w hSw; (try dsimp only at hSw); simp only [List.getElem_toArray, List.getElem_cons_succ, List.getElem_cons_zero]; all_goals go_simp; all_goals (try with_reducible rfl))); (try simp only [Act.put, List.getElem_toArray, List.getElem_cons_succ, List.getElem_cons_zero, List.setIfInBounds_toArray, List.set_cons_zero, List.set_cons_succ])
  refine wpAnyH_take (i := 3) (v := ?_) (by rfl) (by kernel_rfl) (by kernel_rfl) (by kernel_rfl) (fun _ _ _ h => h) (Or.inl ⟨by kernel_rfl, ?_⟩) (by assumption) ?_; rotate_left 1; (focus (intro w hSw; (try dsimp only at hSw); simp only [List.getElem_toArray, List.getElem_cons_succ, List.getElem_cons_zero]; all_goals go_simp; all_goals (try with_reducible rfl))); (try simp only [Act.put, List.getElem_toArray, List.getElem_cons_succ, List.getElem_cons_zero, List.setIfInBounds_toArray, List.set_cons_zero, List.set_cons_succ])
  refine wpAnyH_take (i := 4) (v := ?_) (by rfl) (by kernel_rfl) (by kernel_rfl) (by kernel_rfl) (fun _ _ _ h => h) (Or.inl ⟨by kernel_rfl, ?_⟩) (by assumption) ?_; rotate_left 1; (focus (intro w hSw; (try dsimp only at hSw); simp only [List.getElem_toArray, List.getElem_cons_succ, List.getElem_cons_zero]; all_goals go_simp; all_goals (try with_reducible rfl))); (try simp only [Act.put, List.getElem_toArray, List.getElem_cons_succ, List.getElem_cons_zero, List.setIfInBounds_toArray, List.set_cons_zero, List.set_cons_succ])
  refine wpAnyH_take (i := 5) (v := ?_) (by rfl) (by kernel_rfl) (by kernel_rfl) (by kernel_rfl) (fun _ _ _ h => h) (Or.inl ⟨by kernel_rfl, ?_⟩) (by assumption) ?_; rotate_left 1; (focus (intro w hSw; (try dsimp only at hSw); simp only [List.getElem_toArray, List.getElem_cons_succ, List.getElem_cons_zero]; all_goals go_simp; all_goals (try with_reducible rfl))); (try simp only [Act.put, List.getElem_toArray, List.getElem_cons_succ, List.getElem_cons_zero, List.setIfInBounds_toArray, List.set_cons_zero, List.set_cons_succ])
  refine wpAnyH_take (i := 6) (v := ?_) (by rfl) (by kernel_rfl) (by kernel_rfl) (by kernel_rfl) (fun _ _ _ h => h) (Or.inl ⟨by kernel_rfl, ?_⟩) (by assumption) ?_; rotate_left 1; (focus (intro w hSw; (try dsimp only at hSw); simp only [List.getElem_toArray, List.getElem_cons_succ, List.getElem_cons_zero]; all_goals go_simp; all_goals (try with_reducible rfl))); (try simp only [Act.put, List.getElem_toArray, List.getElem_cons_succ, List.getElem_cons_zero, List.setIfInBounds_toArray, List.set_cons_zero, List.set_cons_succ])
  refine wpAnyH_take (i := 7) (v := ?_) (by rfl) (by kernel_rfl) (by kernel_rfl) (by kernel_rfl) (fun _ _ _ h => h) (Or.inl ⟨by kernel_rfl, ?_⟩) (by assumption) ?_; rotate_left 1; (focus (intro w hSw; (try dsimp only at hSw); simp only [List.getElem_toArray, List.getElem_cons_succ, List.getElem_cons_zero]; all_goals go_simp; all_goals (try with_reducible rfl))); (try simp only [Act.put, List.getElem_toArray, List.getElem_cons_succ, List.getElem_cons_zero, List.setIfInBounds_toArray, List.set_cons_zero, List.set_cons_succ])
  refine wpAnyH_take (i := 8) (v := ?_) (by rfl) (by kernel_rfl) (by kernel_rfl) (by kernel_rfl) (fun _ _ _ h => h) (Or.inl ⟨by kernel_rfl, ?_⟩) (by assumption) ?_; rotate_left 1; (focus (intro w hSw; (try dsimp only at hSw); simp only [List.getElem_toArray, List.getElem_cons_succ, List.getElem_cons_zero]; all_goals go_simp; all_goals (try with_reducible rfl))); (try simp only [Act.put, List.getElem_toArray, List.getElem_cons_succ, List.getElem_cons_zero, List.setIfInBounds_toArray, List.set_cons_zero, List.set_cons_succ])
  refine wpAnyH_take (i := 9) (v := ?_) (by rfl) (by kernel_rfl) (by kernel_rfl) (by kernel_rfl) (fun _ _ _ h => h) (Or.inl ⟨by kernel_rfl, ?_⟩) (by assumption) ?_; rotate_left 1; (focus (intro w hSw; (try dsimp only at hSw); simp only [List.getElem_toArray, List.getElem_cons_succ, List.getElem_cons_zero]; all_goals go_simp; all_goals (try with_reducible rfl))); (try simp only [Act.put, List.getElem_toArray, List.getElem_cons_succ, List.getElem_cons_zero, List.setIfInBounds_toArray, List.set_cons_zero, List.set_cons_succ])
  refine wpAnyH_ready (rs := [10]) (by kernel_rfl) (by simp) ?_; refine AllReadyH.cons (by rfl) (fun K hK => ?_) AllReadyH.nil; rw [if_pos (by kernel_rfl)]; simp only [List.getElem_toArray, List.getElem_cons_succ, List.getElem_cons_zero]
  go_wp2_with (first
    | (go_at_call 19; (with_reducible refine (nset_at vs vr id sl i s hid hsl hi hs ht y0 y1 y2 y3 y4 hy _ (HE.out.below HB1.out) H1.out.sv.st.nd hcell).mono ?_); rintro e w2 ⟨rfl, hM, hb⟩; have H2 := Lib.hid (H1.out.nodeX hM hb); have HK2 := Lib.hid (HK1.out.pbelow hb (by have := H1.out.lo.n; have := HKN.out; omega) (by have := H1.out.lo.n; have := HKN.out; omega)); have HM2 : Hid (KeepM w w2 N cb v) := Lib.hid ((KeepM.of_below HB1.out).trans (KeepM.of_pbelow hb (by have := H1.out.lo.n; omega) (by have := H1.out.lo.n; omega)) rfl); clear hM hb))
  refine hK.out _ _ (HS7.out _ H2.out.m0 H2.out.sv.st.s0 HK2.out) (fun hHeld => ?_)
  clear hK K
  (try simp only [Act.put, List.getElem_toArray, List.getElem_cons_succ, List.getElem_cons_zero, List.setIfInBounds_toArray, List.set_cons_zero, List.set_cons_succ])
  refine wpAnyH_take (i := 11) (v := ?_) (by rfl) (by kernel_rfl) (by kernel_rfl) (by kernel_rfl) (fun _ _ _ h => h) (Or.inl ⟨by kernel_rfl, ?_⟩) (by assumption) ?_; rotate_left 1; (focus (intro w hSw; (try dsimp only at hSw); simp only [List.getElem_toArray, List.getElem_cons_succ, List.getElem_cons_zero]; all_goals go_simp; all_goals (try with_reducible rfl))); (try simp only [Act.put, List.getElem_toArray, List.getElem_cons_succ, List.getElem_cons_zero, List.setIfInBounds_toArray, List.set_cons_zero, List.set_cons_succ])
  refine wpAnyH_done (by kernel_rfl) ?_ _
  refine NoPanic.normal ?_
  have m1 := H2.out.m1
  have HXa := Lib.hid (fun o => H2.out.below ((Below.refl _ _).alloc (Nat.le_refl _) _ : Below w2.heap.size w2 (w2.alloc o)))
  have HGn : Hid (v.ownBlock ≠ some w2.heap.size) := Lib.hid (fun e => by have := HOw.out _ e; have := HM2.out.1; omega)
  have HIds := Lib.hid (ways_ids H.out.ok)
  have HCF := Lib.hid (fun c' => cforget_is w2.heap.size c' [id] 1 (Lib.hid rfl) (by decide) hm.out HIds _ (HXa.out (.cells #[.int .i64 id] 3 (0, 0))).ca (HXa.out _).nN (by simp) HGn.out (Lib.hid (rn1 w2 id)))
  go_wp2_with (first
    | (go_at_call 20; (with_reducible refine (HCF.out _).mono ?_); rintro e w3 ⟨rfl, v3, hc, hb, hk, hv⟩; rw [hid.out] at hc; have H3 := Lib.hid ((HXa.out _).found hb hc (ways_off_set i H.out.ok (fun q hq j x0 x1 x2 x3 x4 hx => updV_rest W i s q j y0 y1 y2 y3 y4 (fun e' => hq e'.1) hx)) hk hv); have HM3 := Lib.hid (HM2.out.trans ((KeepM.of_below ((Below.refl _ _).alloc (Nat.le_refl _) _ : Below w2.heap.size w2 (w2.alloc (.cells #[.int .i64 id] 3 (0, 0))))).trans (KeepM.of_keepB hk) rfl) rfl); have HV := Lib.hid hv; clear HCF hc hb hk hv m1))
  go_ret
  exact ⟨rfl, v3, H3.out, HM3.out, HV.out⟩
end Go.Proofs.YtedidopkemjgeaaDoor
