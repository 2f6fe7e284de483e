/-
  Ds3, Ds4, BkP, BkQ, BkS, BkT, BkU, BkV, BkX as one.
-/
import Derived.Test.YtkogmhgpkacehaaDoorP11
import Derived.ArgAppend
namespace Go.Proofs.YtkogmhgpkacehaaDoor
open Go.ChangeShapes Go.WideShapes Go.ChangeAt Go.RowKit
set_option linter.unusedVariables false
set_option linter.unusedSimpArgs false
/-- A domain's cells in a row. -/
def rowL (f : Nat → Value) : List Value := (List.range 107).map f
theorem rowL_len (f : Nat → Value) : (rowL f).length = 107 := by simp [rowL]
theorem rowL_size (f : Nat → Value) : (rowL f).toArray.size = 107 := by simp [rowL]
theorem rowL_at (f : Nat → Value) (j : Nat) (hj : j < 107) : (rowL f)[j]? = some (f j) := by simp [rowL, hj]
theorem rowL_src (f : Nat → Value) (j : Nat) (v : Value) (h : (rowL f)[j]? = some v) : j < 107 ∧ v = f j := by
  have hl : j < 107 := by
    have := (List.getElem?_eq_some_iff.1 h).1
    rwa [rowL_len] at this
  rw [rowL_at f j hl] at h
  exact ⟨hl, (Option.some.inj h).symm⟩
theorem rowL_one (f : Nat → Value) (h : ∀ j, j < 107 → (f j).oneCell' = true) : (rowL f).toArray.all (·.oneCell') = true := all_oneCell_toArray (fun v hv => by
  obtain ⟨j, hj, rfl⟩ := List.mem_map.1 hv
  exact h j (by simpa using hj))
theorem dthere_new (w : World) (z : Array Value) (n : Nat) (hz : z.size = n) (T : TypeId) : World.there (w.alloc (.cells z T (0, 0))) w.heap.size 0 n := fun j hj => by
  simp [hz, hj]
theorem dbelow_cells {N b : Nat} {W0 w : World} (h : Below N W0 w) (hb : N ≤ b) : ∀ (cs : List Value) (o : Nat), Below N W0 (w.setCells b o cs) := by
  intro cs
  induction cs generalizing w with
  | nil => intro o; exact h
  | cons u r ih => intro o; exact ih (h.setCell hb u) (o + 1)
theorem dload {W : World} {b : Nat} {f : Nat → Value} (hr : W.rangeAt b 0 (rowL f)) : (loadVar 114 ⟨b, 0, none⟩).run Tryd.prog W = .ok (.agg (rowL f).toArray) W :=
  run_loadVar_mid (P := Tryd.prog) W b 0 114 (rowL f) _ hr Tryd.underlying114 rfl (by rw [rowL_len]; exact infoDomS)
set_option maxRecDepth 100000 in
set_option maxHeartbeats 1000000 in
theorem dget_ok {base P p B G Q n c : Nat} {th : Nat → Bool} {vr_ : Nat → Int} {W : Nat → Nat → Value} (x : Int) (k : Nat) (hx : Hid (x = (k : Int))) (hk : k < n) (ht : Hid (th k = true)) (f : Nat → Value) (hf : Hid (∀ j, j < 107 → W k j = f j)) (ho : Hid (∀ j, j < 107 → (f j).oneCell' = true)) (w : World) (h : DsAt w base P p B G Q n c th vr_ W) :
    Calls Tryd.prog 65 #[.pointer (some ⟨P, 0, none⟩), .int .i64 x] w fun e w' => e = .returned (.tuple #[.agg (rowL f).toArray, .bool true]) ∧ Below w.heap.size w w' := by
  rw [hx.out]
  have H := Lib.hid h
  have k0 : (0 : Int) ≤ k := by omega
  have k1 : (k : Int) < n := by omega
  clear h hx
  go_enter Tryd.func65, Tryd.ntmps65
  go_upto_region 1 with fail
  generalize hA : World.alloc w _ = wA
  have HA : Hid (Below w.heap.size w wA ∧ World.there wA w.heap.size 0 107) := Lib.hid (by rw [← hA]; exact ⟨(Below.refl _ _).alloc (Nat.le_refl _) _, dthere_new _ _ _ (by rfl) _⟩)
  clear hA
  have H1 := Lib.hid (H.out.below HA.out.1)
  have f0 := H1.out.pl.f0
  have f1 := H1.out.pl.f1
  have HRg : Hid (wA.rangeAt G (k * 107) (rowL f)) := Lib.hid (fun j v hv => by
    obtain ⟨hj, rfl⟩ := rowL_src f j v hv
    rw [H1.out.pl.cell k j hk hj, hf.out j hj])
  go_upto_region 3 with (first
    | (go_at_call 25; (with_reducible refine (athere_in k hk true ht _ H1.out.pl.ar).mono ?_); rintro e w1 ⟨rfl, rfl⟩))
  go_wp2_with (first
    | (refine wpList_load_mid (by rfl) _ _ (by rfl) G (k * 107) (by rfl) (rowL f) _ HRg.out Tryd.underlying114 rfl (by rw [rowL_len]; exact infoDomS) ?_)
    | (refine wpList_store_mid (by rfl) _ _ _ (by rfl) w.heap.size 0 (rowL f).toArray (by rfl) (by rfl) HA.out.2 (by rw [rowL_size]; exact infoDomS) (rowL_one f ho.out) ?_))
  have hr : (wA.setCells w.heap.size 0 (rowL f).toArray.toList).rangeAt w.heap.size 0 (rowL f) := World.rangeAt_setCells_same wA w.heap.size 0 (rowL f) (by rw [rowL_len]; exact HA.out.2)
  have hld := dload hr
  refine bodyPost_ret (v := .tuple #[.agg (rowL f).toArray, .bool true]) (by simp [results, Tryd.results65, asAddr, hld]) rfl ⟨rfl, dbelow_cells HA.out.1 (Nat.le_refl _) _ _⟩
section
variable {P : Program}
theorem op_append_run {o : Oper} {a : Act} {K : Act → World → Prop} {Q : Exit → Act → World → Prop} (w : World) (s x : Operand) (t : TypeId) (ho : o.op = .call { callee := .builtin .append, args := #[s, x], argTypes := #[t, t] }) (v1 v2 : Value) (hs : a.eval s = v1) (hx : a.eval x = v2) (v' : Value) (w' : World) (hr : (Builtin.append_ #[t, t] o.type #[v1, v2]).run P w = .ok v' w') (h : K (a.put o.dst v') w') : Oper.wp P o a w K Q := by
  unfold Oper.wp execOp
  simp only [ho, resolve, invoke, builtin, Sem.run_bind, Sem.run_pure, Result.andThen_ok, List.map_toArray, List.map_cons, List.map_nil, hs, hx, hr]
  exact h
end
theorem infoKeyS : (Tryd.prog.info? 32).map (fun i => (i.zero, i.size, i.bytes)) = some (some (.agg #[.int .i64 0, .int .i64 0, .int .i64 0, .int .i64 0, .int .u32 0]), 5, 40) := by kernel_rfl
theorem kcs19 (kk : Nat → Nat → Int) : kcs kk 19 = kcs kk 16 ++ ([.int .i64 (kk 16 0), .int .i64 (kk 16 1), .int .i64 (kk 16 2), .int .i64 (kk 16 3), .int .u32 (kk 16 4), .int .i64 (kk 17 0), .int .i64 (kk 17 1), .int .i64 (kk 17 2), .int .i64 (kk 17 3), .int .u32 (kk 17 4), .int .i64 (kk 18 0), .int .i64 (kk 18 1), .int .i64 (kk 18 2), .int .i64 (kk 18 3), .int .u32 (kk 18 4)] : List Value) := by
  apply List.ext_getElem?
  intro j
  by_cases h : j < 80
  · rw [List.getElem?_append_left (by rw [kcs_len]; exact h)]
    simp [kcs, h, show j < 95 by omega]
  · rw [List.getElem?_append_right (by rw [kcs_len]; omega), kcs_len]
    by_cases h2 : j < 95
    · obtain ⟨i, rfl⟩ : ∃ i, j = 80 + i := ⟨j - 80, by omega⟩
      have hi : i < 15 := by omega
      have e1 : (80 + i) / 5 = 16 + i / 5 := by omega
      have e2 : (80 + i) % 5 = i % 5 := by omega
      simp only [kcs, List.getElem?_map, List.getElem?_range (show 80 + i < 19 * 5 by omega), Option.map_some, e1, e2]
      rw [show 80 + i - 16 * 5 = i by omega]
      rcases (show i = 0 ∨ i = 1 ∨ i = 2 ∨ i = 3 ∨ i = 4 ∨ i = 5 ∨ i = 6 ∨ i = 7 ∨ i = 8 ∨ i = 9 ∨ i = 10 ∨ i = 11 ∨ i = 12 ∨ i = 13 ∨ i = 14 by omega) with rfl | rfl | rfl | rfl | rfl | rfl | rfl | rfl | rfl | rfl | rfl | rfl | rfl | rfl | rfl <;> rfl
    · rw [List.getElem?_eq_none (by rw [kcs_len]; omega), List.getElem?_eq_none (by simp; omega)]
/-- Keys among a domain's cells. -/
def KeysIn (f : Nat → Value) (kk : Nat → Nat → Int) : Prop := ∀ q r, q < 19 → r < 5 → f (11 + (q * 5 + r)) = kval r (kk q r)
set_option maxRecDepth 100000 in
set_option maxHeartbeats 4000000 in
theorem dvalid_ok (f : Nat → Value) (kk : Nat → Nat → Int) (hKy : Hid (KeysIn f kk)) (hR : Hid (∀ q, q < 19 → KRight kk q)) (s ft wt : Int) (hs : Hid (f 9 = .int .i64 s ∧ f 10 = .int .i64 ft ∧ f 106 = .int .i64 wt)) (s1 : 1 ≤ s) (s2 : s ≤ 4) (t1 : 0 ≤ ft) (t2 : ft ≤ 6) (u1 : 0 ≤ wt) (u2 : wt ≤ 536870911) (vs vr : Value) (w : World) (hE : ErrsAt vs vr w) :
    Calls Tryd.prog 133 #[.agg (rowL f).toArray] w fun e w' => e = .returned .nilIface ∧ Below w.heap.size w w' := by
  obtain ⟨i0, hi, hz0, hz1, hz2⟩ := info_parts infoKeyS
  have HI := Lib.hid (⟨hi, hz0, hz1, hz2⟩ : Tryd.prog.info? 32 = some i0 ∧ i0.zero = some (.agg #[.int .i64 0, .int .i64 0, .int .i64 0, .int .i64 0, .int .u32 0]) ∧ i0.size = 5 ∧ i0.bytes = 40)
  clear hi hz0 hz1 hz2
  have HE := Lib.hid hE
  clear hE
  go_enter Tryd.func133, Tryd.ntmps133
  go_upto_region 1 with fail
  generalize hA : World.alloc w _ = wA
  obtain ⟨xb, hxb⟩ : ∃ xb, xb = w.heap.size := ⟨_, rfl⟩
  have HA : Hid (Below w.heap.size w wA ∧ (∀ j, j < 107 → wA.cell? ⟨xb, j, none⟩ = some (f j)) ∧ xb < wA.heap.size) := Lib.hid (by
    rw [← hA, hxb]
    refine ⟨(Below.refl _ _).alloc (Nat.le_refl _) _, fun j hj => ?_, by simp⟩
    have e := rowL_at f j hj
    simp [e])
  rw [← hxb]
  clear hA hxb
  have c9 := HA.out.2.1 9 (by decide)
  have c10 := HA.out.2.1 10 (by decide)
  have c106 := HA.out.2.1 106 (by decide)
  rw [hs.out.1] at c9
  rw [hs.out.2.1] at c10
  rw [hs.out.2.2] at c106
  have d1 : decide (s < 1) = false := decide_eq_false (by omega)
  have d2 : decide (4 < s) = false := decide_eq_false (by omega)
  have d3 : decide (ft < 0) = false := decide_eq_false (by omega)
  have d4 : decide (6 < ft) = false := decide_eq_false (by omega)
  have d5 : decide (wt < 0) = false := decide_eq_false (by omega)
  have d6 : decide (536870911 < wt) = false := decide_eq_false (by omega)
  have HKc : Hid (∀ W, Below wA.heap.size wA W → ∀ q r, q < 19 → r < 5 → W.cell? ⟨xb, 11 + (q * 5 + r), none⟩ = some (kval r (kk q r))) := Lib.hid (fun W hb q r hq hr => by
    rw [hb.cell (p := ⟨xb, 11 + (q * 5 + r), none⟩) HA.out.2.2, HA.out.2.1 _ (by omega), hKy.out q r hq hr])
  have HS15 : Hid (∀ W, Below wA.heap.size wA W → (World.cell? W ⟨xb, 91, none⟩ = some (.int .i64 (kk 16 0)) ∧ World.cell? W ⟨xb, 92, none⟩ = some (.int .i64 (kk 16 1)) ∧ World.cell? W ⟨xb, 93, none⟩ = some (.int .i64 (kk 16 2)) ∧ World.cell? W ⟨xb, 94, none⟩ = some (.int .i64 (kk 16 3)) ∧ World.cell? W ⟨xb, 95, none⟩ = some (.int .u32 (kk 16 4)) ∧ World.cell? W ⟨xb, 96, none⟩ = some (.int .i64 (kk 17 0)) ∧ World.cell? W ⟨xb, 97, none⟩ = some (.int .i64 (kk 17 1)) ∧ World.cell? W ⟨xb, 98, none⟩ = some (.int .i64 (kk 17 2)) ∧ World.cell? W ⟨xb, 99, none⟩ = some (.int .i64 (kk 17 3)) ∧ World.cell? W ⟨xb, 100, none⟩ = some (.int .u32 (kk 17 4)) ∧ World.cell? W ⟨xb, 101, none⟩ = some (.int .i64 (kk 18 0)) ∧ World.cell? W ⟨xb, 102, none⟩ = some (.int .i64 (kk 18 1)) ∧ World.cell? W ⟨xb, 103, none⟩ = some (.int .i64 (kk 18 2)) ∧ World.cell? W ⟨xb, 104, none⟩ = some (.int .i64 (kk 18 3)) ∧ World.cell? W ⟨xb, 105, none⟩ = some (.int .u32 (kk 18 4)))) := Lib.hid (fun W hb => by
    have h := HKc.out W hb
    exact ⟨h 16 0 (by decide) (by decide), h 16 1 (by decide) (by decide), h 16 2 (by decide) (by decide), h 16 3 (by decide) (by decide), h 16 4 (by decide) (by decide), h 17 0 (by decide) (by decide), h 17 1 (by decide) (by decide), h 17 2 (by decide) (by decide), h 17 3 (by decide) (by decide), h 17 4 (by decide) (by decide), h 18 0 (by decide) (by decide), h 18 1 (by decide) (by decide), h 18 2 (by decide) (by decide), h 18 3 (by decide) (by decide), h 18 4 (by decide) (by decide)⟩)
  go_upto_region 3 with fail
  clear c9 c10 c106 d1 d2 d3 d4 d5 d6
  obtain ⟨wD, hwD⟩ : ∃ wD, wD = wA.drew := ⟨_, rfl⟩
  have HBD : Hid (Below wA.heap.size wA wD) := Lib.hid (by rw [hwD]; exact (Below.refl _ _).drew)
  refine wp_region_noPanic ?_
  refine wp_region_held_drew (S := fun w' => (World.cell? w' ⟨xb, 91, none⟩ = some (.int .i64 (kk 16 0)) ∧ World.cell? w' ⟨xb, 92, none⟩ = some (.int .i64 (kk 16 1)) ∧ World.cell? w' ⟨xb, 93, none⟩ = some (.int .i64 (kk 16 2)) ∧ World.cell? w' ⟨xb, 94, none⟩ = some (.int .i64 (kk 16 3)) ∧ World.cell? w' ⟨xb, 95, none⟩ = some (.int .u32 (kk 16 4)) ∧ World.cell? w' ⟨xb, 96, none⟩ = some (.int .i64 (kk 17 0)) ∧ World.cell? w' ⟨xb, 97, none⟩ = some (.int .i64 (kk 17 1)) ∧ World.cell? w' ⟨xb, 98, none⟩ = some (.int .i64 (kk 17 2)) ∧ World.cell? w' ⟨xb, 99, none⟩ = some (.int .i64 (kk 17 3)) ∧ World.cell? w' ⟨xb, 100, none⟩ = some (.int .u32 (kk 17 4)) ∧ World.cell? w' ⟨xb, 101, none⟩ = some (.int .i64 (kk 18 0)) ∧ World.cell? w' ⟨xb, 102, none⟩ = some (.int .i64 (kk 18 1)) ∧ World.cell? w' ⟨xb, 103, none⟩ = some (.int .i64 (kk 18 2)) ∧ World.cell? w' ⟨xb, 104, none⟩ = some (.int .i64 (kk 18 3)) ∧ World.cell? w' ⟨xb, 105, none⟩ = some (.int .u32 (kk 18 4)))) (by kernel_rfl) (by rw [← hwD]; exact HS15.out _ HBD.out) (fun hHeld => ?_)
  rw [← hwD] at hHeld ⊢
  clear hwD
  refine wpAnyH_take (i := 0) (v := ?_) (by rfl) (by kernel_rfl) (by kernel_rfl) (by kernel_rfl) (fun _ _ _ h => h) (Or.inl ⟨by kernel_rfl, ?_⟩) (by assumption) ?_; rotate_left 1; (focus (intro w hSw; (try dsimp only at hSw); simp only [List.getElem_toArray, List.getElem_cons_succ, List.getElem_cons_zero]; all_goals go_simp; all_goals (try with_reducible rfl))); (try simp only [Act.put, List.getElem_toArray, List.getElem_cons_succ, List.getElem_cons_zero, List.setIfInBounds_toArray, List.set_cons_zero, List.set_cons_succ])
  refine wpAnyH_take (i := 1) (v := ?_) (by rfl) (by kernel_rfl) (by kernel_rfl) (by kernel_rfl) (fun _ _ _ h => h) (Or.inl ⟨by kernel_rfl, ?_⟩) (by assumption) ?_; rotate_left 1; (focus (intro w hSw; (try dsimp only at hSw); simp only [List.getElem_toArray, List.getElem_cons_succ, List.getElem_cons_zero]; all_goals go_simp; all_goals (try with_reducible rfl))); (try simp only [Act.put, List.getElem_toArray, List.getElem_cons_succ, List.getElem_cons_zero, List.setIfInBounds_toArray, List.set_cons_zero, List.set_cons_succ])
  refine wpAnyH_take (i := 2) (v := ?_) (by rfl) (by kernel_rfl) (by kernel_rfl) (by kernel_rfl) (fun _ _ _ h => h) (Or.inl ⟨by kernel_rfl, ?_⟩) (by assumption) ?_; rotate_left 1; (focus (intro w hSw; (try dsimp only at hSw); simp only [List.getElem_toArray, List.getElem_cons_succ, List.getElem_cons_zero]; all_goals go_simp; all_goals (try with_reducible rfl))); (try simp only [Act.put, List.getElem_toArray, List.getElem_cons_succ, List.getElem_cons_zero, List.setIfInBounds_toArray, List.set_cons_zero, List.set_cons_succ])
  refine wpAnyH_take (i := 3) (v := ?_) (by rfl) (by kernel_rfl) (by kernel_rfl) (by kernel_rfl) (fun _ _ _ h => h) (Or.inl ⟨by kernel_rfl, ?_⟩) (by assumption) ?_; rotate_left 1; (focus (intro w hSw; (try dsimp only at hSw); simp only [List.getElem_toArray, List.getElem_cons_succ, List.getElem_cons_zero]; all_goals go_simp; all_goals (try with_reducible rfl))); (try simp only [Act.put, List.getElem_toArray, List.getElem_cons_succ, List.getElem_cons_zero, List.setIfInBounds_toArray, List.set_cons_zero, List.set_cons_succ])
  refine wpAnyH_take (i := 4) (v := ?_) (by rfl) (by kernel_rfl) (by kernel_rfl) (by kernel_rfl) (fun _ _ _ h => h) (Or.inl ⟨by kernel_rfl, ?_⟩) (by assumption) ?_; rotate_left 1; (focus (intro w hSw; (try dsimp only at hSw); simp only [List.getElem_toArray, List.getElem_cons_succ, List.getElem_cons_zero]; all_goals go_simp; all_goals (try with_reducible rfl))); (try simp only [Act.put, List.getElem_toArray, List.getElem_cons_succ, List.getElem_cons_zero, List.setIfInBounds_toArray, List.set_cons_zero, List.set_cons_succ])
  refine wpAnyH_take (i := 5) (v := ?_) (by rfl) (by kernel_rfl) (by kernel_rfl) (by kernel_rfl) (fun _ _ _ h => h) (Or.inl ⟨by kernel_rfl, ?_⟩) (by assumption) ?_; rotate_left 1; (focus (intro w hSw; (try dsimp only at hSw); simp only [List.getElem_toArray, List.getElem_cons_succ, List.getElem_cons_zero]; all_goals go_simp; all_goals (try with_reducible rfl))); (try simp only [Act.put, List.getElem_toArray, List.getElem_cons_succ, List.getElem_cons_zero, List.setIfInBounds_toArray, List.set_cons_zero, List.set_cons_succ])
  refine wpAnyH_take (i := 6) (v := ?_) (by rfl) (by kernel_rfl) (by kernel_rfl) (by kernel_rfl) (fun _ _ _ h => h) (Or.inl ⟨by kernel_rfl, ?_⟩) (by assumption) ?_; rotate_left 1; (focus (intro w hSw; (try dsimp only at hSw); simp only [List.getElem_toArray, List.getElem_cons_succ, List.getElem_cons_zero]; all_goals go_simp; all_goals (try with_reducible rfl))); (try simp only [Act.put, List.getElem_toArray, List.getElem_cons_succ, List.getElem_cons_zero, List.setIfInBounds_toArray, List.set_cons_zero, List.set_cons_succ])
  refine wpAnyH_take (i := 7) (v := ?_) (by rfl) (by kernel_rfl) (by kernel_rfl) (by kernel_rfl) (fun _ _ _ h => h) (Or.inl ⟨by kernel_rfl, ?_⟩) (by assumption) ?_; rotate_left 1; (focus (intro w hSw; (try dsimp only at hSw); simp only [List.getElem_toArray, List.getElem_cons_succ, List.getElem_cons_zero]; all_goals go_simp; all_goals (try with_reducible rfl))); (try simp only [Act.put, List.getElem_toArray, List.getElem_cons_succ, List.getElem_cons_zero, List.setIfInBounds_toArray, List.set_cons_zero, List.set_cons_succ])
  refine wpAnyH_take (i := 11) (v := ?_) (by rfl) (by kernel_rfl) (by kernel_rfl) (by kernel_rfl) (fun _ _ _ h => h) (Or.inl ⟨by kernel_rfl, ?_⟩) (by assumption) ?_; rotate_left 1; (focus (intro w hSw; (try dsimp only at hSw); simp only [List.getElem_toArray, List.getElem_cons_succ, List.getElem_cons_zero]; all_goals go_simp; all_goals (try with_reducible rfl))); (try simp only [Act.put, List.getElem_toArray, List.getElem_cons_succ, List.getElem_cons_zero, List.setIfInBounds_toArray, List.set_cons_zero, List.set_cons_succ])
  refine wpAnyH_ready (rs := [8]) (by kernel_rfl) (by simp) ?_; refine AllReadyH.cons (by rfl) (fun K hK => ?_) AllReadyH.nil; rw [if_pos (by kernel_rfl)]; simp only [List.getElem_toArray, List.getElem_cons_succ, List.getElem_cons_zero]
  go_wp2_with fail
  generalize hB : World.alloc wD _ = wB
  obtain ⟨nbk, hnb⟩ : ∃ nbk, nbk = wD.heap.size := ⟨_, rfl⟩
  have HB : Hid (Below wA.heap.size wA wB ∧ (∀ j v, ([.int .i64 (kk 16 0), .int .i64 (kk 16 1), .int .i64 (kk 16 2), .int .i64 (kk 16 3), .int .u32 (kk 16 4), .int .i64 (kk 17 0), .int .i64 (kk 17 1), .int .i64 (kk 17 2), .int .i64 (kk 17 3), .int .u32 (kk 17 4), .int .i64 (kk 18 0), .int .i64 (kk 18 1), .int .i64 (kk 18 2), .int .i64 (kk 18 3), .int .u32 (kk 18 4)] : List Value)[j]? = some v → wB.cell? ⟨nbk, j, none⟩ = some v)) := Lib.hid (by
    rw [← hB, hnb]
    refine ⟨HBD.out.alloc HBD.out.size _, fun j v hj => ?_⟩
    simp
    exact hj)
  rw [← hnb]
  clear hB hnb
  refine hK.out _ _ (HS15.out _ HB.out.1) (fun hHeld => ?_)
  clear hK K
  (try simp only [Act.put, List.getElem_toArray, List.getElem_cons_succ, List.getElem_cons_zero, List.setIfInBounds_toArray, List.set_cons_zero, List.set_cons_succ])
  refine wpAnyH_ready (rs := [9]) (by kernel_rfl) (by simp) ?_; refine AllReadyH.cons (by rfl) (fun K hK => ?_) AllReadyH.nil; rw [if_pos (by kernel_rfl)]; simp only [List.getElem_toArray, List.getElem_cons_succ, List.getElem_cons_zero]
  have hadd : ∀ j, Addr.add ⟨xb, 11, none⟩ j = ⟨xb, 11 + j, none⟩ := fun j => by
    unfold Addr.add
    split
    · rename_i h; simp [h]
    · rfl
  have hadn : ∀ j, Addr.add ⟨nbk, 0, none⟩ j = ⟨nbk, j, none⟩ := fun j => by (simp [Addr.add]; exact fun h => h.symm)
  obtain ⟨v', wC, hrun, hown, hgrow⟩ := run_append_arg_grows (P := Tryd.prog) (w := wB) 35 35 32 i0 (.agg #[.int .i64 0, .int .i64 0, .int .i64 0, .int .i64 0, .int .u32 0]) 5 40 Tryd.underlying35 HI.out.1 HI.out.2.1 HI.out.2.2.1 HI.out.2.2.2 rfl (by decide) ⟨xb, 11, none⟩ 16 16 (kcs kk 16) (by rw [kcs_len]) (fun j u hj => by
    have hl : j < 80 := by have := (List.getElem?_eq_some_iff.1 hj).1; rw [kcs_len] at this; exact this
    have e := HKc.out wB HB.out.1 (j / 5) (j % 5) (by omega) (by omega)
    rw [show j / 5 * 5 + j % 5 = j by omega] at e
    rw [hadd, e]
    simp only [kcs, List.getElem?_map, List.getElem?_range hl, Option.map_some] at hj
    exact hj) ⟨nbk, 0, none⟩ 3 3 ([.int .i64 (kk 16 0), .int .i64 (kk 16 1), .int .i64 (kk 16 2), .int .i64 (kk 16 3), .int .u32 (kk 16 4), .int .i64 (kk 17 0), .int .i64 (kk 17 1), .int .i64 (kk 17 2), .int .i64 (kk 17 3), .int .u32 (kk 17 4), .int .i64 (kk 18 0), .int .i64 (kk 18 1), .int .i64 (kk 18 2), .int .i64 (kk 18 3), .int .u32 (kk 18 4)] : List Value) (by rfl) (fun j u hj => by rw [hadn]; exact HB.out.2 j u hj) (by decide) (by decide) (by decide)
  rw [← kcs19] at hown
  have HBC : Hid (Below wA.heap.size wA wC) := Lib.hid (HB.out.1.grown hgrow HB.out.1.size (fun k hk => by cases hk))
  obtain ⟨g, c, hv⟩ : ∃ g c, v' = .slice (some ⟨g, 0, none⟩) 19 c := by
    rcases hown.2 with ⟨_, h0⟩ | ⟨g, cap, cur, hv, _⟩
    · omega
    · exact ⟨g, cap, hv⟩
  subst hv
  have HOw := Lib.hid hown
  clear hown hgrow hadd hadn
  refine op_append_run _ _ _ 35 (by rfl) (.slice (some ⟨xb, 11, none⟩) 16 16) (.slice (some ⟨nbk, 0, none⟩) 3 3) (by rfl) (by rfl) _ _ hrun ?_
  clear hrun
  refine hK.out _ _ (HS15.out _ HBC.out) (fun hHeld => ?_)
  clear hK K
  (try simp only [Act.put, List.getElem_toArray, List.getElem_cons_succ, List.getElem_cons_zero, List.setIfInBounds_toArray, List.set_cons_zero, List.set_cons_succ])
  refine wpAnyH_take (i := 10) (v := ?_) (by rfl) (by kernel_rfl) (by kernel_rfl) (by kernel_rfl) (fun _ _ _ h => h) (Or.inl ⟨by kernel_rfl, ?_⟩) (by assumption) ?_; rotate_left 1; (focus (intro w hSw; (try dsimp only at hSw); simp only [List.getElem_toArray, List.getElem_cons_succ, List.getElem_cons_zero]; all_goals go_simp; all_goals (try with_reducible rfl))); (try simp only [Act.put, List.getElem_toArray, List.getElem_cons_succ, List.getElem_cons_zero, List.setIfInBounds_toArray, List.set_cons_zero, List.set_cons_succ])
  clear hHeld
  refine wpAnyH_done (by kernel_rfl) ?_ _
  refine NoPanic.normal ?_
  go_wp2_with fail
  go_loopw [50] (fun i wr => ∃ k : Nat, k ≤ 19 ∧ i = .int .i64 k ∧ Below wC.heap.size wC wr) (fun i _ => 19 - (intOf i).toNat)
  case atStart => exact ⟨0, by omega, rfl, Below.refl _ _⟩
  case round =>
    obtain ⟨k, hk, rfl, hb⟩ := hrel
    have HBr := Lib.hid hb
    clear hb
    by_cases hlt : k < 19
    · have hC : ∀ r, r < 5 → wr.cell? ⟨g, k * 5 + r, none⟩ = some (kval r (kk k r)) := fun r hr => by
        rw [HBr.out.cell (p := ⟨g, k * 5 + r, none⟩) (HOw.out.lt g rfl).2, HOw.out.cellAt (k * 5 + r) (by omega), kcs_at kk 19 k r hlt hr]
      have hr := hR.out k hlt
      unfold KRight at hr
      have p0 := hC 0 (by decide)
      have p1 := hC 1 (by decide)
      have p2 := hC 2 (by decide)
      have p3 := hC 3 (by decide)
      have p4 := hC 4 (by decide)
      rw [Nat.add_zero] at p0
      generalize kk k 0 = y0 at p0 hr
      generalize kk k 1 = y1 at p1 hr
      generalize kk k 2 = y2 at p2 hr
      generalize kk k 3 = y3 at p3 hr
      generalize kk k 4 = y4 at p4 hr
      have q0 : wr.cell? ⟨g, k * 5, none⟩ = some (.int .i64 y0) := p0
      have q1 : wr.cell? ⟨g, k * 5 + 1, none⟩ = some (.int .i64 y1) := p1
      have q2 : wr.cell? ⟨g, k * 5 + 2, none⟩ = some (.int .i64 y2) := p2
      have q3 : wr.cell? ⟨g, k * 5 + 3, none⟩ = some (.int .i64 y3) := p3
      have q4 : wr.cell? ⟨g, k * 5 + 4, none⟩ = some (.int .u32 y4) := p4
      have HR := Lib.hid hr
      have HE1 := Lib.hid ((((HE.out.below HA.out.1).below HBC.out).below HBr.out).below ((Below.refl _ _).alloc (Nat.le_refl _) _ : Below wr.heap.size wr (wr.alloc (.cells #[.int .i64 y0, .int .i64 y1, .int .i64 y2, .int .i64 y3, .int .u32 y4] 32 (0, 0)))))
      have k0 : (0 : Int) ≤ k := by omega
      have k1 : (k : Int) < 19 := by omega
      clear hr hC p0 p1 p2 p3 p4
      go_wp2_with (first
        | (go_at_call 113; (with_reducible refine (nvalid_ok y0 y1 y2 y3 y4 HR vs vr _ HE1.out).mono ?_); rintro e w1 ⟨rfl, hb⟩; have HB2 := Lib.hid ((HBr.out.alloc HBr.out.size _).trans (hb.mono (by simp; have := HBr.out.size; omega))); clear hb q0 q1 q2 q3 q4))
      go_roundw
      case rel => exact ⟨k + 1, by omega, by go_num, HB2.out⟩
      case measure => simp [intOf]; omega
    · have hdd : decide ((k : Int) < 19) = false := decide_eq_false (by omega)
      go_wp2_with fail
      go_ret
      exact ⟨rfl, HA.out.1.trans ((HBC.out.trans (HBr.out.mono HBC.out.size)).mono HA.out.1.size)⟩
end Go.Proofs.YtkogmhgpkacehaaDoor
namespace Go.Proofs.YtkogmhgpkacehaaDoor
open Go.ChangeShapes Go.WideShapes Go.ChangeAt Go.RowKit
set_option linter.unusedVariables false
set_option linter.unusedSimpArgs false
set_option maxRecDepth 100000 in
set_option maxHeartbeats 4000000 in
theorem dput_ok {base P p B G Q n c : Nat} {th : Nat → Bool} {vr_ : Nat → Int} {W : Nat → Nat → Value} (x : Int) (k : Nat) (hx : Hid (x = (k : Int))) (hk : k < n) (ht : Hid (th k = true)) (f : Nat → Value) (kk : Nat → Nat → Int) (ho : Hid (∀ j, j < 107 → (f j).oneCell' = true)) (hKy : Hid (KeysIn f kk)) (hR : Hid (∀ q, q < 19 → KRight kk q)) (s ft wt : Int) (hs : Hid (f 9 = .int .i64 s ∧ f 10 = .int .i64 ft ∧ f 106 = .int .i64 wt)) (s1 : 1 ≤ s) (s2 : s ≤ 4) (t1 : 0 ≤ ft) (t2 : ft ≤ 6) (u1 : 0 ≤ wt) (u2 : wt ≤ 536870911) (vs vr : Value) (w : World) (hE : ErrsAt vs vr w) (h : DsAt w base P p B G Q n c th vr_ W) :
    Calls Tryd.prog 58 #[.pointer (some ⟨P, 0, none⟩), .int .i64 x, .agg (rowL f).toArray] w fun e w' => e = .returned .nilIface ∧ DsAt w' base P p B G Q n c th vr_ (updS W k 0 (rowL f)) ∧ PBelow w w' B G := by
  rw [hx.out]
  have H := Lib.hid h
  have HE := Lib.hid hE
  have k0 : (0 : Int) ≤ k := by omega
  have k1 : (k : Int) < n := by omega
  clear h hx hE
  go_enter Tryd.func58, Tryd.ntmps58
  go_upto_region 1 with fail
  generalize hA : World.alloc w _ = wA
  obtain ⟨xb, hxb⟩ : ∃ xb, xb = w.heap.size := ⟨_, rfl⟩
  have HA : Hid (Below w.heap.size w wA ∧ wA.rangeAt xb 0 (rowL f) ∧ xb < wA.heap.size) := Lib.hid (by
    rw [← hA, hxb]
    refine ⟨(Below.refl _ _).alloc (Nat.le_refl _) _, fun j v hv => ?_, by simp⟩
    simp
    simpa using hv)
  rw [← hxb]
  have HXb := Lib.hid hxb
  clear hA hxb
  have H1 := Lib.hid (H.out.below HA.out.1)
  have f0 := H1.out.pl.f0
  have HE1 := Lib.hid (HE.out.below HA.out.1)
  go_upto_region 6 with (first
    | (go_at_call 25; (with_reducible refine (athere_in k hk true ht _ H1.out.pl.ar).mono ?_); rintro e w1 ⟨rfl, rfl⟩)
    | (refine wpList_load_mid (by rfl) _ _ (by rfl) xb 0 (by rfl) (rowL f) _ HA.out.2.1 Tryd.underlying114 rfl (by rw [rowL_len]; exact infoDomS) ?_)
    | (go_at_call 133; (with_reducible refine (dvalid_ok f kk hKy hR s ft wt hs s1 s2 t1 t2 u1 u2 vs vr _ HE1.out).mono ?_); rintro e w2 ⟨rfl, hb⟩; have HB2 := Lib.hid hb; clear hb f0))
  obtain ⟨wD, hwD⟩ : ∃ wD, wD = w2.drew := ⟨_, rfl⟩
  have HBD : Hid (Below wA.heap.size wA wD) := Lib.hid (by rw [hwD]; exact HB2.out.drew)
  have HD := Lib.hid (H1.out.below HBD.out)
  have HRg : Hid (wD.rangeAt xb 0 (rowL f)) := Lib.hid (fun j u hj => (HBD.out.cell (p := ⟨xb, 0 + j, none⟩) HA.out.2.2).trans (HA.out.2.1 j u hj))
  have HTh : Hid (wD.there G (k * 107) 107) := Lib.hid (HD.out.pl.there k 0 107 hk (by decide))
  have HS := Lib.hid (HD.out.cells k 0 hk (rowL f) (by rw [rowL_len]; decide))
  have HGx : Hid (xb ≠ G) := Lib.hid (by have := H.out.pl.gl.2; have := HXb.out; omega)
  refine wp_region_noPanic ?_
  refine wp_region_held_drew (S := fun w' => World.cell? w' ⟨P, 1, none⟩ = some (.slice (some ⟨G, 0, none⟩) n n) ∧ w'.rangeAt xb 0 (rowL f)) (by kernel_rfl) (by rw [← hwD]; exact ⟨HD.out.pl.f1, HRg.out⟩) (fun hHeld => ?_)
  rw [← hwD] at hHeld ⊢
  clear hwD
  refine wpAnyH_take (i := 0) (v := ?_) (by rfl) (by kernel_rfl) (by kernel_rfl) (by kernel_rfl) (fun _ _ _ h => h) (Or.inl ⟨by kernel_rfl, ?_⟩) (by assumption) ?_; rotate_left 1; (focus (intro w hSw; (try dsimp only at hSw); simp only [List.getElem_toArray, List.getElem_cons_succ, List.getElem_cons_zero]; all_goals go_simp; all_goals (try with_reducible rfl))); (try simp only [Act.put, List.getElem_toArray, List.getElem_cons_succ, List.getElem_cons_zero, List.setIfInBounds_toArray, List.set_cons_zero, List.set_cons_succ])
  refine wpAnyH_take (i := 1) (v := ?_) (by rfl) (by kernel_rfl) (by kernel_rfl) (by kernel_rfl) (fun _ _ _ h => h) (Or.inl ⟨by kernel_rfl, ?_⟩) (by assumption) ?_; rotate_left 1; (focus (intro w hSw; (try dsimp only at hSw); simp only [List.getElem_toArray, List.getElem_cons_succ, List.getElem_cons_zero]; all_goals go_simp; all_goals (try with_reducible rfl))); (try simp only [Act.put, List.getElem_toArray, List.getElem_cons_succ, List.getElem_cons_zero, List.setIfInBounds_toArray, List.set_cons_zero, List.set_cons_succ])
  refine wpAnyH_take (i := 2) (v := ?_) (by rfl) (by kernel_rfl) (by kernel_rfl) (by kernel_rfl) (fun _ _ _ h => h) (Or.inl ⟨by kernel_rfl, ?_⟩) (by assumption) ?_; rotate_left 1; (focus (intro w hSw; (try dsimp only at hSw); simp only [List.getElem_toArray, List.getElem_cons_succ, List.getElem_cons_zero]; all_goals go_simp; all_goals (try with_reducible rfl))); (try simp only [Act.put, List.getElem_toArray, List.getElem_cons_succ, List.getElem_cons_zero, List.setIfInBounds_toArray, List.set_cons_zero, List.set_cons_succ])
  refine wpAnyH_take (i := 3) (v := ?_) (by rfl) (by kernel_rfl) (by kernel_rfl) (by kernel_rfl) (fun _ _ _ h => h) (Or.inl ⟨by kernel_rfl, ?_⟩) (by assumption) ?_; rotate_left 1; (focus (intro w hSw; (try dsimp only at hSw); simp only [List.getElem_toArray, List.getElem_cons_succ, List.getElem_cons_zero]; all_goals go_simp; all_goals (try with_reducible rfl))); (try simp only [Act.put, List.getElem_toArray, List.getElem_cons_succ, List.getElem_cons_zero, List.setIfInBounds_toArray, List.set_cons_zero, List.set_cons_succ])
  refine wpAnyH_take (i := 4) (v := ?_) (by rfl) (by kernel_rfl) (by kernel_rfl) (by kernel_rfl) (fun _ _ _ h => h) (Or.inl ⟨by kernel_rfl, ?_⟩) (by assumption) ?_; rotate_left 1; (focus (intro w hSw; (try dsimp only at hSw); simp only [List.getElem_toArray, List.getElem_cons_succ, List.getElem_cons_zero]; all_goals go_simp; all_goals (try with_reducible rfl))); (try simp only [Act.put, List.getElem_toArray, List.getElem_cons_succ, List.getElem_cons_zero, List.setIfInBounds_toArray, List.set_cons_zero, List.set_cons_succ])
  refine wpAnyH_take (i := 5) (v := .agg (rowL f).toArray) (by rfl) (by kernel_rfl) (by kernel_rfl) (by kernel_rfl) (fun _ _ _ h => h) (yieldsIf_load_mid (by kernel_rfl) 114 (.tmp 5) (by rfl) xb 0 (by rfl) (rowL f) _ (fun w h => h.2) Tryd.underlying114 rfl (by rw [rowL_len]; exact infoDomS)) (by assumption) ?_
  (try simp only [Act.put, List.getElem_toArray, List.getElem_cons_succ, List.getElem_cons_zero, List.setIfInBounds_toArray, List.set_cons_zero, List.set_cons_succ])
  refine wpAnyH_take (i := 6) (v := ?_) (by rfl) (by kernel_rfl) (by kernel_rfl) (by kernel_rfl) (fun _ _ _ h => h) (Or.inl ⟨by kernel_rfl, ?_⟩) (by assumption) ?_; rotate_left 1; (focus (intro w hSw; (try dsimp only at hSw); simp only [List.getElem_toArray, List.getElem_cons_succ, List.getElem_cons_zero]; all_goals go_simp; all_goals (try with_reducible rfl))); (try simp only [Act.put, List.getElem_toArray, List.getElem_cons_succ, List.getElem_cons_zero, List.setIfInBounds_toArray, List.set_cons_zero, List.set_cons_succ])
  refine wpAnyH_ready (rs := [7]) (by kernel_rfl) (by simp) ?_; refine AllReadyH.cons (by rfl) (fun K hK => ?_) AllReadyH.nil; rw [if_pos (by kernel_rfl)]; simp only [List.getElem_toArray, List.getElem_cons_succ, List.getElem_cons_zero]
  refine wp_store_mid _ _ _ (by rfl) G (k * 107) (rowL f).toArray (by rfl) (by rfl) (by rw [rowL_size]; exact HTh.out) (by rw [rowL_size]; exact infoDomS) (rowL_one f ho.out) ?_
  have HS2 := HS.out
  rw [Nat.add_zero] at HS2
  have HS3 := Lib.hid HS2
  clear HS2
  generalize hwE : World.setCells wD G (k * 107) _ = wE
  have HF : Hid (DsAt wE base P p B G Q n c th vr_ (updS W k 0 (rowL f)) ∧ wD.grownBy wE (some G)) := Lib.hid (by rw [← hwE]; exact HS3.out)
  clear hwE HS HS3
  refine hK.out _ _ ⟨HF.out.1.pl.f1, fun j u hj => (World.cell?_of_block (a := ⟨xb, 0 + j, none⟩) (HF.out.2.block xb (Nat.lt_of_lt_of_le HA.out.2.2 HBD.out.size) (fun e => HGx.out (by injection e)))).trans (HRg.out j u hj)⟩ (fun hHeld => ?_)
  clear hK K hHeld
  (try simp only [Act.put, List.getElem_toArray, List.getElem_cons_succ, List.getElem_cons_zero, List.setIfInBounds_toArray, List.set_cons_zero, List.set_cons_succ])
  refine wpAnyH_done (by kernel_rfl) ?_ _
  refine NoPanic.normal ?_
  go_wp2_with fail
  go_ret
  exact ⟨rfl, HF.out.1, (PBelow.of_below (B := B) (G := G) (HA.out.1.trans (HBD.out.mono HA.out.1.size))).trans (PBelow.of HF.out.2 (.inr rfl))⟩
set_option maxHeartbeats 1000000 in
theorem dkeyof_in {base P p B G Q n c : Nat} {th : Nat → Bool} {vr_ : Nat → Int} {W : Nat → Nat → Value} (c0 x d : Int) (k : Nat) (hx : Hid (x = (k : Int))) (hk : k < n) (ht : Hid (th k = true)) (hd : d ≤ 536870911) (v : Int) (hv : Hid (vr_ k = v)) (w : World) (h : DsAt w base P p B G Q n c th vr_ W) :
    Calls Tryd.prog 142 #[.pointer (some ⟨P, 0, none⟩), .int .i64 c0, .int .i64 x, .int .u32 d] w fun e w' => e = .returned (Value.agg #[.int .i64 c0, .int .i64 x, .int .i64 v, .int .i64 0, .int .u32 d]) ∧ Below w.heap.size w w' := by
  have H := Lib.hid (fun o => h.below ((Below.refl _ _).alloc (Nat.le_refl _) _ : Below w.heap.size w (w.alloc o)))
  have f0 := fun o => (h.below ((Below.refl _ _).alloc (Nat.le_refl _) _ : Below w.heap.size w (w.alloc o))).pl.f0
  have d0 : decide (536870911 < d) = false := decide_eq_false (by omega)
  have hkx := hx.out
  subst hkx
  clear h
  go_enter Tryd.func142, Tryd.ntmps142
  go_wp2_with (first
    | (go_at_call 25; (with_reducible refine (athere_in k hk true ht _ (H.out _).pl.ar).mono ?_); rintro e w1 ⟨rfl, rfl⟩)
    | (go_at_call 72; (with_reducible refine (aver_in k hk v hv _ (H.out _).pl.ar).mono ?_); rintro e w1 ⟨rfl, rfl⟩))
  refine bodyPost_ret (v := (Value.agg #[.int .i64 c0, .int .i64 (k : Int), .int .i64 v, .int .i64 0, .int .u32 d])) (by simp [results, Tryd.results142, go_sem]) rfl ⟨rfl, ?_⟩
  exact (Below.refl _ _).alloc (Nat.le_refl _) _
set_option maxHeartbeats 1000000 in
theorem dkeyof_big {base P p B G Q n c : Nat} {th : Nat → Bool} {vr_ : Nat → Int} {W : Nat → Nat → Value} (c0 x d : Int) (k : Nat) (hx : Hid (x = (k : Int))) (hk : k < n) (ht : Hid (th k = true)) (hd : 536870911 < d) (w : World) (h : DsAt w base P p B G Q n c th vr_ W) :
    Calls Tryd.prog 142 #[.pointer (some ⟨P, 0, none⟩), .int .i64 c0, .int .i64 x, .int .u32 d] w fun e w' => e = .returned (Value.agg #[.int .i64 0, .int .i64 0, .int .i64 0, .int .i64 0, .int .u32 0]) ∧ Below w.heap.size w w' := by
  have H := Lib.hid (fun o => h.below ((Below.refl _ _).alloc (Nat.le_refl _) _ : Below w.heap.size w (w.alloc o)))
  have f0 := fun o => (h.below ((Below.refl _ _).alloc (Nat.le_refl _) _ : Below w.heap.size w (w.alloc o))).pl.f0
  have d0 : decide (536870911 < d) = true := decide_eq_true (by omega)
  have hkx := hx.out
  subst hkx
  clear h
  go_enter Tryd.func142, Tryd.ntmps142
  go_wp2_with (first
    | (go_at_call 25; (with_reducible refine (athere_in k hk true ht _ (H.out _).pl.ar).mono ?_); rintro e w1 ⟨rfl, rfl⟩))
  refine bodyPost_ret (v := (Value.agg #[.int .i64 0, .int .i64 0, .int .i64 0, .int .i64 0, .int .u32 0])) (by simp [results, Tryd.results142, go_sem]) rfl ⟨rfl, ?_⟩
  exact (Below.refl _ _).alloc (Nat.le_refl _) _
theorem athere_dead {base p B n c : Nat} {th : Nat → Bool} {vr : Nat → Int} (k : Nat) (x : Int) (hx : Hid (x = (k : Int))) (ht : Hid (th k = false)) (w : World) (hA : ArAt w base p B n c th vr) : Calls Tryd.prog 25 #[.pointer (some ⟨p, 0, none⟩), .int .i64 x] w fun e w' => e = .returned (.bool false) ∧ w = w' := by
  rw [hx.out]
  exact athere_is (k : Int) false (Lib.hid (by unfold thereB; rw [Int.toNat_natCast, ht.out]; simp)) w hA
set_option maxHeartbeats 1000000 in
theorem dkeyof_dead {base P p B G Q n c : Nat} {th : Nat → Bool} {vr_ : Nat → Int} {W : Nat → Nat → Value} (c0 x d : Int) (k : Nat) (hx : Hid (x = (k : Int))) (ht : Hid (th k = false)) (w : World) (h : DsAt w base P p B G Q n c th vr_ W) :
    Calls Tryd.prog 142 #[.pointer (some ⟨P, 0, none⟩), .int .i64 c0, .int .i64 x, .int .u32 d] w fun e w' => e = .returned (Value.agg #[.int .i64 0, .int .i64 0, .int .i64 0, .int .i64 0, .int .u32 0]) ∧ Below w.heap.size w w' := by
  have H := Lib.hid (fun o => h.below ((Below.refl _ _).alloc (Nat.le_refl _) _ : Below w.heap.size w (w.alloc o)))
  have f0 := fun o => (h.below ((Below.refl _ _).alloc (Nat.le_refl _) _ : Below w.heap.size w (w.alloc o))).pl.f0
  clear h
  go_enter Tryd.func142, Tryd.ntmps142
  go_wp2_with (first
    | (go_at_call 25; (with_reducible refine (athere_dead k x hx ht _ (H.out _).pl.ar).mono ?_); rintro e w1 ⟨rfl, rfl⟩))
  refine bodyPost_ret (v := (Value.agg #[.int .i64 0, .int .i64 0, .int .i64 0, .int .i64 0, .int .u32 0])) (by simp [results, Tryd.results142, go_sem]) rfl ⟨rfl, ?_⟩
  exact (Below.refl _ _).alloc (Nat.le_refl _) _
/-- Door and Key answer what keyOf does. -/
theorem ddoor_of {P : Nat} (x d : Int) (k0 k1 k2 k3 k4 : Int) (w : World) (h : ∀ W, Below w.heap.size w W → Calls Tryd.prog 142 #[.pointer (some ⟨P, 0, none⟩), .int .i64 5, .int .i64 x, .int .u32 d] W fun e w' => e = .returned (Value.agg #[.int .i64 k0, .int .i64 k1, .int .i64 k2, .int .i64 k3, .int .u32 k4]) ∧ Below W.heap.size W w') :
    Calls Tryd.prog 68 #[.pointer (some ⟨P, 0, none⟩), .int .i64 x, .int .u32 d] w fun e w' => e = .returned (Value.agg #[.int .i64 k0, .int .i64 k1, .int .i64 k2, .int .i64 k3, .int .u32 k4]) ∧ Below w.heap.size w w' := by
  have HC := Lib.hid h
  clear h
  go_enter Tryd.func68, Tryd.ntmps68
  go_upto_region 1 with fail
  generalize hA : World.alloc w _ = wA
  have HA : Hid (Below w.heap.size w wA ∧ KeyC wA w.heap.size 0 0 0 0 0) := Lib.hid (by rw [← hA]; exact ⟨(Below.refl _ _).alloc (Nat.le_refl _) _, KeyC.new w 0 0 0 0 0 _⟩)
  clear hA
  go_wp2_with (first
    | (go_at_call 142; (with_reducible refine (HC.out _ HA.out.1).mono ?_); rintro e w1 ⟨rfl, hb⟩; have HB := Lib.hid (HA.out.1.trans (hb.mono HA.out.1.size)); have HK := Lib.hid (HA.out.2.below hb); have q0 := HK.out.c0; have q1 := HK.out.c1; have q2 := HK.out.c2; have q3 := HK.out.c3; have q4 := HK.out.c4; have g0 := HK.out.fr 0; have g1 := HK.out.fr 1; have g2 := HK.out.fr 2; have g3 := HK.out.fr 3; have g4 := HK.out.fr 4; clear hb))
  have t := HK.out.set k0 k1 k2 k3 k4
  have t0 := t.c0
  have t1 := t.c1
  have t2 := t.c2
  have t3 := t.c3
  have t4 := t.c4
  refine bodyPost_ret (v := (Value.agg #[.int .i64 k0, .int .i64 k1, .int .i64 k2, .int .i64 k3, .int .u32 k4])) (by simp [results, Tryd.results68, go_sem, t0, t1, t2, t3, t4]) rfl ⟨rfl, ?_⟩
  exact ((((HB.out.setCell (Nat.le_refl _) _).setCell (Nat.le_refl _) _).setCell (Nat.le_refl _) _).setCell (Nat.le_refl _) _).setCell (Nat.le_refl _) _
theorem dkey_of {P : Nat} (x : Int) (k0 k1 k2 k3 k4 : Int) (w : World) (h : ∀ W, Below w.heap.size w W → Calls Tryd.prog 142 #[.pointer (some ⟨P, 0, none⟩), .int .i64 4, .int .i64 x, .int .u32 0] W fun e w' => e = .returned (Value.agg #[.int .i64 k0, .int .i64 k1, .int .i64 k2, .int .i64 k3, .int .u32 k4]) ∧ Below W.heap.size W w') :
    Calls Tryd.prog 67 #[.pointer (some ⟨P, 0, none⟩), .int .i64 x] w fun e w' => e = .returned (Value.agg #[.int .i64 k0, .int .i64 k1, .int .i64 k2, .int .i64 k3, .int .u32 k4]) ∧ Below w.heap.size w w' := by
  have HC := Lib.hid h
  clear h
  go_enter Tryd.func67, Tryd.ntmps67
  go_upto_region 1 with fail
  generalize hA : World.alloc w _ = wA
  have HA : Hid (Below w.heap.size w wA ∧ KeyC wA w.heap.size 0 0 0 0 0) := Lib.hid (by rw [← hA]; exact ⟨(Below.refl _ _).alloc (Nat.le_refl _) _, KeyC.new w 0 0 0 0 0 _⟩)
  clear hA
  go_wp2_with (first
    | (go_at_call 142; (with_reducible refine (HC.out _ HA.out.1).mono ?_); rintro e w1 ⟨rfl, hb⟩; have HB := Lib.hid (HA.out.1.trans (hb.mono HA.out.1.size)); have HK := Lib.hid (HA.out.2.below hb); have q0 := HK.out.c0; have q1 := HK.out.c1; have q2 := HK.out.c2; have q3 := HK.out.c3; have q4 := HK.out.c4; have g0 := HK.out.fr 0; have g1 := HK.out.fr 1; have g2 := HK.out.fr 2; have g3 := HK.out.fr 3; have g4 := HK.out.fr 4; clear hb))
  have t := HK.out.set k0 k1 k2 k3 k4
  have t0 := t.c0
  have t1 := t.c1
  have t2 := t.c2
  have t3 := t.c3
  have t4 := t.c4
  refine bodyPost_ret (v := (Value.agg #[.int .i64 k0, .int .i64 k1, .int .i64 k2, .int .i64 k3, .int .u32 k4])) (by simp [results, Tryd.results67, go_sem, t0, t1, t2, t3, t4]) rfl ⟨rfl, ?_⟩
  exact ((((HB.out.setCell (Nat.le_refl _) _).setCell (Nat.le_refl _) _).setCell (Nat.le_refl _) _).setCell (Nat.le_refl _) _).setCell (Nat.le_refl _) _
set_option maxHeartbeats 1000000 in
theorem dresume_dead {base P p B G Q n c : Nat} {th : Nat → Bool} {vr_ : Nat → Int} {W : Nat → Nat → Value} (x : Int) (k : Nat) (hx : Hid (x = (k : Int))) (ht : Hid (th k = false)) (w : World) (h : DsAt w base P p B G Q n c th vr_ W) :
    Calls Tryd.prog 70 #[.pointer (some ⟨P, 0, none⟩), .int .i64 x] w fun e w' => e = .returned (Value.agg #[.int .i64 0, .int .i64 0, .int .i64 0, .int .i64 0, .int .u32 0]) ∧ Below w.heap.size w w' := by
  have H := Lib.hid (fun o => h.below ((Below.refl _ _).alloc (Nat.le_refl _) _ : Below w.heap.size w (w.alloc o)))
  have f0 := fun o => (h.below ((Below.refl _ _).alloc (Nat.le_refl _) _ : Below w.heap.size w (w.alloc o))).pl.f0
  clear h
  go_enter Tryd.func70, Tryd.ntmps70
  go_wp2_with (first
    | (go_at_call 25; (with_reducible refine (athere_dead k x hx ht _ (H.out _).pl.ar).mono ?_); rintro e w1 ⟨rfl, rfl⟩))
  refine bodyPost_ret (v := (Value.agg #[.int .i64 0, .int .i64 0, .int .i64 0, .int .i64 0, .int .u32 0])) (by simp [results, Tryd.results70, go_sem]) rfl ⟨rfl, ?_⟩
  exact (Below.refl _ _).alloc (Nat.le_refl _) _
set_option maxHeartbeats 1000000 in
theorem dresume_no {base P p B G Q n c : Nat} {th : Nat → Bool} {vr_ : Nat → Int} {W : Nat → Nat → Value} (x : Int) (k : Nat) (hx : Hid (x = (k : Int))) (hk : k < n) (ht : Hid (th k = true)) (s : Int) (hs : Hid (W k 9 = .int .i64 s)) (hs2 : s ≠ 2) (w : World) (h : DsAt w base P p B G Q n c th vr_ W) :
    Calls Tryd.prog 70 #[.pointer (some ⟨P, 0, none⟩), .int .i64 x] w fun e w' => e = .returned (Value.agg #[.int .i64 0, .int .i64 0, .int .i64 0, .int .i64 0, .int .u32 0]) ∧ Below w.heap.size w w' := by
  have H := Lib.hid (fun o => h.below ((Below.refl _ _).alloc (Nat.le_refl _) _ : Below w.heap.size w (w.alloc o)))
  have f0 := fun o => (h.below ((Below.refl _ _).alloc (Nat.le_refl _) _ : Below w.heap.size w (w.alloc o))).pl.f0
  have f1 := fun o => (h.below ((Below.refl _ _).alloc (Nat.le_refl _) _ : Below w.heap.size w (w.alloc o))).pl.f1
  have c9 : ∀ o, (w.alloc o).cell? ⟨G, k * 107 + 9, none⟩ = some (.int .i64 s) := fun o => ((h.below ((Below.refl _ _).alloc (Nat.le_refl _) _ : Below w.heap.size w (w.alloc o))).pl.cell k 9 hk (by decide)).trans (congrArg some hs.out)
  have d0 : (s != 2) = true := bne_iff_ne.2 hs2
  have k0 : (0 : Int) ≤ k := by omega
  have k1 : (k : Int) < n := by omega
  have hkx := hx.out
  subst hkx
  clear h
  go_enter Tryd.func70, Tryd.ntmps70
  go_wp2_with (first
    | (go_at_call 25; (with_reducible refine (athere_in k hk true ht _ (H.out _).pl.ar).mono ?_); rintro e w1 ⟨rfl, rfl⟩))
  refine bodyPost_ret (v := (Value.agg #[.int .i64 0, .int .i64 0, .int .i64 0, .int .i64 0, .int .u32 0])) (by simp [results, Tryd.results70, go_sem]) rfl ⟨rfl, ?_⟩
  exact (Below.refl _ _).alloc (Nat.le_refl _) _
set_option maxHeartbeats 2000000 in
theorem dresume_yes {base P p B G Q n c : Nat} {th : Nat → Bool} {vr_ : Nat → Int} {W : Nat → Nat → Value} (x : Int) (k : Nat) (hx : Hid (x = (k : Int))) (hk : k < n) (ht : Hid (th k = true)) (wt : Int) (hs : Hid (W k 9 = .int .i64 2 ∧ W k 106 = .int .i64 wt)) (u1 : 0 ≤ wt) (u2 : wt ≤ 536870911) (v : Int) (hv : Hid (vr_ k = v)) (w : World) (h : DsAt w base P p B G Q n c th vr_ W) :
    Calls Tryd.prog 70 #[.pointer (some ⟨P, 0, none⟩), .int .i64 x] w fun e w' => e = .returned (Value.agg #[.int .i64 6, .int .i64 x, .int .i64 v, .int .i64 0, .int .u32 wt]) ∧ Below w.heap.size w w' := by
  have H := Lib.hid (fun W' (hb : Below w.heap.size w W') => h.below hb)
  have k0 : (0 : Int) ≤ k := by omega
  have k1 : (k : Int) < n := by omega
  have hw : IntKind.u32.wrap wt = wt := by rw [IntKind.wrap_u32]; omega
  have hkx := hx.out
  subst hkx
  clear h
  go_enter Tryd.func70, Tryd.ntmps70
  go_upto_region 1 with fail
  generalize hA : World.alloc w _ = wA
  have HA : Hid (Below w.heap.size w wA ∧ KeyC wA w.heap.size 0 0 0 0 0) := Lib.hid (by rw [← hA]; exact ⟨(Below.refl _ _).alloc (Nat.le_refl _) _, KeyC.new w 0 0 0 0 0 _⟩)
  clear hA
  have H1 := Lib.hid (H.out _ HA.out.1)
  have f0 := H1.out.pl.f0
  have f1 := H1.out.pl.f1
  have c9 := (H1.out.pl.cell k 9 hk (by decide)).trans (congrArg some hs.out.1)
  have c106 := (H1.out.pl.cell k 106 hk (by decide)).trans (congrArg some hs.out.2)
  go_wp2_with (first
    | (go_at_call 25; (with_reducible refine (athere_in k hk true ht _ H1.out.pl.ar).mono ?_); rintro e w1 ⟨rfl, rfl⟩)
    | (go_at_call 142; (with_reducible refine (dkeyof_in 6 (k : Int) wt k (Lib.hid rfl) hk ht u2 v hv _ H1.out).mono ?_); rintro e w1 ⟨rfl, hb⟩; have HB := Lib.hid (HA.out.1.trans (hb.mono HA.out.1.size)); have HK := Lib.hid (HA.out.2.below hb); have q0 := HK.out.c0; have q1 := HK.out.c1; have q2 := HK.out.c2; have q3 := HK.out.c3; have q4 := HK.out.c4; have g0 := HK.out.fr 0; have g1 := HK.out.fr 1; have g2 := HK.out.fr 2; have g3 := HK.out.fr 3; have g4 := HK.out.fr 4; clear hb))
  have t := HK.out.set 6 (k : Int) v 0 wt
  have t0 := t.c0
  have t1 := t.c1
  have t2 := t.c2
  have t3 := t.c3
  have t4 := t.c4
  refine bodyPost_ret (v := (Value.agg #[.int .i64 6, .int .i64 (k : Int), .int .i64 v, .int .i64 0, .int .u32 wt])) (by simp [results, Tryd.results70, go_sem, t0, t1, t2, t3, t4]) rfl ⟨rfl, ?_⟩
  exact ((((HB.out.setCell (Nat.le_refl _) _).setCell (Nat.le_refl _) _).setCell (Nat.le_refl _) _).setCell (Nat.le_refl _) _).setCell (Nat.le_refl _) _
end Go.Proofs.YtkogmhgpkacehaaDoor
namespace Go.Proofs.YtkogmhgpkacehaaDoor
open Go.ChangeShapes Go.WideShapes Go.ChangeAt Go.RowKit
set_option linter.unusedVariables false
set_option linter.unusedSimpArgs false
set_option maxHeartbeats 1000000 in
theorem spagekey_dead {S : Nat} {a b : Shp} {th : Nat → Bool} {vr_ : Nat → Int} {W : Nat → Nat → Value} {th2 : Nat → Bool} {vr2 : Nat → Int} {W2 : Nat → Nat → Int} (x : Int) (k : Nat) (hx : Hid (x = (k : Int))) (ht : Hid (th2 k = false)) (w : World) (h : (StAt w S a b th vr_ W th2 vr2 W2)) :
    Calls Tryd.prog 47 #[.pointer (some ⟨S, 0, none⟩), .int .i64 x] w fun e w' => e = .returned (Value.agg #[.int .i64 0, .int .i64 0, .int .i64 0, .int .i64 0, .int .u32 0]) ∧ Below w.heap.size w w' := by
  have H := Lib.hid (fun o => h.below ((Below.refl _ _).alloc (Nat.le_refl _) _ : Below w.heap.size w (w.alloc o)))
  have s1 : ∀ o, (w.alloc o).cell? ⟨S, 1, none⟩ = some (.pointer (some ⟨b.P, 0, none⟩)) := fun o => (H.out o).s1
  have f1 : ∀ o, (w.alloc o).cell? ⟨b.P, 0, none⟩ = some (.pointer (some ⟨b.p, 0, none⟩)) := fun o => (H.out o).pg.f0
  clear h
  go_enter Tryd.func47, Tryd.ntmps47
  go_wp2_with (first
    | (go_at_call 25; (with_reducible refine (athere_dead k x hx ht _ (H.out _).pg.ar).mono ?_); rintro e w1 ⟨rfl, rfl⟩))
  refine bodyPost_ret (v := (Value.agg #[.int .i64 0, .int .i64 0, .int .i64 0, .int .i64 0, .int .u32 0])) (by simp [results, Tryd.results47, go_sem]) rfl ⟨rfl, ?_⟩
  exact (Below.refl _ _).alloc (Nat.le_refl _) _
set_option maxHeartbeats 1000000 in
theorem snodekey_dead {S : Nat} {a b : Shp} {th : Nat → Bool} {vr_ : Nat → Int} {W : Nat → Nat → Value} {th2 : Nat → Bool} {vr2 : Nat → Int} {W2 : Nat → Nat → Int} (x y : Int) (k : Nat) (hx : Hid (x = (k : Int))) (ht : Hid (th k = false)) (w : World) (h : (StAt w S a b th vr_ W th2 vr2 W2)) :
    Calls Tryd.prog 48 #[.pointer (some ⟨S, 0, none⟩), .int .i64 x, .int .i64 y] w fun e w' => e = .returned (Value.agg #[.int .i64 0, .int .i64 0, .int .i64 0, .int .i64 0, .int .u32 0]) ∧ Below w.heap.size w w' := by
  have H := Lib.hid (fun o => h.below ((Below.refl _ _).alloc (Nat.le_refl _) _ : Below w.heap.size w (w.alloc o)))
  have s0 : ∀ o, (w.alloc o).cell? ⟨S, 0, none⟩ = some (.pointer (some ⟨a.P, 0, none⟩)) := fun o => (H.out o).s0
  have f0 : ∀ o, (w.alloc o).cell? ⟨a.P, 0, none⟩ = some (.pointer (some ⟨a.p, 0, none⟩)) := fun o => (H.out o).nd.f0
  clear h
  go_enter Tryd.func48, Tryd.ntmps48
  go_wp2_with (first
    | (go_at_call 25; (with_reducible refine (athere_dead k x hx ht _ (H.out _).nd.ar).mono ?_); rintro e w1 ⟨rfl, rfl⟩))
  refine bodyPost_ret (v := (Value.agg #[.int .i64 0, .int .i64 0, .int .i64 0, .int .i64 0, .int .u32 0])) (by simp [results, Tryd.results48, go_sem]) rfl ⟨rfl, ?_⟩
  exact (Below.refl _ _).alloc (Nat.le_refl _) _
/-- Owned's function for nodes. -/
theorem owned2_of {w0 : World} {L : BLoc} {D : BSt} (bb : Nat) (x k0 k1 k2 k3 k4 : Int) (w : World) (h : BW w0 w L D) (hb : w.cell? ⟨bb, 0, none⟩ = some (.pointer (some ⟨L.P, 0, none⟩))) (hbl : bb < w.heap.size)
    (hc : ∀ W, Below w.heap.size w W → Calls Tryd.prog 48 #[.pointer (some ⟨L.S, 0, none⟩), .int .i64 x, .int .i64 0] W fun e w' => e = .returned (Value.agg #[.int .i64 k0, .int .i64 k1, .int .i64 k2, .int .i64 k3, .int .u32 k4]) ∧ Below W.heap.size W w') :
    Calls Tryd.prog 153 #[.int .i64 x, .pointer (some ⟨bb, 0, none⟩)] w fun e w' => e = .returned (Value.agg #[.int .i64 k0, .int .i64 k1, .int .i64 k2, .int .i64 k3, .int .u32 k4]) ∧ Below w.heap.size w w' := by
  have HC := Lib.hid hc
  have H := Lib.hid h
  have HX := Lib.hid (show w.cell? ⟨bb, 0, none⟩ = some (.pointer (some ⟨L.P, 0, none⟩)) ∧ bb < w.heap.size from ⟨hb, hbl⟩)
  clear h hc hb hbl
  go_enter Tryd.func153, Tryd.ntmps153
  go_upto_region 1 with fail
  generalize hA : World.alloc w _ = wA
  have HA : Hid (Below w.heap.size w wA ∧ KeyC wA w.heap.size 0 0 0 0 0) := Lib.hid (by rw [← hA]; exact ⟨(Below.refl _ _).alloc (Nat.le_refl _) _, KeyC.new w 0 0 0 0 0 _⟩)
  clear hA
  have HWA := Lib.hid (H.out.below HA.out.1)
  have c0 := (HA.out.1.cell (p := ⟨bb, 0, none⟩) HX.out.2).trans HX.out.1
  have f1 := HWA.out.kk.f1
  have m0 := HWA.out.mm.m0
  go_wp2_with (first
    | (go_at_call 48; (with_reducible refine (HC.out _ HA.out.1).mono ?_); rintro e w1 ⟨rfl, hb⟩; have HB := Lib.hid (HA.out.1.trans (hb.mono HA.out.1.size)); have HK := Lib.hid (HA.out.2.below hb); have q0 := HK.out.c0; have q1 := HK.out.c1; have q2 := HK.out.c2; have q3 := HK.out.c3; have q4 := HK.out.c4; have g0 := HK.out.fr 0; have g1 := HK.out.fr 1; have g2 := HK.out.fr 2; have g3 := HK.out.fr 3; have g4 := HK.out.fr 4; clear hb c0 f1 m0))
  have t := HK.out.set k0 k1 k2 k3 k4
  have t0 := t.c0
  have t1 := t.c1
  have t2 := t.c2
  have t3 := t.c3
  have t4 := t.c4
  refine bodyPost_ret (v := (Value.agg #[.int .i64 k0, .int .i64 k1, .int .i64 k2, .int .i64 k3, .int .u32 k4])) (by simp [results, Tryd.results153, go_sem, t0, t1, t2, t3, t4]) rfl ⟨rfl, ?_⟩
  exact ((((HB.out.setCell (Nat.le_refl _) _).setCell (Nat.le_refl _) _).setCell (Nat.le_refl _) _).setCell (Nat.le_refl _) _).setCell (Nat.le_refl _) _
end Go.Proofs.YtkogmhgpkacehaaDoor
namespace Go.Proofs.YtkogmhgpkacehaaDoor
open Go.ChangeShapes Go.WideShapes Go.ChangeAt Go.RowKit
set_option linter.unusedVariables false
set_option linter.unusedSimpArgs false
/-- The keys' cells of these places. -/
def okc (k0 : Int) (V : Nat → Int) (ids : List Nat) : List Value := ids.flatMap (fun (i : Nat) => [.int .i64 k0, .int .i64 (i : Int), .int .i64 (V i), .int .i64 0, .int .u32 0])
/-- The places below n that are there and whose title names q. -/
def oks (T : Nat → Bool) (o : Nat → Int) (q : Nat) (n : Nat) : List Nat := (List.range n).filter (fun i => T i && (o i == (q : Int)))
theorem oks_zero (T : Nat → Bool) (o : Nat → Int) (q : Nat) : oks T o q 0 = [] := rfl
theorem oks_yes (T : Nat → Bool) (o : Nat → Int) (q n : Nat) (h : T n = true) (h2 : o n = (q : Int)) : oks T o q (n + 1) = oks T o q n ++ [n] := by
  unfold oks; rw [List.range_succ, List.filter_append]; simp [h, h2]
theorem oks_dead (T : Nat → Bool) (o : Nat → Int) (q n : Nat) (h : T n = false) : oks T o q (n + 1) = oks T o q n := by
  unfold oks; rw [List.range_succ, List.filter_append]; simp [h]
theorem oks_no (T : Nat → Bool) (o : Nat → Int) (q n : Nat) (h2 : ¬ o n = (q : Int)) : oks T o q (n + 1) = oks T o q n := by
  unfold oks; rw [List.range_succ, List.filter_append]; simp [h2]
theorem oks_len (T : Nat → Bool) (o : Nat → Int) (q n : Nat) : (oks T o q n).length ≤ n := by
  have := List.length_filter_le (fun i => T i && (o i == (q : Int))) (List.range n)
  simpa [oks] using this
theorem okc_snoc (k0 : Int) (V : Nat → Int) (l : List Nat) (i : Nat) : okc k0 V (l ++ [i]) = okc k0 V l ++ [.int .i64 k0, .int .i64 (i : Int), .int .i64 (V i), .int .i64 0, .int .u32 0] := by
  simp [okc]
theorem ok5_at {w : World} {T : TypeId} {y0 y1 y2 y3 y4 : Int} : ∀ j u, [Value.int .i64 y0, .int .i64 y1, .int .i64 y2, .int .i64 y3, .int .u32 y4][j]? = some u → (w.alloc (.cells #[.int .i64 y0, .int .i64 y1, .int .i64 y2, .int .i64 y3, .int .u32 y4] T (0, 0))).cell? (Addr.add ⟨w.heap.size, 0, none⟩ j) = some u := by
  intro j u hj
  have e : Addr.add ⟨w.heap.size, 0, none⟩ j = ⟨w.heap.size, j, none⟩ := by unfold Addr.add; split <;> simp_all
  rw [e]
  match j, hj with
  | 0, hj | 1, hj | 2, hj | 3, hj | 4, hj => simp at hj; subst hj; simp
  | j + 5, hj => simp at hj
theorem ok5_one (y0 y1 y2 y3 y4 : Int) : ∀ u ∈ [Value.int .i64 y0, .int .i64 y1, .int .i64 y2, .int .i64 y3, .int .u32 y4], u.oneCell' = true := by
  intro u hu
  simp only [List.mem_cons, List.not_mem_nil, or_false] at hu
  rcases hu with rfl | rfl | rfl | rfl | rfl <;> rfl
/-- Owned at work: its boxes, and the row behind them. -/
structure OwS (M w : World) (P bb ib ob : Nat) (q : Nat) (v : Value) (m : Nat) (xs : List Value) : Prop where
  bel : Below M.heap.size M w
  nb : M.heap.size ≤ bb ∧ M.heap.size ≤ ib ∧ M.heap.size ≤ ob ∧ bb < ob ∧ ib < ob
  lt : ob < w.heap.size
  b0 : w.cell? ⟨bb, 0, none⟩ = some (.pointer (some ⟨P, 0, none⟩))
  i0 : w.cell? ⟨ib, 0, none⟩ = some (.int .i64 (q : Int))
  o0 : w.cell? ⟨ob, 0, none⟩ = some v
  fr : w.frozen? ⟨ob, 0, none⟩ = false
  row : w.ownsRow (ob + 1) 32 5 v m xs
section
variable {M w w' : World} {P bb ib ob q m : Nat} {v : Value} {xs : List Value}
theorem OwS.below (h : OwS M w P bb ib ob q v m xs) (hb : Below w.heap.size w w') : OwS M w' P bb ib ob q v m xs :=
  ⟨h.bel.trans (hb.mono h.bel.size), h.nb, Nat.lt_of_lt_of_le h.lt hb.size, (hb.cell (p := ⟨bb, 0, none⟩) (Nat.lt_trans h.nb.2.2.2.1 h.lt)).trans h.b0, (hb.cell (p := ⟨ib, 0, none⟩) (Nat.lt_trans h.nb.2.2.2.2 h.lt)).trans h.i0, (hb.cell (p := ⟨ob, 0, none⟩) h.lt).trans h.o0, (World.frozen?_of_block (a := ⟨ob, 0, none⟩) (hb.block ob h.lt)).trans h.fr,
    row_same' h.row (fun g hg => hb.block g (h.row.lt g hg).2)⟩
/-- Grown by one row, but not yet stored. -/
structure OwG (M w : World) (P bb ib ob : Nat) (q : Nat) (v : Value) (m : Nat) (xs : List Value) (u : Value) : Prop where
  bel : Below M.heap.size M w
  nb : M.heap.size ≤ bb ∧ M.heap.size ≤ ib ∧ M.heap.size ≤ ob ∧ bb < ob ∧ ib < ob
  lt : ob < w.heap.size
  b0 : w.cell? ⟨bb, 0, none⟩ = some (.pointer (some ⟨P, 0, none⟩))
  i0 : w.cell? ⟨ib, 0, none⟩ = some (.int .i64 (q : Int))
  o0 : w.cell? ⟨ob, 0, none⟩ = some u
  fr : w.frozen? ⟨ob, 0, none⟩ = false
  row : w.ownsRow (ob + 1) 32 5 v m xs
theorem OwS.grown {v' : Value} {m' : Nat} {xs' : List Value} (h : OwS M w P bb ib ob q v m xs) (hg : w.grownBy w' v.ownBlock) (hr : w'.ownsRow (ob + 1) 32 5 v' m' xs') : OwG M w' P bb ib ob q v' m' xs' v := by
  have hn : ∀ k, k ≤ ob → some k ≠ v.ownBlock := fun k hk e => by have := (h.row.lt k e.symm).1; omega
  have hk : ∀ k, k ≤ ob → w'.heap[k]? = w.heap[k]? := fun k hk => hg.block k (Nat.lt_of_le_of_lt hk h.lt) (hn k hk)
  have hnb := h.nb
  refine ⟨h.bel.grown hg h.bel.size (fun g hg' => by have := (h.row.lt g hg').1; omega), h.nb, Nat.lt_of_lt_of_le h.lt hg.size, ?_, ?_, ?_, ?_, hr⟩
  · exact (World.cell?_of_block (a := ⟨bb, 0, none⟩) (hk bb (by omega))).trans h.b0
  · exact (World.cell?_of_block (a := ⟨ib, 0, none⟩) (hk ib (by omega))).trans h.i0
  · exact (World.cell?_of_block (a := ⟨ob, 0, none⟩) (hk ob (by omega))).trans h.o0
  · exact (World.frozen?_of_block (a := ⟨ob, 0, none⟩) (hk ob (by omega))).trans h.fr
theorem OwG.put {u : Value} (h : OwG M w P bb ib ob q v m xs u) : OwS M (w.setCell ⟨ob, 0, none⟩ v) P bb ib ob q v m xs := by
  have hnb := h.nb
  refine ⟨h.bel.setCell (by show M.heap.size ≤ ob; omega) _, h.nb, by simpa using h.lt, ?_, ?_, ?_, ?_, ?_⟩
  · rw [World.cell?_setCell_far _ _ _ _ (by show ob ≠ bb; omega)]; exact h.b0
  · rw [World.cell?_setCell_far _ _ _ _ (by show ob ≠ ib; omega)]; exact h.i0
  · exact World.cell?_setCell_same _ _ _ h.o0
  · rw [World.frozen?_setCell]; exact h.fr
  · exact row_same' h.row (fun g hg => Below.heap_setCell _ _ _ _ (by have := (h.row.lt g hg).1; show g ≠ ob; omega))
end
theorem infoKeyO : (Tryd.prog.info? 32).map (fun i => (i.zero, i.size, i.bytes)) = some (some (.agg #[.int .i64 0, .int .i64 0, .int .i64 0, .int .i64 0, .int .u32 0]), 5, 40) := by kernel_rfl

set_option maxRecDepth 100000 in
set_option maxHeartbeats 2000000 in
theorem badd_page {w0 : World} {L : BLoc} {D : BSt} (M : World) (bb ib ob q n m0 : Nat) (xs0 : List Value) (o vv : Nat → Int) (T : Nat → Bool) (V : Nat → Int) (hn : n ≤ 256) (hm0 : m0 ≤ 1000)
    (hlive : Hid (∀ i, i < n → T i = true → liveK L D 3 (i : Int) (V i) = true))
    (htit : Hid (∀ W, BW w0 W L D → ∀ i, i < n → TiAt W L 3 L.G2 i (o i) (vv i)))
    (how : Hid (∀ i, i < n → T i = true → ∃ q' : Nat, q' < D.nb ∧ o i = (q' : Int) ∧ vv i = V i))
    (hyes : Hid (∀ i, i < n → T i = true → ∀ W, BW w0 W L D → True → Calls Tryd.prog 47 #[.pointer (some ⟨L.S, 0, none⟩), .int .i64 (i : Int)] W fun e w' => e = .returned (.agg #[.int .i64 3, .int .i64 (i : Int), .int .i64 (V i), .int .i64 0, .int .u32 0]) ∧ Below W.heap.size W w'))
    (hno : Hid (∀ i, i < n → T i = false → ∀ W, BW w0 W L D → True → Calls Tryd.prog 47 #[.pointer (some ⟨L.S, 0, none⟩), .int .i64 (i : Int)] W fun e w' => e = .returned (Value.agg #[.int .i64 0, .int .i64 0, .int .i64 0, .int .i64 0, .int .u32 0]) ∧ Below W.heap.size W w'))
    (hM : BW w0 M L D) (w : World) (v0 : Value) (h : OwS M w L.P bb ib ob q v0 m0 xs0) :
    Calls Tryd.prog 151 #[.int .i64 (n : Int), .func (.func 47) #[.pointer (some ⟨L.S, 0, none⟩)] #[], .pointer (some ⟨bb, 0, none⟩), .pointer (some ⟨ib, 0, none⟩), .pointer (some ⟨ob, 0, none⟩)] w fun e w' => e = .returned (.tuple #[]) ∧ ∃ v, OwS M w' L.P bb ib ob q v (m0 + (oks T o q n).length) (xs0 ++ okc 3 V (oks T o q n)) := by
  have H := Lib.hid h
  have HM := Lib.hid hM
  obtain ⟨i0, hi, hz0, hz1, hz2⟩ := info_parts infoKeyO
  have HI := Lib.hid (⟨hi, hz0, hz1, hz2⟩ : Tryd.prog.info? 32 = some i0 ∧ i0.zero = some (.agg #[.int .i64 0, .int .i64 0, .int .i64 0, .int .i64 0, .int .u32 0]) ∧ i0.size = 5 ∧ i0.bytes = 40)
  clear h hM hi hz0 hz1 hz2
  go_enter Tryd.func151, Tryd.ntmps151
  go_wp2_with fail
  go_loopw [10] (fun x wr => ∃ (i : Nat) (v : Value), i ≤ n ∧ x = .int .i64 (i : Int) ∧ OwS M wr L.P bb ib ob q v (m0 + (oks T o q i).length) (xs0 ++ okc 3 V (oks T o q i))) (fun x _ => n - (intOf x).toNat)
  case atStart => exact ⟨0, v0, Nat.zero_le _, rfl, by simpa [oks_zero, okc] using H.out⟩
  case round =>
    obtain ⟨i, v, hin, rfl, hO⟩ := hrel
    have HO := Lib.hid hO
    have HW := Lib.hid (HM.out.below hO.bel)
    clear hO
    have g0 : (0 : Int) ≤ i := by omega
    have hle := oks_len T o q i
    obtain ⟨m, hm⟩ : ∃ m, Hid (m = m0 + (oks T o q i).length) := ⟨_, Lib.hid rfl⟩
    obtain ⟨xs, hxs⟩ : ∃ xs, Hid (xs = xs0 ++ okc 3 V (oks T o q i)) := ⟨_, Lib.hid rfl⟩
    rw [← hm.out, ← hxs.out] at HO
    have hmb : m ≤ 1256 := by have := hm.out; omega
    clear hle
    by_cases hlt : i < n
    · by_cases hT : T i = true
      · obtain ⟨q', hq', ho', hv'⟩ := how.out i hlt hT
        have HLv := Lib.hid (hlive.out i hlt hT)
        have HC := Lib.hid (hyes.out i hlt hT)
        obtain ⟨vi, hvi⟩ : ∃ vi, Hid (V i = vi) := ⟨_, Lib.hid rfl⟩
        have HTt := Lib.hid (fun W hW => by have := htit.out W hW i hlt; rw [ho', hv', hvi.out] at this; exact this)
        rw [hvi.out] at HLv HC
        have HT := Lib.hid hT
        have Ho := Lib.hid ho'
        have i256 : i < 256 := by omega
        clear hT ho' hv'
        go_upto_region 4 with (first
          | (go_at_call 47; (with_reducible refine (HC.out _ HW.out trivial).mono ?_); rintro e w1 ⟨rfl, hb⟩; have HB1 := Lib.hid hb; clear hb))
        obtain ⟨kb, hkb⟩ : ∃ kb, kb = w1.heap.size := ⟨_, rfl⟩
        generalize hw2 : World.alloc w1 _ = w2
        have HB2 : Hid (Below w1.heap.size w1 w2) := Lib.hid (by rw [← hw2]; exact (Below.refl _ _).alloc (Nat.le_refl _) _)
        have HK2 : Hid (KeyC w2 kb 3 (i : Int) vi 0 0) := Lib.hid (by rw [← hw2, hkb]; exact KeyC.new w1 3 (i : Int) vi 0 0 _)
        rw [← hkb]
        clear hw2 hkb
        obtain ⟨wD, hwD⟩ : ∃ wD, wD = w2.drew := ⟨_, rfl⟩
        have HBD : Hid (Below wr.heap.size wr wD) := Lib.hid (by rw [hwD]; exact (HB1.out.trans (HB2.out.mono HB1.out.size)).drew)
        have HKD : Hid (KeyC wD kb 3 (i : Int) vi 0 0) := Lib.hid (by rw [hwD]; exact HK2.out.below (Below.refl _ _).drew)
        have HOD := Lib.hid (HO.out.below HBD.out)
        have HWD := Lib.hid (HW.out.below HBD.out)
        have HS : Hid (∀ W, Below wD.heap.size wD W → ((World.cell? W ⟨kb, 0, none⟩ = some (.int .i64 3) ∧ World.cell? W ⟨kb, 1, none⟩ = some (.int .i64 (i : Int)) ∧ World.cell? W ⟨kb, 2, none⟩ = some (.int .i64 vi) ∧ World.cell? W ⟨kb, 3, none⟩ = some (.int .i64 0) ∧ World.cell? W ⟨kb, 4, none⟩ = some (.int .u32 0)) ∧ World.cell? W ⟨bb, 0, none⟩ = some (.pointer (some ⟨L.P, 0, none⟩)) ∧ World.cell? W ⟨ib, 0, none⟩ = some (.int .i64 (q : Int)))) := Lib.hid (fun W hb => ⟨(HKD.out.below hb).k5, (HOD.out.below hb).b0, (HOD.out.below hb).i0⟩)
        refine wp_region_noPanic ?_
        refine wp_region_held_drew (S := fun w' => ((World.cell? w' ⟨kb, 0, none⟩ = some (.int .i64 3) ∧ World.cell? w' ⟨kb, 1, none⟩ = some (.int .i64 (i : Int)) ∧ World.cell? w' ⟨kb, 2, none⟩ = some (.int .i64 vi) ∧ World.cell? w' ⟨kb, 3, none⟩ = some (.int .i64 0) ∧ World.cell? w' ⟨kb, 4, none⟩ = some (.int .u32 0)) ∧ World.cell? w' ⟨bb, 0, none⟩ = some (.pointer (some ⟨L.P, 0, none⟩)) ∧ World.cell? w' ⟨ib, 0, none⟩ = some (.int .i64 (q : Int)))) (by kernel_rfl) (by rw [← hwD]; exact HS.out _ (Below.refl _ _)) (fun hHeld => ?_)
        rw [← hwD] at hHeld ⊢
        clear hwD
        refine wpAnyH_take (i := 0) (v := ?_) (by rfl) (by kernel_rfl) (by kernel_rfl) (by kernel_rfl) (fun _ _ _ h => h) (Or.inl ⟨by kernel_rfl, ?_⟩) (by assumption) ?_; rotate_left 1; (focus (intro w hSw; (try dsimp only at hSw); simp only [List.getElem_toArray, List.getElem_cons_succ, List.getElem_cons_zero]; all_goals go_simp; all_goals (try with_reducible rfl))); (try simp only [Act.put, List.getElem_toArray, List.getElem_cons_succ, List.getElem_cons_zero, List.setIfInBounds_toArray, List.set_cons_zero, List.set_cons_succ])
        refine wpAnyH_take (i := 1) (v := ?_) (by rfl) (by kernel_rfl) (by kernel_rfl) (by kernel_rfl) (fun _ _ _ h => h) (Or.inl ⟨by kernel_rfl, ?_⟩) (by assumption) ?_; rotate_left 1; (focus (intro w hSw; (try dsimp only at hSw); simp only [List.getElem_toArray, List.getElem_cons_succ, List.getElem_cons_zero]; all_goals go_simp; all_goals (try with_reducible rfl))); (try simp only [Act.put, List.getElem_toArray, List.getElem_cons_succ, List.getElem_cons_zero, List.setIfInBounds_toArray, List.set_cons_zero, List.set_cons_succ])
        refine wpAnyH_take (i := 2) (v := ?_) (by rfl) (by kernel_rfl) (by kernel_rfl) (by kernel_rfl) (fun _ _ _ h => h) (Or.inl ⟨by kernel_rfl, ?_⟩) (by assumption) ?_; rotate_left 1; (focus (intro w hSw; (try dsimp only at hSw); simp only [List.getElem_toArray, List.getElem_cons_succ, List.getElem_cons_zero]; all_goals go_simp; all_goals (try with_reducible rfl))); (try simp only [Act.put, List.getElem_toArray, List.getElem_cons_succ, List.getElem_cons_zero, List.setIfInBounds_toArray, List.set_cons_zero, List.set_cons_succ])
        refine wpAnyH_take (i := 3) (v := ?_) (by rfl) (by kernel_rfl) (by kernel_rfl) (by kernel_rfl) (fun _ _ _ h => h) (Or.inl ⟨by kernel_rfl, ?_⟩) (by assumption) ?_; rotate_left 1; (focus (intro w hSw; (try dsimp only at hSw); simp only [List.getElem_toArray, List.getElem_cons_succ, List.getElem_cons_zero]; all_goals go_simp; all_goals (try with_reducible rfl))); (try simp only [Act.put, List.getElem_toArray, List.getElem_cons_succ, List.getElem_cons_zero, List.setIfInBounds_toArray, List.set_cons_zero, List.set_cons_succ])
        refine wpAnyH_take (i := 4) (v := ?_) (by rfl) (by kernel_rfl) (by kernel_rfl) (by kernel_rfl) (fun _ _ _ h => h) (Or.inl ⟨by kernel_rfl, ?_⟩) (by assumption) ?_; rotate_left 1; (focus (intro w hSw; (try dsimp only at hSw); simp only [List.getElem_toArray, List.getElem_cons_succ, List.getElem_cons_zero]; all_goals go_simp; all_goals (try with_reducible rfl))); (try simp only [Act.put, List.getElem_toArray, List.getElem_cons_succ, List.getElem_cons_zero, List.setIfInBounds_toArray, List.set_cons_zero, List.set_cons_succ])
        refine wpAnyH_take (i := 5) (v := ?_) (by rfl) (by kernel_rfl) (by kernel_rfl) (by kernel_rfl) (fun _ _ _ h => h) (Or.inl ⟨by kernel_rfl, ?_⟩) (by assumption) ?_; rotate_left 1; (focus (intro w hSw; (try dsimp only at hSw); simp only [List.getElem_toArray, List.getElem_cons_succ, List.getElem_cons_zero]; all_goals go_simp; all_goals (try with_reducible rfl))); (try simp only [Act.put, List.getElem_toArray, List.getElem_cons_succ, List.getElem_cons_zero, List.setIfInBounds_toArray, List.set_cons_zero, List.set_cons_succ])
        refine wpAnyH_take (i := 7) (v := ?_) (by rfl) (by kernel_rfl) (by kernel_rfl) (by kernel_rfl) (fun _ _ _ h => h) (Or.inl ⟨by kernel_rfl, ?_⟩) (by assumption) ?_; rotate_left 1; (focus (intro w hSw; (try dsimp only at hSw); simp only [List.getElem_toArray, List.getElem_cons_succ, List.getElem_cons_zero]; all_goals go_simp; all_goals (try with_reducible rfl))); (try simp only [Act.put, List.getElem_toArray, List.getElem_cons_succ, List.getElem_cons_zero, List.setIfInBounds_toArray, List.set_cons_zero, List.set_cons_succ])
        refine wpAnyH_ready (rs := [6]) (by kernel_rfl) (by simp) ?_; refine AllReadyH.cons (by rfl) (fun K hK => ?_) AllReadyH.nil; rw [if_pos (by kernel_rfl)]; simp only [List.getElem_toArray, List.getElem_cons_succ, List.getElem_cons_zero]
        go_wp2_with (first
          | (go_at_call 88; (with_reducible refine (bowner_live 3 i vi 0 0 L.G2 q' i256 hq' HLv _ HWD.out (HTt.out _ HWD.out)).mono ?_); rintro e w3 ⟨rfl, hb⟩; have HB3 := Lib.hid hb; clear hb))
        refine hK.out _ _ (HS.out _ HB3.out) (fun hHeld => ?_)
        clear hK K
        (try simp only [Act.put, List.getElem_toArray, List.getElem_cons_succ, List.getElem_cons_zero, List.setIfInBounds_toArray, List.set_cons_zero, List.set_cons_succ])
        have HO3 := Lib.hid (HOD.out.below HB3.out)
        have HK3 := Lib.hid (HKD.out.below HB3.out)
        have r0 := HK3.out.c0
        have r1 := HK3.out.c1
        have r2 := HK3.out.c2
        have r3 := HK3.out.c3
        have r4 := HK3.out.c4
        have z0 := HO3.out.o0
        have zf := HO3.out.fr
        by_cases heq : (q' : Int) = (q : Int)
        · have te : ((q' : Int) == (q : Int)) = true := by simpa using heq
          have HE := Lib.hid heq
          clear heq
          refine wpAnyH_take (i := 8) (v := ?_) (by rfl) (by kernel_rfl) (by kernel_rfl) (by kernel_rfl) (fun _ _ _ h => h) (Or.inl ⟨by kernel_rfl, ?_⟩) (by assumption) ?_; rotate_left 1; (focus (intro w hSw; (try dsimp only at hSw); simp only [List.getElem_toArray, List.getElem_cons_succ, List.getElem_cons_zero]; all_goals go_simp; all_goals (try with_reducible rfl))); (try simp only [Act.put, List.getElem_toArray, List.getElem_cons_succ, List.getElem_cons_zero, List.setIfInBounds_toArray, List.set_cons_zero, List.set_cons_succ])
          refine wpAnyH_take (i := 9) (v := ?_) (by rfl) (by kernel_rfl) (by kernel_rfl) (by kernel_rfl) (fun _ _ _ h => h) (Or.inl ⟨by kernel_rfl, ?_⟩) (by assumption) ?_; rotate_left 1; (focus (intro w hSw; (try dsimp only at hSw); simp only [List.getElem_toArray, List.getElem_cons_succ, List.getElem_cons_zero]; all_goals go_simp; all_goals (try with_reducible rfl))); (try simp only [Act.put, List.getElem_toArray, List.getElem_cons_succ, List.getElem_cons_zero, List.setIfInBounds_toArray, List.set_cons_zero, List.set_cons_succ])
          refine wpAnyH_done (by kernel_rfl) ?_ _
          refine NoPanic.normal ?_
          clear hHeld
          obtain ⟨va, vc, hva⟩ := own_shape' HO3.out.row
          subst hva
          have HO4 := Lib.hid (fun X => HO3.out.below ((Below.refl _ _).alloc (Nat.le_refl _) _ : Below w3.heap.size w3 (w3.alloc X)))
          go_wp2_with (first
            | (at_builtin; refine wpList_append_own _ rfl _ _ 35 rfl (ob + 1) 32 i0 (.agg #[.int .i64 0, .int .i64 0, .int .i64 0, .int .i64 0, .int .u32 0]) 5 40 Tryd.underlying35 HI.out.1 HI.out.2.1 HI.out.2.2.1 HI.out.2.2.2 rfl (by decide) _ _ _ rfl (HO4.out _).row ⟨w3.heap.size, 0, none⟩ 1 1 [.int .i64 3, .int .i64 (i : Int), .int .i64 vi, .int .i64 0, .int .u32 0] rfl rfl ok5_at (ok5_one _ _ _ _ _) (by unfold maxLen; omega) (by omega) (by have := HO3.out.lt; simp; omega) ?_; intro v' w5 hown hgrow _; obtain ⟨vb, vd, hvb⟩ := own_shape' hown; subst hvb; have HG5 := Lib.hid ((HO4.out _).grown hgrow hown); clear hown hgrow; have y0 := HG5.out.o0; have yf := HG5.out.fr))
          have HS5 := Lib.hid HG5.out.put
          go_roundw
          case rel => exact ⟨i + 1, _, by omega, by go_num, by rw [oks_yes T o q i HT.out (by rw [Ho.out, HE.out]), okc_snoc, ← List.append_assoc, ← hxs.out, List.length_append, ← Nat.add_assoc, ← hm.out, hvi.out]; exact HS5.out⟩
          case measure => simp [intOf]; omega
        · have te : ((q' : Int) == (q : Int)) = false := by simpa using heq
          have HE := Lib.hid heq
          clear heq
          refine wpAnyH_take (i := 8) (v := ?_) (by rfl) (by kernel_rfl) (by kernel_rfl) (by kernel_rfl) (fun _ _ _ h => h) (Or.inl ⟨by kernel_rfl, ?_⟩) (by assumption) ?_; rotate_left 1; (focus (intro w hSw; (try dsimp only at hSw); simp only [List.getElem_toArray, List.getElem_cons_succ, List.getElem_cons_zero]; all_goals go_simp; all_goals (try with_reducible rfl))); (try simp only [Act.put, List.getElem_toArray, List.getElem_cons_succ, List.getElem_cons_zero, List.setIfInBounds_toArray, List.set_cons_zero, List.set_cons_succ])
          refine wpAnyH_take (i := 9) (v := ?_) (by rfl) (by kernel_rfl) (by kernel_rfl) (by kernel_rfl) (fun _ _ _ h => h) (Or.inl ⟨by kernel_rfl, ?_⟩) (by assumption) ?_; rotate_left 1; (focus (intro w hSw; (try dsimp only at hSw); simp only [List.getElem_toArray, List.getElem_cons_succ, List.getElem_cons_zero]; all_goals go_simp; all_goals (try with_reducible rfl))); (try simp only [Act.put, List.getElem_toArray, List.getElem_cons_succ, List.getElem_cons_zero, List.setIfInBounds_toArray, List.set_cons_zero, List.set_cons_succ])
          refine wpAnyH_done (by kernel_rfl) ?_ _
          refine NoPanic.normal ?_
          clear hHeld
          go_wp2_with fail
          go_roundw
          case rel => exact ⟨i + 1, v, by omega, by go_num, by rw [oks_no T o q i (by rw [Ho.out]; exact HE.out), ← hm.out, ← hxs.out]; exact HO3.out⟩
          case measure => simp [intOf]; omega
      · have hT' : T i = false := by simpa using hT
        have HC := Lib.hid (hno.out i hlt hT')
        have HT := Lib.hid hT'
        clear hT hT'
        go_upto_region 4 with (first
          | (go_at_call 47; (with_reducible refine (HC.out _ HW.out trivial).mono ?_); rintro e w1 ⟨rfl, hb⟩; have HB1 := Lib.hid hb; clear hb))
        obtain ⟨kb, hkb⟩ : ∃ kb, kb = w1.heap.size := ⟨_, rfl⟩
        generalize hw2 : World.alloc w1 _ = w2
        have HB2 : Hid (Below w1.heap.size w1 w2) := Lib.hid (by rw [← hw2]; exact (Below.refl _ _).alloc (Nat.le_refl _) _)
        have HK2 : Hid (KeyC w2 kb 0 0 0 0 0) := Lib.hid (by rw [← hw2, hkb]; exact KeyC.new w1 0 0 0 0 0 _)
        rw [← hkb]
        clear hw2 hkb
        obtain ⟨wD, hwD⟩ : ∃ wD, wD = w2.drew := ⟨_, rfl⟩
        have HBD : Hid (Below wr.heap.size wr wD) := Lib.hid (by rw [hwD]; exact (HB1.out.trans (HB2.out.mono HB1.out.size)).drew)
        have HKD : Hid (KeyC wD kb 0 0 0 0 0) := Lib.hid (by rw [hwD]; exact HK2.out.below (Below.refl _ _).drew)
        have HOD := Lib.hid (HO.out.below HBD.out)
        refine wp_region_noPanic ?_
        refine wp_region_held_drew (S := fun w' => World.cell? w' ⟨kb, 0, none⟩ = some (.int .i64 0)) (by kernel_rfl) (by rw [← hwD]; exact HKD.out.c0) (fun hHeld => ?_)
        rw [← hwD] at hHeld ⊢
        clear hwD
        refine wpAnyH_take (i := 0) (v := ?_) (by rfl) (by kernel_rfl) (by kernel_rfl) (by kernel_rfl) (fun _ _ _ h => h) (Or.inl ⟨by kernel_rfl, ?_⟩) (by assumption) ?_; rotate_left 1; (focus (intro w hSw; (try dsimp only at hSw); simp only [List.getElem_toArray, List.getElem_cons_succ, List.getElem_cons_zero]; all_goals go_simp; all_goals (try with_reducible rfl))); (try simp only [Act.put, List.getElem_toArray, List.getElem_cons_succ, List.getElem_cons_zero, List.setIfInBounds_toArray, List.set_cons_zero, List.set_cons_succ])
        refine wpAnyH_take (i := 1) (v := ?_) (by rfl) (by kernel_rfl) (by kernel_rfl) (by kernel_rfl) (fun _ _ _ h => h) (Or.inl ⟨by kernel_rfl, ?_⟩) (by assumption) ?_; rotate_left 1; (focus (intro w hSw; (try dsimp only at hSw); simp only [List.getElem_toArray, List.getElem_cons_succ, List.getElem_cons_zero]; all_goals go_simp; all_goals (try with_reducible rfl))); (try simp only [Act.put, List.getElem_toArray, List.getElem_cons_succ, List.getElem_cons_zero, List.setIfInBounds_toArray, List.set_cons_zero, List.set_cons_succ])
        refine wpAnyH_take (i := 2) (v := ?_) (by rfl) (by kernel_rfl) (by kernel_rfl) (by kernel_rfl) (fun _ _ _ h => h) (Or.inl ⟨by kernel_rfl, ?_⟩) (by assumption) ?_; rotate_left 1; (focus (intro w hSw; (try dsimp only at hSw); simp only [List.getElem_toArray, List.getElem_cons_succ, List.getElem_cons_zero]; all_goals go_simp; all_goals (try with_reducible rfl))); (try simp only [Act.put, List.getElem_toArray, List.getElem_cons_succ, List.getElem_cons_zero, List.setIfInBounds_toArray, List.set_cons_zero, List.set_cons_succ])
        refine wpAnyH_take (i := 3) (v := ?_) (by rfl) (by kernel_rfl) (by kernel_rfl) (by kernel_rfl) (fun _ _ _ h => h) (Or.inl ⟨by kernel_rfl, ?_⟩) (by assumption) ?_; rotate_left 1; (focus (intro w hSw; (try dsimp only at hSw); simp only [List.getElem_toArray, List.getElem_cons_succ, List.getElem_cons_zero]; all_goals go_simp; all_goals (try with_reducible rfl))); (try simp only [Act.put, List.getElem_toArray, List.getElem_cons_succ, List.getElem_cons_zero, List.setIfInBounds_toArray, List.set_cons_zero, List.set_cons_succ])
        refine wpAnyH_take (i := 4) (v := undef) (by rfl) (by kernel_rfl) (by kernel_rfl) (by kernel_rfl) (fun _ _ _ h => h) (Or.inr ⟨by kernel_rfl, rfl⟩) (by assumption) ?_; (try simp only [Act.put, List.getElem_toArray, List.getElem_cons_succ, List.getElem_cons_zero, List.setIfInBounds_toArray, List.set_cons_zero, List.set_cons_succ])
        refine wpAnyH_take (i := 5) (v := undef) (by rfl) (by kernel_rfl) (by kernel_rfl) (by kernel_rfl) (fun _ _ _ h => h) (Or.inr ⟨by kernel_rfl, rfl⟩) (by assumption) ?_; (try simp only [Act.put, List.getElem_toArray, List.getElem_cons_succ, List.getElem_cons_zero, List.setIfInBounds_toArray, List.set_cons_zero, List.set_cons_succ])
        refine wpAnyH_take (i := 6) (v := undef) (by rfl) (by kernel_rfl) (by kernel_rfl) (by kernel_rfl) (fun _ _ _ h => h) (Or.inr ⟨by kernel_rfl, rfl⟩) (by assumption) ?_; (try simp only [Act.put, List.getElem_toArray, List.getElem_cons_succ, List.getElem_cons_zero, List.setIfInBounds_toArray, List.set_cons_zero, List.set_cons_succ])
        refine wpAnyH_take (i := 7) (v := undef) (by rfl) (by kernel_rfl) (by kernel_rfl) (by kernel_rfl) (fun _ _ _ h => h) (Or.inr ⟨by kernel_rfl, rfl⟩) (by assumption) ?_; (try simp only [Act.put, List.getElem_toArray, List.getElem_cons_succ, List.getElem_cons_zero, List.setIfInBounds_toArray, List.set_cons_zero, List.set_cons_succ])
        refine wpAnyH_take (i := 8) (v := undef) (by rfl) (by kernel_rfl) (by kernel_rfl) (by kernel_rfl) (fun _ _ _ h => h) (Or.inr ⟨by kernel_rfl, rfl⟩) (by assumption) ?_; (try simp only [Act.put, List.getElem_toArray, List.getElem_cons_succ, List.getElem_cons_zero, List.setIfInBounds_toArray, List.set_cons_zero, List.set_cons_succ])
        refine wpAnyH_take (i := 9) (v := ?_) (by rfl) (by kernel_rfl) (by kernel_rfl) (by kernel_rfl) (fun _ _ _ h => h) (Or.inl ⟨by kernel_rfl, ?_⟩) (by assumption) ?_; rotate_left 1; (focus (intro w hSw; (try dsimp only at hSw); simp only [List.getElem_toArray, List.getElem_cons_succ, List.getElem_cons_zero]; all_goals go_simp; all_goals (try with_reducible rfl))); (try simp only [Act.put, List.getElem_toArray, List.getElem_cons_succ, List.getElem_cons_zero, List.setIfInBounds_toArray, List.set_cons_zero, List.set_cons_succ])
        refine wpAnyH_done (by kernel_rfl) ?_ _
        refine NoPanic.normal ?_
        clear hHeld
        go_wp2_with fail
        go_roundw
        case rel => exact ⟨i + 1, v, by omega, by go_num, by rw [oks_dead T o q i HT.out, ← hm.out, ← hxs.out]; exact HOD.out⟩
        case measure => simp [intOf]; omega
    · obtain ⟨rfl⟩ : i = n := (by omega)
      go_wp2_with fail
      go_end0
      exact ⟨rfl, v, by rw [← hm.out, ← hxs.out]; exact HO.out⟩

set_option maxRecDepth 100000 in
set_option maxHeartbeats 2000000 in
theorem badd_node {w0 : World} {L : BLoc} {D : BSt} (M : World) (bb ib ob q n m0 : Nat) (xs0 : List Value) (o vv : Nat → Int) (T : Nat → Bool) (V : Nat → Int) (hn : n ≤ 256) (hm0 : m0 ≤ 1000)
    (hlive : Hid (∀ i, i < n → T i = true → liveK L D 2 (i : Int) (V i) = true))
    (htit : Hid (∀ W, BW w0 W L D → ∀ i, i < n → TiAt W L 2 L.G1 i (o i) (vv i)))
    (how : Hid (∀ i, i < n → T i = true → ∃ q' : Nat, q' < D.nb ∧ o i = (q' : Int) ∧ vv i = V i))
    (hyes : Hid (∀ i, i < n → T i = true → ∀ W, BW w0 W L D → (W.cell? ⟨bb, 0, none⟩ = some (.pointer (some ⟨L.P, 0, none⟩)) ∧ bb < W.heap.size) → Calls Tryd.prog 153 #[.int .i64 (i : Int), .pointer (some ⟨bb, 0, none⟩)] W fun e w' => e = .returned (.agg #[.int .i64 2, .int .i64 (i : Int), .int .i64 (V i), .int .i64 0, .int .u32 0]) ∧ Below W.heap.size W w'))
    (hno : Hid (∀ i, i < n → T i = false → ∀ W, BW w0 W L D → (W.cell? ⟨bb, 0, none⟩ = some (.pointer (some ⟨L.P, 0, none⟩)) ∧ bb < W.heap.size) → Calls Tryd.prog 153 #[.int .i64 (i : Int), .pointer (some ⟨bb, 0, none⟩)] W fun e w' => e = .returned (Value.agg #[.int .i64 0, .int .i64 0, .int .i64 0, .int .i64 0, .int .u32 0]) ∧ Below W.heap.size W w'))
    (hM : BW w0 M L D) (w : World) (v0 : Value) (h : OwS M w L.P bb ib ob q v0 m0 xs0) :
    Calls Tryd.prog 151 #[.int .i64 (n : Int), .func (.func 153) #[] #[.pointer (some ⟨bb, 0, none⟩)], .pointer (some ⟨bb, 0, none⟩), .pointer (some ⟨ib, 0, none⟩), .pointer (some ⟨ob, 0, none⟩)] w fun e w' => e = .returned (.tuple #[]) ∧ ∃ v, OwS M w' L.P bb ib ob q v (m0 + (oks T o q n).length) (xs0 ++ okc 2 V (oks T o q n)) := by
  have H := Lib.hid h
  have HM := Lib.hid hM
  obtain ⟨i0, hi, hz0, hz1, hz2⟩ := info_parts infoKeyO
  have HI := Lib.hid (⟨hi, hz0, hz1, hz2⟩ : Tryd.prog.info? 32 = some i0 ∧ i0.zero = some (.agg #[.int .i64 0, .int .i64 0, .int .i64 0, .int .i64 0, .int .u32 0]) ∧ i0.size = 5 ∧ i0.bytes = 40)
  clear h hM hi hz0 hz1 hz2
  go_enter Tryd.func151, Tryd.ntmps151
  go_wp2_with fail
  go_loopw [10] (fun x wr => ∃ (i : Nat) (v : Value), i ≤ n ∧ x = .int .i64 (i : Int) ∧ OwS M wr L.P bb ib ob q v (m0 + (oks T o q i).length) (xs0 ++ okc 2 V (oks T o q i))) (fun x _ => n - (intOf x).toNat)
  case atStart => exact ⟨0, v0, Nat.zero_le _, rfl, by simpa [oks_zero, okc] using H.out⟩
  case round =>
    obtain ⟨i, v, hin, rfl, hO⟩ := hrel
    have HO := Lib.hid hO
    have HW := Lib.hid (HM.out.below hO.bel)
    clear hO
    have g0 : (0 : Int) ≤ i := by omega
    have hle := oks_len T o q i
    obtain ⟨m, hm⟩ : ∃ m, Hid (m = m0 + (oks T o q i).length) := ⟨_, Lib.hid rfl⟩
    obtain ⟨xs, hxs⟩ : ∃ xs, Hid (xs = xs0 ++ okc 2 V (oks T o q i)) := ⟨_, Lib.hid rfl⟩
    rw [← hm.out, ← hxs.out] at HO
    have hmb : m ≤ 1256 := by have := hm.out; omega
    clear hle
    by_cases hlt : i < n
    · by_cases hT : T i = true
      · obtain ⟨q', hq', ho', hv'⟩ := how.out i hlt hT
        have HLv := Lib.hid (hlive.out i hlt hT)
        have HC := Lib.hid (hyes.out i hlt hT)
        obtain ⟨vi, hvi⟩ : ∃ vi, Hid (V i = vi) := ⟨_, Lib.hid rfl⟩
        have HTt := Lib.hid (fun W hW => by have := htit.out W hW i hlt; rw [ho', hv', hvi.out] at this; exact this)
        rw [hvi.out] at HLv HC
        have HT := Lib.hid hT
        have Ho := Lib.hid ho'
        have i256 : i < 256 := by omega
        clear hT ho' hv'
        go_upto_region 4 with (first
          | (go_at_call 153; (with_reducible refine (HC.out _ HW.out ⟨HO.out.b0, Nat.lt_trans HO.out.nb.2.2.2.1 HO.out.lt⟩).mono ?_); rintro e w1 ⟨rfl, hb⟩; have HB1 := Lib.hid hb; clear hb))
        obtain ⟨kb, hkb⟩ : ∃ kb, kb = w1.heap.size := ⟨_, rfl⟩
        generalize hw2 : World.alloc w1 _ = w2
        have HB2 : Hid (Below w1.heap.size w1 w2) := Lib.hid (by rw [← hw2]; exact (Below.refl _ _).alloc (Nat.le_refl _) _)
        have HK2 : Hid (KeyC w2 kb 2 (i : Int) vi 0 0) := Lib.hid (by rw [← hw2, hkb]; exact KeyC.new w1 2 (i : Int) vi 0 0 _)
        rw [← hkb]
        clear hw2 hkb
        obtain ⟨wD, hwD⟩ : ∃ wD, wD = w2.drew := ⟨_, rfl⟩
        have HBD : Hid (Below wr.heap.size wr wD) := Lib.hid (by rw [hwD]; exact (HB1.out.trans (HB2.out.mono HB1.out.size)).drew)
        have HKD : Hid (KeyC wD kb 2 (i : Int) vi 0 0) := Lib.hid (by rw [hwD]; exact HK2.out.below (Below.refl _ _).drew)
        have HOD := Lib.hid (HO.out.below HBD.out)
        have HWD := Lib.hid (HW.out.below HBD.out)
        have HS : Hid (∀ W, Below wD.heap.size wD W → ((World.cell? W ⟨kb, 0, none⟩ = some (.int .i64 2) ∧ World.cell? W ⟨kb, 1, none⟩ = some (.int .i64 (i : Int)) ∧ World.cell? W ⟨kb, 2, none⟩ = some (.int .i64 vi) ∧ World.cell? W ⟨kb, 3, none⟩ = some (.int .i64 0) ∧ World.cell? W ⟨kb, 4, none⟩ = some (.int .u32 0)) ∧ World.cell? W ⟨bb, 0, none⟩ = some (.pointer (some ⟨L.P, 0, none⟩)) ∧ World.cell? W ⟨ib, 0, none⟩ = some (.int .i64 (q : Int)))) := Lib.hid (fun W hb => ⟨(HKD.out.below hb).k5, (HOD.out.below hb).b0, (HOD.out.below hb).i0⟩)
        refine wp_region_noPanic ?_
        refine wp_region_held_drew (S := fun w' => ((World.cell? w' ⟨kb, 0, none⟩ = some (.int .i64 2) ∧ World.cell? w' ⟨kb, 1, none⟩ = some (.int .i64 (i : Int)) ∧ World.cell? w' ⟨kb, 2, none⟩ = some (.int .i64 vi) ∧ World.cell? w' ⟨kb, 3, none⟩ = some (.int .i64 0) ∧ World.cell? w' ⟨kb, 4, none⟩ = some (.int .u32 0)) ∧ World.cell? w' ⟨bb, 0, none⟩ = some (.pointer (some ⟨L.P, 0, none⟩)) ∧ World.cell? w' ⟨ib, 0, none⟩ = some (.int .i64 (q : Int)))) (by kernel_rfl) (by rw [← hwD]; exact HS.out _ (Below.refl _ _)) (fun hHeld => ?_)
        rw [← hwD] at hHeld ⊢
        clear hwD
        refine wpAnyH_take (i := 0) (v := ?_) (by rfl) (by kernel_rfl) (by kernel_rfl) (by kernel_rfl) (fun _ _ _ h => h) (Or.inl ⟨by kernel_rfl, ?_⟩) (by assumption) ?_; rotate_left 1; (focus (intro w hSw; (try dsimp only at hSw); simp only [List.getElem_toArray, List.getElem_cons_succ, List.getElem_cons_zero]; all_goals go_simp; all_goals (try with_reducible rfl))); (try simp only [Act.put, List.getElem_toArray, List.getElem_cons_succ, List.getElem_cons_zero, List.setIfInBounds_toArray, List.set_cons_zero, List.set_cons_succ])
        refine wpAnyH_take (i := 1) (v := ?_) (by rfl) (by kernel_rfl) (by kernel_rfl) (by kernel_rfl) (fun _ _ _ h => h) (Or.inl ⟨by kernel_rfl, ?_⟩) (by assumption) ?_; rotate_left 1; (focus (intro w hSw; (try dsimp only at hSw); simp only [List.getElem_toArray, List.getElem_cons_succ, List.getElem_cons_zero]; all_goals go_simp; all_goals (try with_reducible rfl))); (try simp only [Act.put, List.getElem_toArray, List.getElem_cons_succ, List.getElem_cons_zero, List.setIfInBounds_toArray, List.set_cons_zero, List.set_cons_succ])
        refine wpAnyH_take (i := 2) (v := ?_) (by rfl) (by kernel_rfl) (by kernel_rfl) (by kernel_rfl) (fun _ _ _ h => h) (Or.inl ⟨by kernel_rfl, ?_⟩) (by assumption) ?_; rotate_left 1; (focus (intro w hSw; (try dsimp only at hSw); simp only [List.getElem_toArray, List.getElem_cons_succ, List.getElem_cons_zero]; all_goals go_simp; all_goals (try with_reducible rfl))); (try simp only [Act.put, List.getElem_toArray, List.getElem_cons_succ, List.getElem_cons_zero, List.setIfInBounds_toArray, List.set_cons_zero, List.set_cons_succ])
        refine wpAnyH_take (i := 3) (v := ?_) (by rfl) (by kernel_rfl) (by kernel_rfl) (by kernel_rfl) (fun _ _ _ h => h) (Or.inl ⟨by kernel_rfl, ?_⟩) (by assumption) ?_; rotate_left 1; (focus (intro w hSw; (try dsimp only at hSw); simp only [List.getElem_toArray, List.getElem_cons_succ, List.getElem_cons_zero]; all_goals go_simp; all_goals (try with_reducible rfl))); (try simp only [Act.put, List.getElem_toArray, List.getElem_cons_succ, List.getElem_cons_zero, List.setIfInBounds_toArray, List.set_cons_zero, List.set_cons_succ])
        refine wpAnyH_take (i := 4) (v := ?_) (by rfl) (by kernel_rfl) (by kernel_rfl) (by kernel_rfl) (fun _ _ _ h => h) (Or.inl ⟨by kernel_rfl, ?_⟩) (by assumption) ?_; rotate_left 1; (focus (intro w hSw; (try dsimp only at hSw); simp only [List.getElem_toArray, List.getElem_cons_succ, List.getElem_cons_zero]; all_goals go_simp; all_goals (try with_reducible rfl))); (try simp only [Act.put, List.getElem_toArray, List.getElem_cons_succ, List.getElem_cons_zero, List.setIfInBounds_toArray, List.set_cons_zero, List.set_cons_succ])
        refine wpAnyH_take (i := 5) (v := ?_) (by rfl) (by kernel_rfl) (by kernel_rfl) (by kernel_rfl) (fun _ _ _ h => h) (Or.inl ⟨by kernel_rfl, ?_⟩) (by assumption) ?_; rotate_left 1; (focus (intro w hSw; (try dsimp only at hSw); simp only [List.getElem_toArray, List.getElem_cons_succ, List.getElem_cons_zero]; all_goals go_simp; all_goals (try with_reducible rfl))); (try simp only [Act.put, List.getElem_toArray, List.getElem_cons_succ, List.getElem_cons_zero, List.setIfInBounds_toArray, List.set_cons_zero, List.set_cons_succ])
        refine wpAnyH_take (i := 7) (v := ?_) (by rfl) (by kernel_rfl) (by kernel_rfl) (by kernel_rfl) (fun _ _ _ h => h) (Or.inl ⟨by kernel_rfl, ?_⟩) (by assumption) ?_; rotate_left 1; (focus (intro w hSw; (try dsimp only at hSw); simp only [List.getElem_toArray, List.getElem_cons_succ, List.getElem_cons_zero]; all_goals go_simp; all_goals (try with_reducible rfl))); (try simp only [Act.put, List.getElem_toArray, List.getElem_cons_succ, List.getElem_cons_zero, List.setIfInBounds_toArray, List.set_cons_zero, List.set_cons_succ])
        refine wpAnyH_ready (rs := [6]) (by kernel_rfl) (by simp) ?_; refine AllReadyH.cons (by rfl) (fun K hK => ?_) AllReadyH.nil; rw [if_pos (by kernel_rfl)]; simp only [List.getElem_toArray, List.getElem_cons_succ, List.getElem_cons_zero]
        go_wp2_with (first
          | (go_at_call 88; (with_reducible refine (bowner_live 2 i vi 0 0 L.G1 q' i256 hq' HLv _ HWD.out (HTt.out _ HWD.out)).mono ?_); rintro e w3 ⟨rfl, hb⟩; have HB3 := Lib.hid hb; clear hb))
        refine hK.out _ _ (HS.out _ HB3.out) (fun hHeld => ?_)
        clear hK K
        (try simp only [Act.put, List.getElem_toArray, List.getElem_cons_succ, List.getElem_cons_zero, List.setIfInBounds_toArray, List.set_cons_zero, List.set_cons_succ])
        have HO3 := Lib.hid (HOD.out.below HB3.out)
        have HK3 := Lib.hid (HKD.out.below HB3.out)
        have r0 := HK3.out.c0
        have r1 := HK3.out.c1
        have r2 := HK3.out.c2
        have r3 := HK3.out.c3
        have r4 := HK3.out.c4
        have z0 := HO3.out.o0
        have zf := HO3.out.fr
        by_cases heq : (q' : Int) = (q : Int)
        · have te : ((q' : Int) == (q : Int)) = true := by simpa using heq
          have HE := Lib.hid heq
          clear heq
          refine wpAnyH_take (i := 8) (v := ?_) (by rfl) (by kernel_rfl) (by kernel_rfl) (by kernel_rfl) (fun _ _ _ h => h) (Or.inl ⟨by kernel_rfl, ?_⟩) (by assumption) ?_; rotate_left 1; (focus (intro w hSw; (try dsimp only at hSw); simp only [List.getElem_toArray, List.getElem_cons_succ, List.getElem_cons_zero]; all_goals go_simp; all_goals (try with_reducible rfl))); (try simp only [Act.put, List.getElem_toArray, List.getElem_cons_succ, List.getElem_cons_zero, List.setIfInBounds_toArray, List.set_cons_zero, List.set_cons_succ])
          refine wpAnyH_take (i := 9) (v := ?_) (by rfl) (by kernel_rfl) (by kernel_rfl) (by kernel_rfl) (fun _ _ _ h => h) (Or.inl ⟨by kernel_rfl, ?_⟩) (by assumption) ?_; rotate_left 1; (focus (intro w hSw; (try dsimp only at hSw); simp only [List.getElem_toArray, List.getElem_cons_succ, List.getElem_cons_zero]; all_goals go_simp; all_goals (try with_reducible rfl))); (try simp only [Act.put, List.getElem_toArray, List.getElem_cons_succ, List.getElem_cons_zero, List.setIfInBounds_toArray, List.set_cons_zero, List.set_cons_succ])
          refine wpAnyH_done (by kernel_rfl) ?_ _
          refine NoPanic.normal ?_
          clear hHeld
          obtain ⟨va, vc, hva⟩ := own_shape' HO3.out.row
          subst hva
          have HO4 := Lib.hid (fun X => HO3.out.below ((Below.refl _ _).alloc (Nat.le_refl _) _ : Below w3.heap.size w3 (w3.alloc X)))
          go_wp2_with (first
            | (at_builtin; refine wpList_append_own _ rfl _ _ 35 rfl (ob + 1) 32 i0 (.agg #[.int .i64 0, .int .i64 0, .int .i64 0, .int .i64 0, .int .u32 0]) 5 40 Tryd.underlying35 HI.out.1 HI.out.2.1 HI.out.2.2.1 HI.out.2.2.2 rfl (by decide) _ _ _ rfl (HO4.out _).row ⟨w3.heap.size, 0, none⟩ 1 1 [.int .i64 2, .int .i64 (i : Int), .int .i64 vi, .int .i64 0, .int .u32 0] rfl rfl ok5_at (ok5_one _ _ _ _ _) (by unfold maxLen; omega) (by omega) (by have := HO3.out.lt; simp; omega) ?_; intro v' w5 hown hgrow _; obtain ⟨vb, vd, hvb⟩ := own_shape' hown; subst hvb; have HG5 := Lib.hid ((HO4.out _).grown hgrow hown); clear hown hgrow; have y0 := HG5.out.o0; have yf := HG5.out.fr))
          have HS5 := Lib.hid HG5.out.put
          go_roundw
          case rel => exact ⟨i + 1, _, by omega, by go_num, by rw [oks_yes T o q i HT.out (by rw [Ho.out, HE.out]), okc_snoc, ← List.append_assoc, ← hxs.out, List.length_append, ← Nat.add_assoc, ← hm.out, hvi.out]; exact HS5.out⟩
          case measure => simp [intOf]; omega
        · have te : ((q' : Int) == (q : Int)) = false := by simpa using heq
          have HE := Lib.hid heq
          clear heq
          refine wpAnyH_take (i := 8) (v := ?_) (by rfl) (by kernel_rfl) (by kernel_rfl) (by kernel_rfl) (fun _ _ _ h => h) (Or.inl ⟨by kernel_rfl, ?_⟩) (by assumption) ?_; rotate_left 1; (focus (intro w hSw; (try dsimp only at hSw); simp only [List.getElem_toArray, List.getElem_cons_succ, List.getElem_cons_zero]; all_goals go_simp; all_goals (try with_reducible rfl))); (try simp only [Act.put, List.getElem_toArray, List.getElem_cons_succ, List.getElem_cons_zero, List.setIfInBounds_toArray, List.set_cons_zero, List.set_cons_succ])
          refine wpAnyH_take (i := 9) (v := ?_) (by rfl) (by kernel_rfl) (by kernel_rfl) (by kernel_rfl) (fun _ _ _ h => h) (Or.inl ⟨by kernel_rfl, ?_⟩) (by assumption) ?_; rotate_left 1; (focus (intro w hSw; (try dsimp only at hSw); simp only [List.getElem_toArray, List.getElem_cons_succ, List.getElem_cons_zero]; all_goals go_simp; all_goals (try with_reducible rfl))); (try simp only [Act.put, List.getElem_toArray, List.getElem_cons_succ, List.getElem_cons_zero, List.setIfInBounds_toArray, List.set_cons_zero, List.set_cons_succ])
          refine wpAnyH_done (by kernel_rfl) ?_ _
          refine NoPanic.normal ?_
          clear hHeld
          go_wp2_with fail
          go_roundw
          case rel => exact ⟨i + 1, v, by omega, by go_num, by rw [oks_no T o q i (by rw [Ho.out]; exact HE.out), ← hm.out, ← hxs.out]; exact HO3.out⟩
          case measure => simp [intOf]; omega
      · have hT' : T i = false := by simpa using hT
        have HC := Lib.hid (hno.out i hlt hT')
        have HT := Lib.hid hT'
        clear hT hT'
        go_upto_region 4 with (first
          | (go_at_call 153; (with_reducible refine (HC.out _ HW.out ⟨HO.out.b0, Nat.lt_trans HO.out.nb.2.2.2.1 HO.out.lt⟩).mono ?_); rintro e w1 ⟨rfl, hb⟩; have HB1 := Lib.hid hb; clear hb))
        obtain ⟨kb, hkb⟩ : ∃ kb, kb = w1.heap.size := ⟨_, rfl⟩
        generalize hw2 : World.alloc w1 _ = w2
        have HB2 : Hid (Below w1.heap.size w1 w2) := Lib.hid (by rw [← hw2]; exact (Below.refl _ _).alloc (Nat.le_refl _) _)
        have HK2 : Hid (KeyC w2 kb 0 0 0 0 0) := Lib.hid (by rw [← hw2, hkb]; exact KeyC.new w1 0 0 0 0 0 _)
        rw [← hkb]
        clear hw2 hkb
        obtain ⟨wD, hwD⟩ : ∃ wD, wD = w2.drew := ⟨_, rfl⟩
        have HBD : Hid (Below wr.heap.size wr wD) := Lib.hid (by rw [hwD]; exact (HB1.out.trans (HB2.out.mono HB1.out.size)).drew)
        have HKD : Hid (KeyC wD kb 0 0 0 0 0) := Lib.hid (by rw [hwD]; exact HK2.out.below (Below.refl _ _).drew)
        have HOD := Lib.hid (HO.out.below HBD.out)
        refine wp_region_noPanic ?_
        refine wp_region_held_drew (S := fun w' => World.cell? w' ⟨kb, 0, none⟩ = some (.int .i64 0)) (by kernel_rfl) (by rw [← hwD]; exact HKD.out.c0) (fun hHeld => ?_)
        rw [← hwD] at hHeld ⊢
        clear hwD
        refine wpAnyH_take (i := 0) (v := ?_) (by rfl) (by kernel_rfl) (by kernel_rfl) (by kernel_rfl) (fun _ _ _ h => h) (Or.inl ⟨by kernel_rfl, ?_⟩) (by assumption) ?_; rotate_left 1; (focus (intro w hSw; (try dsimp only at hSw); simp only [List.getElem_toArray, List.getElem_cons_succ, List.getElem_cons_zero]; all_goals go_simp; all_goals (try with_reducible rfl))); (try simp only [Act.put, List.getElem_toArray, List.getElem_cons_succ, List.getElem_cons_zero, List.setIfInBounds_toArray, List.set_cons_zero, List.set_cons_succ])
        refine wpAnyH_take (i := 1) (v := ?_) (by rfl) (by kernel_rfl) (by kernel_rfl) (by kernel_rfl) (fun _ _ _ h => h) (Or.inl ⟨by kernel_rfl, ?_⟩) (by assumption) ?_; rotate_left 1; (focus (intro w hSw; (try dsimp only at hSw); simp only [List.getElem_toArray, List.getElem_cons_succ, List.getElem_cons_zero]; all_goals go_simp; all_goals (try with_reducible rfl))); (try simp only [Act.put, List.getElem_toArray, List.getElem_cons_succ, List.getElem_cons_zero, List.setIfInBounds_toArray, List.set_cons_zero, List.set_cons_succ])
        refine wpAnyH_take (i := 2) (v := ?_) (by rfl) (by kernel_rfl) (by kernel_rfl) (by kernel_rfl) (fun _ _ _ h => h) (Or.inl ⟨by kernel_rfl, ?_⟩) (by assumption) ?_; rotate_left 1; (focus (intro w hSw; (try dsimp only at hSw); simp only [List.getElem_toArray, List.getElem_cons_succ, List.getElem_cons_zero]; all_goals go_simp; all_goals (try with_reducible rfl))); (try simp only [Act.put, List.getElem_toArray, List.getElem_cons_succ, List.getElem_cons_zero, List.setIfInBounds_toArray, List.set_cons_zero, List.set_cons_succ])
        refine wpAnyH_take (i := 3) (v := ?_) (by rfl) (by kernel_rfl) (by kernel_rfl) (by kernel_rfl) (fun _ _ _ h => h) (Or.inl ⟨by kernel_rfl, ?_⟩) (by assumption) ?_; rotate_left 1; (focus (intro w hSw; (try dsimp only at hSw); simp only [List.getElem_toArray, List.getElem_cons_succ, List.getElem_cons_zero]; all_goals go_simp; all_goals (try with_reducible rfl))); (try simp only [Act.put, List.getElem_toArray, List.getElem_cons_succ, List.getElem_cons_zero, List.setIfInBounds_toArray, List.set_cons_zero, List.set_cons_succ])
        refine wpAnyH_take (i := 4) (v := undef) (by rfl) (by kernel_rfl) (by kernel_rfl) (by kernel_rfl) (fun _ _ _ h => h) (Or.inr ⟨by kernel_rfl, rfl⟩) (by assumption) ?_; (try simp only [Act.put, List.getElem_toArray, List.getElem_cons_succ, List.getElem_cons_zero, List.setIfInBounds_toArray, List.set_cons_zero, List.set_cons_succ])
        refine wpAnyH_take (i := 5) (v := undef) (by rfl) (by kernel_rfl) (by kernel_rfl) (by kernel_rfl) (fun _ _ _ h => h) (Or.inr ⟨by kernel_rfl, rfl⟩) (by assumption) ?_; (try simp only [Act.put, List.getElem_toArray, List.getElem_cons_succ, List.getElem_cons_zero, List.setIfInBounds_toArray, List.set_cons_zero, List.set_cons_succ])
        refine wpAnyH_take (i := 6) (v := undef) (by rfl) (by kernel_rfl) (by kernel_rfl) (by kernel_rfl) (fun _ _ _ h => h) (Or.inr ⟨by kernel_rfl, rfl⟩) (by assumption) ?_; (try simp only [Act.put, List.getElem_toArray, List.getElem_cons_succ, List.getElem_cons_zero, List.setIfInBounds_toArray, List.set_cons_zero, List.set_cons_succ])
        refine wpAnyH_take (i := 7) (v := undef) (by rfl) (by kernel_rfl) (by kernel_rfl) (by kernel_rfl) (fun _ _ _ h => h) (Or.inr ⟨by kernel_rfl, rfl⟩) (by assumption) ?_; (try simp only [Act.put, List.getElem_toArray, List.getElem_cons_succ, List.getElem_cons_zero, List.setIfInBounds_toArray, List.set_cons_zero, List.set_cons_succ])
        refine wpAnyH_take (i := 8) (v := undef) (by rfl) (by kernel_rfl) (by kernel_rfl) (by kernel_rfl) (fun _ _ _ h => h) (Or.inr ⟨by kernel_rfl, rfl⟩) (by assumption) ?_; (try simp only [Act.put, List.getElem_toArray, List.getElem_cons_succ, List.getElem_cons_zero, List.setIfInBounds_toArray, List.set_cons_zero, List.set_cons_succ])
        refine wpAnyH_take (i := 9) (v := ?_) (by rfl) (by kernel_rfl) (by kernel_rfl) (by kernel_rfl) (fun _ _ _ h => h) (Or.inl ⟨by kernel_rfl, ?_⟩) (by assumption) ?_; rotate_left 1; (focus (intro w hSw; (try dsimp only at hSw); simp only [List.getElem_toArray, List.getElem_cons_succ, List.getElem_cons_zero]; all_goals go_simp; all_goals (try with_reducible rfl))); (try simp only [Act.put, List.getElem_toArray, List.getElem_cons_succ, List.getElem_cons_zero, List.setIfInBounds_toArray, List.set_cons_zero, List.set_cons_succ])
        refine wpAnyH_done (by kernel_rfl) ?_ _
        refine NoPanic.normal ?_
        clear hHeld
        go_wp2_with fail
        go_roundw
        case rel => exact ⟨i + 1, v, by omega, by go_num, by rw [oks_dead T o q i HT.out, ← hm.out, ← hxs.out]; exact HOD.out⟩
        case measure => simp [intOf]; omega
    · obtain ⟨rfl⟩ : i = n := (by omega)
      go_wp2_with fail
      go_end0
      exact ⟨rfl, v, by rw [← hm.out, ← hxs.out]; exact HO.out⟩

set_option maxRecDepth 100000 in
set_option maxHeartbeats 2000000 in
theorem badd_dom {w0 : World} {L : BLoc} {D : BSt} (M : World) (bb ib ob q n m0 : Nat) (xs0 : List Value) (o vv : Nat → Int) (T : Nat → Bool) (V : Nat → Int) (hn : n ≤ 256) (hm0 : m0 ≤ 1000)
    (hlive : Hid (∀ i, i < n → T i = true → liveK L D 4 (i : Int) (V i) = true))
    (htit : Hid (∀ W, BW w0 W L D → ∀ i, i < n → TiAt W L 4 L.G3 i (o i) (vv i)))
    (how : Hid (∀ i, i < n → T i = true → ∃ q' : Nat, q' < D.nb ∧ o i = (q' : Int) ∧ vv i = V i))
    (hyes : Hid (∀ i, i < n → T i = true → ∀ W, BW w0 W L D → True → Calls Tryd.prog 67 #[.pointer (some ⟨L.dP, 0, none⟩), .int .i64 (i : Int)] W fun e w' => e = .returned (.agg #[.int .i64 4, .int .i64 (i : Int), .int .i64 (V i), .int .i64 0, .int .u32 0]) ∧ Below W.heap.size W w'))
    (hno : Hid (∀ i, i < n → T i = false → ∀ W, BW w0 W L D → True → Calls Tryd.prog 67 #[.pointer (some ⟨L.dP, 0, none⟩), .int .i64 (i : Int)] W fun e w' => e = .returned (Value.agg #[.int .i64 0, .int .i64 0, .int .i64 0, .int .i64 0, .int .u32 0]) ∧ Below W.heap.size W w'))
    (hM : BW w0 M L D) (w : World) (v0 : Value) (h : OwS M w L.P bb ib ob q v0 m0 xs0) :
    Calls Tryd.prog 151 #[.int .i64 (n : Int), .func (.func 67) #[.pointer (some ⟨L.dP, 0, none⟩)] #[], .pointer (some ⟨bb, 0, none⟩), .pointer (some ⟨ib, 0, none⟩), .pointer (some ⟨ob, 0, none⟩)] w fun e w' => e = .returned (.tuple #[]) ∧ ∃ v, OwS M w' L.P bb ib ob q v (m0 + (oks T o q n).length) (xs0 ++ okc 4 V (oks T o q n)) := by
  have H := Lib.hid h
  have HM := Lib.hid hM
  obtain ⟨i0, hi, hz0, hz1, hz2⟩ := info_parts infoKeyO
  have HI := Lib.hid (⟨hi, hz0, hz1, hz2⟩ : Tryd.prog.info? 32 = some i0 ∧ i0.zero = some (.agg #[.int .i64 0, .int .i64 0, .int .i64 0, .int .i64 0, .int .u32 0]) ∧ i0.size = 5 ∧ i0.bytes = 40)
  clear h hM hi hz0 hz1 hz2
  go_enter Tryd.func151, Tryd.ntmps151
  go_wp2_with fail
  go_loopw [10] (fun x wr => ∃ (i : Nat) (v : Value), i ≤ n ∧ x = .int .i64 (i : Int) ∧ OwS M wr L.P bb ib ob q v (m0 + (oks T o q i).length) (xs0 ++ okc 4 V (oks T o q i))) (fun x _ => n - (intOf x).toNat)
  case atStart => exact ⟨0, v0, Nat.zero_le _, rfl, by simpa [oks_zero, okc] using H.out⟩
  case round =>
    obtain ⟨i, v, hin, rfl, hO⟩ := hrel
    have HO := Lib.hid hO
    have HW := Lib.hid (HM.out.below hO.bel)
    clear hO
    have g0 : (0 : Int) ≤ i := by omega
    have hle := oks_len T o q i
    obtain ⟨m, hm⟩ : ∃ m, Hid (m = m0 + (oks T o q i).length) := ⟨_, Lib.hid rfl⟩
    obtain ⟨xs, hxs⟩ : ∃ xs, Hid (xs = xs0 ++ okc 4 V (oks T o q i)) := ⟨_, Lib.hid rfl⟩
    rw [← hm.out, ← hxs.out] at HO
    have hmb : m ≤ 1256 := by have := hm.out; omega
    clear hle
    by_cases hlt : i < n
    · by_cases hT : T i = true
      · obtain ⟨q', hq', ho', hv'⟩ := how.out i hlt hT
        have HLv := Lib.hid (hlive.out i hlt hT)
        have HC := Lib.hid (hyes.out i hlt hT)
        obtain ⟨vi, hvi⟩ : ∃ vi, Hid (V i = vi) := ⟨_, Lib.hid rfl⟩
        have HTt := Lib.hid (fun W hW => by have := htit.out W hW i hlt; rw [ho', hv', hvi.out] at this; exact this)
        rw [hvi.out] at HLv HC
        have HT := Lib.hid hT
        have Ho := Lib.hid ho'
        have i256 : i < 256 := by omega
        clear hT ho' hv'
        go_upto_region 4 with (first
          | (go_at_call 67; (with_reducible refine (HC.out _ HW.out trivial).mono ?_); rintro e w1 ⟨rfl, hb⟩; have HB1 := Lib.hid hb; clear hb))
        obtain ⟨kb, hkb⟩ : ∃ kb, kb = w1.heap.size := ⟨_, rfl⟩
        generalize hw2 : World.alloc w1 _ = w2
        have HB2 : Hid (Below w1.heap.size w1 w2) := Lib.hid (by rw [← hw2]; exact (Below.refl _ _).alloc (Nat.le_refl _) _)
        have HK2 : Hid (KeyC w2 kb 4 (i : Int) vi 0 0) := Lib.hid (by rw [← hw2, hkb]; exact KeyC.new w1 4 (i : Int) vi 0 0 _)
        rw [← hkb]
        clear hw2 hkb
        obtain ⟨wD, hwD⟩ : ∃ wD, wD = w2.drew := ⟨_, rfl⟩
        have HBD : Hid (Below wr.heap.size wr wD) := Lib.hid (by rw [hwD]; exact (HB1.out.trans (HB2.out.mono HB1.out.size)).drew)
        have HKD : Hid (KeyC wD kb 4 (i : Int) vi 0 0) := Lib.hid (by rw [hwD]; exact HK2.out.below (Below.refl _ _).drew)
        have HOD := Lib.hid (HO.out.below HBD.out)
        have HWD := Lib.hid (HW.out.below HBD.out)
        have HS : Hid (∀ W, Below wD.heap.size wD W → ((World.cell? W ⟨kb, 0, none⟩ = some (.int .i64 4) ∧ World.cell? W ⟨kb, 1, none⟩ = some (.int .i64 (i : Int)) ∧ World.cell? W ⟨kb, 2, none⟩ = some (.int .i64 vi) ∧ World.cell? W ⟨kb, 3, none⟩ = some (.int .i64 0) ∧ World.cell? W ⟨kb, 4, none⟩ = some (.int .u32 0)) ∧ World.cell? W ⟨bb, 0, none⟩ = some (.pointer (some ⟨L.P, 0, none⟩)) ∧ World.cell? W ⟨ib, 0, none⟩ = some (.int .i64 (q : Int)))) := Lib.hid (fun W hb => ⟨(HKD.out.below hb).k5, (HOD.out.below hb).b0, (HOD.out.below hb).i0⟩)
        refine wp_region_noPanic ?_
        refine wp_region_held_drew (S := fun w' => ((World.cell? w' ⟨kb, 0, none⟩ = some (.int .i64 4) ∧ World.cell? w' ⟨kb, 1, none⟩ = some (.int .i64 (i : Int)) ∧ World.cell? w' ⟨kb, 2, none⟩ = some (.int .i64 vi) ∧ World.cell? w' ⟨kb, 3, none⟩ = some (.int .i64 0) ∧ World.cell? w' ⟨kb, 4, none⟩ = some (.int .u32 0)) ∧ World.cell? w' ⟨bb, 0, none⟩ = some (.pointer (some ⟨L.P, 0, none⟩)) ∧ World.cell? w' ⟨ib, 0, none⟩ = some (.int .i64 (q : Int)))) (by kernel_rfl) (by rw [← hwD]; exact HS.out _ (Below.refl _ _)) (fun hHeld => ?_)
        rw [← hwD] at hHeld ⊢
        clear hwD
        refine wpAnyH_take (i := 0) (v := ?_) (by rfl) (by kernel_rfl) (by kernel_rfl) (by kernel_rfl) (fun _ _ _ h => h) (Or.inl ⟨by kernel_rfl, ?_⟩) (by assumption) ?_; rotate_left 1; (focus (intro w hSw; (try dsimp only at hSw); simp only [List.getElem_toArray, List.getElem_cons_succ, List.getElem_cons_zero]; all_goals go_simp; all_goals (try with_reducible rfl))); (try simp only [Act.put, List.getElem_toArray, List.getElem_cons_succ, List.getElem_cons_zero, List.setIfInBounds_toArray, List.set_cons_zero, List.set_cons_succ])
        refine wpAnyH_take (i := 1) (v := ?_) (by rfl) (by kernel_rfl) (by kernel_rfl) (by kernel_rfl) (fun _ _ _ h => h) (Or.inl ⟨by kernel_rfl, ?_⟩) (by assumption) ?_; rotate_left 1; (focus (intro w hSw; (try dsimp only at hSw); simp only [List.getElem_toArray, List.getElem_cons_succ, List.getElem_cons_zero]; all_goals go_simp; all_goals (try with_reducible rfl))); (try simp only [Act.put, List.getElem_toArray, List.getElem_cons_succ, List.getElem_cons_zero, List.setIfInBounds_toArray, List.set_cons_zero, List.set_cons_succ])
        refine wpAnyH_take (i := 2) (v := ?_) (by rfl) (by kernel_rfl) (by kernel_rfl) (by kernel_rfl) (fun _ _ _ h => h) (Or.inl ⟨by kernel_rfl, ?_⟩) (by assumption) ?_; rotate_left 1; (focus (intro w hSw; (try dsimp only at hSw); simp only [List.getElem_toArray, List.getElem_cons_succ, List.getElem_cons_zero]; all_goals go_simp; all_goals (try with_reducible rfl))); (try simp only [Act.put, List.getElem_toArray, List.getElem_cons_succ, List.getElem_cons_zero, List.setIfInBounds_toArray, List.set_cons_zero, List.set_cons_succ])
        refine wpAnyH_take (i := 3) (v := ?_) (by rfl) (by kernel_rfl) (by kernel_rfl) (by kernel_rfl) (fun _ _ _ h => h) (Or.inl ⟨by kernel_rfl, ?_⟩) (by assumption) ?_; rotate_left 1; (focus (intro w hSw; (try dsimp only at hSw); simp only [List.getElem_toArray, List.getElem_cons_succ, List.getElem_cons_zero]; all_goals go_simp; all_goals (try with_reducible rfl))); (try simp only [Act.put, List.getElem_toArray, List.getElem_cons_succ, List.getElem_cons_zero, List.setIfInBounds_toArray, List.set_cons_zero, List.set_cons_succ])
        refine wpAnyH_take (i := 4) (v := ?_) (by rfl) (by kernel_rfl) (by kernel_rfl) (by kernel_rfl) (fun _ _ _ h => h) (Or.inl ⟨by kernel_rfl, ?_⟩) (by assumption) ?_; rotate_left 1; (focus (intro w hSw; (try dsimp only at hSw); simp only [List.getElem_toArray, List.getElem_cons_succ, List.getElem_cons_zero]; all_goals go_simp; all_goals (try with_reducible rfl))); (try simp only [Act.put, List.getElem_toArray, List.getElem_cons_succ, List.getElem_cons_zero, List.setIfInBounds_toArray, List.set_cons_zero, List.set_cons_succ])
        refine wpAnyH_take (i := 5) (v := ?_) (by rfl) (by kernel_rfl) (by kernel_rfl) (by kernel_rfl) (fun _ _ _ h => h) (Or.inl ⟨by kernel_rfl, ?_⟩) (by assumption) ?_; rotate_left 1; (focus (intro w hSw; (try dsimp only at hSw); simp only [List.getElem_toArray, List.getElem_cons_succ, List.getElem_cons_zero]; all_goals go_simp; all_goals (try with_reducible rfl))); (try simp only [Act.put, List.getElem_toArray, List.getElem_cons_succ, List.getElem_cons_zero, List.setIfInBounds_toArray, List.set_cons_zero, List.set_cons_succ])
        refine wpAnyH_take (i := 7) (v := ?_) (by rfl) (by kernel_rfl) (by kernel_rfl) (by kernel_rfl) (fun _ _ _ h => h) (Or.inl ⟨by kernel_rfl, ?_⟩) (by assumption) ?_; rotate_left 1; (focus (intro w hSw; (try dsimp only at hSw); simp only [List.getElem_toArray, List.getElem_cons_succ, List.getElem_cons_zero]; all_goals go_simp; all_goals (try with_reducible rfl))); (try simp only [Act.put, List.getElem_toArray, List.getElem_cons_succ, List.getElem_cons_zero, List.setIfInBounds_toArray, List.set_cons_zero, List.set_cons_succ])
        refine wpAnyH_ready (rs := [6]) (by kernel_rfl) (by simp) ?_; refine AllReadyH.cons (by rfl) (fun K hK => ?_) AllReadyH.nil; rw [if_pos (by kernel_rfl)]; simp only [List.getElem_toArray, List.getElem_cons_succ, List.getElem_cons_zero]
        go_wp2_with (first
          | (go_at_call 88; (with_reducible refine (bowner_live 4 i vi 0 0 L.G3 q' i256 hq' HLv _ HWD.out (HTt.out _ HWD.out)).mono ?_); rintro e w3 ⟨rfl, hb⟩; have HB3 := Lib.hid hb; clear hb))
        refine hK.out _ _ (HS.out _ HB3.out) (fun hHeld => ?_)
        clear hK K
        (try simp only [Act.put, List.getElem_toArray, List.getElem_cons_succ, List.getElem_cons_zero, List.setIfInBounds_toArray, List.set_cons_zero, List.set_cons_succ])
        have HO3 := Lib.hid (HOD.out.below HB3.out)
        have HK3 := Lib.hid (HKD.out.below HB3.out)
        have r0 := HK3.out.c0
        have r1 := HK3.out.c1
        have r2 := HK3.out.c2
        have r3 := HK3.out.c3
        have r4 := HK3.out.c4
        have z0 := HO3.out.o0
        have zf := HO3.out.fr
        by_cases heq : (q' : Int) = (q : Int)
        · have te : ((q' : Int) == (q : Int)) = true := by simpa using heq
          have HE := Lib.hid heq
          clear heq
          refine wpAnyH_take (i := 8) (v := ?_) (by rfl) (by kernel_rfl) (by kernel_rfl) (by kernel_rfl) (fun _ _ _ h => h) (Or.inl ⟨by kernel_rfl, ?_⟩) (by assumption) ?_; rotate_left 1; (focus (intro w hSw; (try dsimp only at hSw); simp only [List.getElem_toArray, List.getElem_cons_succ, List.getElem_cons_zero]; all_goals go_simp; all_goals (try with_reducible rfl))); (try simp only [Act.put, List.getElem_toArray, List.getElem_cons_succ, List.getElem_cons_zero, List.setIfInBounds_toArray, List.set_cons_zero, List.set_cons_succ])
          refine wpAnyH_take (i := 9) (v := ?_) (by rfl) (by kernel_rfl) (by kernel_rfl) (by kernel_rfl) (fun _ _ _ h => h) (Or.inl ⟨by kernel_rfl, ?_⟩) (by assumption) ?_; rotate_left 1; (focus (intro w hSw; (try dsimp only at hSw); simp only [List.getElem_toArray, List.getElem_cons_succ, List.getElem_cons_zero]; all_goals go_simp; all_goals (try with_reducible rfl))); (try simp only [Act.put, List.getElem_toArray, List.getElem_cons_succ, List.getElem_cons_zero, List.setIfInBounds_toArray, List.set_cons_zero, List.set_cons_succ])
          refine wpAnyH_done (by kernel_rfl) ?_ _
          refine NoPanic.normal ?_
          clear hHeld
          obtain ⟨va, vc, hva⟩ := own_shape' HO3.out.row
          subst hva
          have HO4 := Lib.hid (fun X => HO3.out.below ((Below.refl _ _).alloc (Nat.le_refl _) _ : Below w3.heap.size w3 (w3.alloc X)))
          go_wp2_with (first
            | (at_builtin; refine wpList_append_own _ rfl _ _ 35 rfl (ob + 1) 32 i0 (.agg #[.int .i64 0, .int .i64 0, .int .i64 0, .int .i64 0, .int .u32 0]) 5 40 Tryd.underlying35 HI.out.1 HI.out.2.1 HI.out.2.2.1 HI.out.2.2.2 rfl (by decide) _ _ _ rfl (HO4.out _).row ⟨w3.heap.size, 0, none⟩ 1 1 [.int .i64 4, .int .i64 (i : Int), .int .i64 vi, .int .i64 0, .int .u32 0] rfl rfl ok5_at (ok5_one _ _ _ _ _) (by unfold maxLen; omega) (by omega) (by have := HO3.out.lt; simp; omega) ?_; intro v' w5 hown hgrow _; obtain ⟨vb, vd, hvb⟩ := own_shape' hown; subst hvb; have HG5 := Lib.hid ((HO4.out _).grown hgrow hown); clear hown hgrow; have y0 := HG5.out.o0; have yf := HG5.out.fr))
          have HS5 := Lib.hid HG5.out.put
          go_roundw
          case rel => exact ⟨i + 1, _, by omega, by go_num, by rw [oks_yes T o q i HT.out (by rw [Ho.out, HE.out]), okc_snoc, ← List.append_assoc, ← hxs.out, List.length_append, ← Nat.add_assoc, ← hm.out, hvi.out]; exact HS5.out⟩
          case measure => simp [intOf]; omega
        · have te : ((q' : Int) == (q : Int)) = false := by simpa using heq
          have HE := Lib.hid heq
          clear heq
          refine wpAnyH_take (i := 8) (v := ?_) (by rfl) (by kernel_rfl) (by kernel_rfl) (by kernel_rfl) (fun _ _ _ h => h) (Or.inl ⟨by kernel_rfl, ?_⟩) (by assumption) ?_; rotate_left 1; (focus (intro w hSw; (try dsimp only at hSw); simp only [List.getElem_toArray, List.getElem_cons_succ, List.getElem_cons_zero]; all_goals go_simp; all_goals (try with_reducible rfl))); (try simp only [Act.put, List.getElem_toArray, List.getElem_cons_succ, List.getElem_cons_zero, List.setIfInBounds_toArray, List.set_cons_zero, List.set_cons_succ])
          refine wpAnyH_take (i := 9) (v := ?_) (by rfl) (by kernel_rfl) (by kernel_rfl) (by kernel_rfl) (fun _ _ _ h => h) (Or.inl ⟨by kernel_rfl, ?_⟩) (by assumption) ?_; rotate_left 1; (focus (intro w hSw; (try dsimp only at hSw); simp only [List.getElem_toArray, List.getElem_cons_succ, List.getElem_cons_zero]; all_goals go_simp; all_goals (try with_reducible rfl))); (try simp only [Act.put, List.getElem_toArray, List.getElem_cons_succ, List.getElem_cons_zero, List.setIfInBounds_toArray, List.set_cons_zero, List.set_cons_succ])
          refine wpAnyH_done (by kernel_rfl) ?_ _
          refine NoPanic.normal ?_
          clear hHeld
          go_wp2_with fail
          go_roundw
          case rel => exact ⟨i + 1, v, by omega, by go_num, by rw [oks_no T o q i (by rw [Ho.out]; exact HE.out), ← hm.out, ← hxs.out]; exact HO3.out⟩
          case measure => simp [intOf]; omega
      · have hT' : T i = false := by simpa using hT
        have HC := Lib.hid (hno.out i hlt hT')
        have HT := Lib.hid hT'
        clear hT hT'
        go_upto_region 4 with (first
          | (go_at_call 67; (with_reducible refine (HC.out _ HW.out trivial).mono ?_); rintro e w1 ⟨rfl, hb⟩; have HB1 := Lib.hid hb; clear hb))
        obtain ⟨kb, hkb⟩ : ∃ kb, kb = w1.heap.size := ⟨_, rfl⟩
        generalize hw2 : World.alloc w1 _ = w2
        have HB2 : Hid (Below w1.heap.size w1 w2) := Lib.hid (by rw [← hw2]; exact (Below.refl _ _).alloc (Nat.le_refl _) _)
        have HK2 : Hid (KeyC w2 kb 0 0 0 0 0) := Lib.hid (by rw [← hw2, hkb]; exact KeyC.new w1 0 0 0 0 0 _)
        rw [← hkb]
        clear hw2 hkb
        obtain ⟨wD, hwD⟩ : ∃ wD, wD = w2.drew := ⟨_, rfl⟩
        have HBD : Hid (Below wr.heap.size wr wD) := Lib.hid (by rw [hwD]; exact (HB1.out.trans (HB2.out.mono HB1.out.size)).drew)
        have HKD : Hid (KeyC wD kb 0 0 0 0 0) := Lib.hid (by rw [hwD]; exact HK2.out.below (Below.refl _ _).drew)
        have HOD := Lib.hid (HO.out.below HBD.out)
        refine wp_region_noPanic ?_
        refine wp_region_held_drew (S := fun w' => World.cell? w' ⟨kb, 0, none⟩ = some (.int .i64 0)) (by kernel_rfl) (by rw [← hwD]; exact HKD.out.c0) (fun hHeld => ?_)
        rw [← hwD] at hHeld ⊢
        clear hwD
        refine wpAnyH_take (i := 0) (v := ?_) (by rfl) (by kernel_rfl) (by kernel_rfl) (by kernel_rfl) (fun _ _ _ h => h) (Or.inl ⟨by kernel_rfl, ?_⟩) (by assumption) ?_; rotate_left 1; (focus (intro w hSw; (try dsimp only at hSw); simp only [List.getElem_toArray, List.getElem_cons_succ, List.getElem_cons_zero]; all_goals go_simp; all_goals (try with_reducible rfl))); (try simp only [Act.put, List.getElem_toArray, List.getElem_cons_succ, List.getElem_cons_zero, List.setIfInBounds_toArray, List.set_cons_zero, List.set_cons_succ])
        refine wpAnyH_take (i := 1) (v := ?_) (by rfl) (by kernel_rfl) (by kernel_rfl) (by kernel_rfl) (fun _ _ _ h => h) (Or.inl ⟨by kernel_rfl, ?_⟩) (by assumption) ?_; rotate_left 1; (focus (intro w hSw; (try dsimp only at hSw); simp only [List.getElem_toArray, List.getElem_cons_succ, List.getElem_cons_zero]; all_goals go_simp; all_goals (try with_reducible rfl))); (try simp only [Act.put, List.getElem_toArray, List.getElem_cons_succ, List.getElem_cons_zero, List.setIfInBounds_toArray, List.set_cons_zero, List.set_cons_succ])
        refine wpAnyH_take (i := 2) (v := ?_) (by rfl) (by kernel_rfl) (by kernel_rfl) (by kernel_rfl) (fun _ _ _ h => h) (Or.inl ⟨by kernel_rfl, ?_⟩) (by assumption) ?_; rotate_left 1; (focus (intro w hSw; (try dsimp only at hSw); simp only [List.getElem_toArray, List.getElem_cons_succ, List.getElem_cons_zero]; all_goals go_simp; all_goals (try with_reducible rfl))); (try simp only [Act.put, List.getElem_toArray, List.getElem_cons_succ, List.getElem_cons_zero, List.setIfInBounds_toArray, List.set_cons_zero, List.set_cons_succ])
        refine wpAnyH_take (i := 3) (v := ?_) (by rfl) (by kernel_rfl) (by kernel_rfl) (by kernel_rfl) (fun _ _ _ h => h) (Or.inl ⟨by kernel_rfl, ?_⟩) (by assumption) ?_; rotate_left 1; (focus (intro w hSw; (try dsimp only at hSw); simp only [List.getElem_toArray, List.getElem_cons_succ, List.getElem_cons_zero]; all_goals go_simp; all_goals (try with_reducible rfl))); (try simp only [Act.put, List.getElem_toArray, List.getElem_cons_succ, List.getElem_cons_zero, List.setIfInBounds_toArray, List.set_cons_zero, List.set_cons_succ])
        refine wpAnyH_take (i := 4) (v := undef) (by rfl) (by kernel_rfl) (by kernel_rfl) (by kernel_rfl) (fun _ _ _ h => h) (Or.inr ⟨by kernel_rfl, rfl⟩) (by assumption) ?_; (try simp only [Act.put, List.getElem_toArray, List.getElem_cons_succ, List.getElem_cons_zero, List.setIfInBounds_toArray, List.set_cons_zero, List.set_cons_succ])
        refine wpAnyH_take (i := 5) (v := undef) (by rfl) (by kernel_rfl) (by kernel_rfl) (by kernel_rfl) (fun _ _ _ h => h) (Or.inr ⟨by kernel_rfl, rfl⟩) (by assumption) ?_; (try simp only [Act.put, List.getElem_toArray, List.getElem_cons_succ, List.getElem_cons_zero, List.setIfInBounds_toArray, List.set_cons_zero, List.set_cons_succ])
        refine wpAnyH_take (i := 6) (v := undef) (by rfl) (by kernel_rfl) (by kernel_rfl) (by kernel_rfl) (fun _ _ _ h => h) (Or.inr ⟨by kernel_rfl, rfl⟩) (by assumption) ?_; (try simp only [Act.put, List.getElem_toArray, List.getElem_cons_succ, List.getElem_cons_zero, List.setIfInBounds_toArray, List.set_cons_zero, List.set_cons_succ])
        refine wpAnyH_take (i := 7) (v := undef) (by rfl) (by kernel_rfl) (by kernel_rfl) (by kernel_rfl) (fun _ _ _ h => h) (Or.inr ⟨by kernel_rfl, rfl⟩) (by assumption) ?_; (try simp only [Act.put, List.getElem_toArray, List.getElem_cons_succ, List.getElem_cons_zero, List.setIfInBounds_toArray, List.set_cons_zero, List.set_cons_succ])
        refine wpAnyH_take (i := 8) (v := undef) (by rfl) (by kernel_rfl) (by kernel_rfl) (by kernel_rfl) (fun _ _ _ h => h) (Or.inr ⟨by kernel_rfl, rfl⟩) (by assumption) ?_; (try simp only [Act.put, List.getElem_toArray, List.getElem_cons_succ, List.getElem_cons_zero, List.setIfInBounds_toArray, List.set_cons_zero, List.set_cons_succ])
        refine wpAnyH_take (i := 9) (v := ?_) (by rfl) (by kernel_rfl) (by kernel_rfl) (by kernel_rfl) (fun _ _ _ h => h) (Or.inl ⟨by kernel_rfl, ?_⟩) (by assumption) ?_; rotate_left 1; (focus (intro w hSw; (try dsimp only at hSw); simp only [List.getElem_toArray, List.getElem_cons_succ, List.getElem_cons_zero]; all_goals go_simp; all_goals (try with_reducible rfl))); (try simp only [Act.put, List.getElem_toArray, List.getElem_cons_succ, List.getElem_cons_zero, List.setIfInBounds_toArray, List.set_cons_zero, List.set_cons_succ])
        refine wpAnyH_done (by kernel_rfl) ?_ _
        refine NoPanic.normal ?_
        clear hHeld
        go_wp2_with fail
        go_roundw
        case rel => exact ⟨i + 1, v, by omega, by go_num, by rw [oks_dead T o q i HT.out, ← hm.out, ← hxs.out]; exact HOD.out⟩
        case measure => simp [intOf]; omega
    · obtain ⟨rfl⟩ : i = n := (by omega)
      go_wp2_with fail
      go_end0
      exact ⟨rfl, v, by rw [← hm.out, ← hxs.out]; exact HO.out⟩
end Go.Proofs.YtkogmhgpkacehaaDoor
namespace Go.Proofs.YtkogmhgpkacehaaDoor
open Go.ChangeShapes Go.WideShapes Go.ChangeAt Go.RowKit
set_option linter.unusedVariables false
set_option linter.unusedSimpArgs false
/-- Each thing that is there is a bank's, by a title as it is now. -/
structure OwI (L : BLoc) (D : BSt) : Prop where
  n : ∀ i, i < L.a.n → D.nt i = true → ∃ q' : Nat, q' < D.nb ∧ D.o1 i = (q' : Int) ∧ D.v1 i = D.nv i
  p : ∀ i, i < L.b.n → D.pt i = true → ∃ q' : Nat, q' < D.nb ∧ D.o2 i = (q' : Int) ∧ D.v2 i = D.pv i
  d : ∀ i, i < L.dn → D.dt i = true → ∃ q' : Nat, q' < D.nb ∧ D.o3 i = (q' : Int) ∧ D.v3 i = D.dv i
/-- What is bank q's, in numbers, and its keys. -/
def ownN (L : BLoc) (D : BSt) (q : Nat) : Nat := (oks D.nt D.o1 q L.a.n).length + (oks D.pt D.o2 q L.b.n).length + (oks D.dt D.o3 q L.dn).length
def ownK (L : BLoc) (D : BSt) (q : Nat) : List Value := okc 2 D.nv (oks D.nt D.o1 q L.a.n) ++ okc 3 D.pv (oks D.pt D.o2 q L.b.n) ++ okc 4 D.dv (oks D.dt D.o3 q L.dn)
section
variable {w0 w w' : World} {L : BLoc} {D : BSt}
theorem BW.titl1 (h : BW w0 w L D) (j : Nat) (hj : j < 256) : TiAt w L 2 L.G1 j (D.o1 j) (D.v1 j) := ⟨.inl ⟨rfl, rfl⟩, h.kk.t1.lt.2, (h.kk.t1.ti j hj).1, (h.kk.t1.ti j hj).2⟩
theorem BW.titl2 (h : BW w0 w L D) (j : Nat) (hj : j < 256) : TiAt w L 3 L.G2 j (D.o2 j) (D.v2 j) := ⟨.inr (.inl ⟨rfl, rfl⟩), h.kk.t2.lt.2, (h.kk.t2.ti j hj).1, (h.kk.t2.ti j hj).2⟩
theorem BW.titl3 (h : BW w0 w L D) (j : Nat) (hj : j < 256) : TiAt w L 4 L.G3 j (D.o3 j) (D.v3 j) := ⟨.inr (.inr ⟨by decide, by decide, rfl⟩), h.kk.t3.lt.2, (h.kk.t3.ti j hj).1, (h.kk.t3.ti j hj).2⟩
theorem liveK2 (i : Nat) (hi : i < L.a.n) (ht : D.nt i = true) : liveK L D 2 (i : Int) (D.nv i) = true := by simp [liveK, thereB, hi, ht]
theorem liveK3 (i : Nat) (hi : i < L.b.n) (ht : D.pt i = true) : liveK L D 3 (i : Int) (D.pv i) = true := by simp [liveK, thereB, hi, ht]
theorem liveK4 (i : Nat) (hi : i < L.dn) (ht : D.dt i = true) : liveK L D 4 (i : Int) (D.dv i) = true := by simp [liveK, thereB, hi, ht]
theorem badd_n (M : World) (bb ib ob q m0 : Nat) (xs0 : List Value) (hm0 : m0 ≤ 1000) (ho : OwI L D) (hM : BW w0 M L D) (w : World) (v0 : Value) (h : OwS M w L.P bb ib ob q v0 m0 xs0) :
    Calls Tryd.prog 151 #[.int .i64 (L.a.n : Int), .func (.func 153) #[] #[.pointer (some ⟨bb, 0, none⟩)], .pointer (some ⟨bb, 0, none⟩), .pointer (some ⟨ib, 0, none⟩), .pointer (some ⟨ob, 0, none⟩)] w fun e w' => e = .returned (.tuple #[]) ∧ ∃ v, OwS M w' L.P bb ib ob q v (m0 + (oks D.nt D.o1 q L.a.n).length) (xs0 ++ okc 2 D.nv (oks D.nt D.o1 q L.a.n)) :=
  badd_node M bb ib ob q L.a.n m0 xs0 D.o1 D.v1 D.nt D.nv hM.an hm0 (Lib.hid liveK2) (Lib.hid (fun W hW i hi => hW.titl1 i (by have := hW.an; omega))) (Lib.hid ho.n)
    (Lib.hid (fun i hi ht W hW hb => owned2_of bb (i : Int) 2 (i : Int) (D.nv i) 0 0 W hW hb.1 hb.2 (fun W2 hb2 => snodekey_in (i : Int) 0 i (Lib.hid rfl) (by decide) (by decide) hi (Lib.hid ht) _ (Lib.hid rfl) W2 (hW.below hb2).mm.sv.st)))
    (Lib.hid (fun i hi ht W hW hb => owned2_of bb (i : Int) 0 0 0 0 0 W hW hb.1 hb.2 (fun W2 hb2 => snodekey_dead (i : Int) 0 i (Lib.hid rfl) (Lib.hid ht) W2 (hW.below hb2).mm.sv.st)))
    hM w v0 h
theorem badd_p (M : World) (bb ib ob q m0 : Nat) (xs0 : List Value) (hm0 : m0 ≤ 1000) (ho : OwI L D) (hM : BW w0 M L D) (w : World) (v0 : Value) (h : OwS M w L.P bb ib ob q v0 m0 xs0) :
    Calls Tryd.prog 151 #[.int .i64 (L.b.n : Int), .func (.func 47) #[.pointer (some ⟨L.S, 0, none⟩)] #[], .pointer (some ⟨bb, 0, none⟩), .pointer (some ⟨ib, 0, none⟩), .pointer (some ⟨ob, 0, none⟩)] w fun e w' => e = .returned (.tuple #[]) ∧ ∃ v, OwS M w' L.P bb ib ob q v (m0 + (oks D.pt D.o2 q L.b.n).length) (xs0 ++ okc 3 D.pv (oks D.pt D.o2 q L.b.n)) :=
  badd_page M bb ib ob q L.b.n m0 xs0 D.o2 D.v2 D.pt D.pv hM.pn hm0 (Lib.hid liveK3) (Lib.hid (fun W hW i hi => hW.titl2 i (by have := hW.pn; omega))) (Lib.hid ho.p)
    (Lib.hid (fun i hi ht W hW _ => spagekey_in (i : Int) i (Lib.hid rfl) hi (Lib.hid ht) _ (Lib.hid rfl) W hW.mm.sv.st))
    (Lib.hid (fun i hi ht W hW _ => spagekey_dead (i : Int) i (Lib.hid rfl) (Lib.hid ht) W hW.mm.sv.st))
    hM w v0 h
theorem badd_d (M : World) (bb ib ob q m0 : Nat) (xs0 : List Value) (hm0 : m0 ≤ 1000) (ho : OwI L D) (hM : BW w0 M L D) (w : World) (v0 : Value) (h : OwS M w L.P bb ib ob q v0 m0 xs0) :
    Calls Tryd.prog 151 #[.int .i64 (L.dn : Int), .func (.func 67) #[.pointer (some ⟨L.dP, 0, none⟩)] #[], .pointer (some ⟨bb, 0, none⟩), .pointer (some ⟨ib, 0, none⟩), .pointer (some ⟨ob, 0, none⟩)] w fun e w' => e = .returned (.tuple #[]) ∧ ∃ v, OwS M w' L.P bb ib ob q v (m0 + (oks D.dt D.o3 q L.dn).length) (xs0 ++ okc 4 D.dv (oks D.dt D.o3 q L.dn)) :=
  badd_dom M bb ib ob q L.dn m0 xs0 D.o3 D.v3 D.dt D.dv hM.dn256 hm0 (Lib.hid liveK4) (Lib.hid (fun W hW i hi => hW.titl3 i (by have := hW.dn256; omega))) (Lib.hid ho.d)
    (Lib.hid (fun i hi ht W hW _ => dkey_of (i : Int) 4 (i : Int) (D.dv i) 0 0 W (fun W2 hb2 => dkeyof_in 4 (i : Int) 0 i (Lib.hid rfl) hi (Lib.hid ht) (by decide) _ (Lib.hid rfl) W2 (hW.below hb2).dd)))
    (Lib.hid (fun i hi ht W hW _ => dkey_of (i : Int) 0 0 0 0 0 W (fun W2 hb2 => dkeyof_dead 4 (i : Int) 0 i (Lib.hid rfl) (Lib.hid ht) W2 (hW.below hb2).dd)))
    hM w v0 h
end
set_option maxRecDepth 100000 in
set_option maxHeartbeats 2000000 in
theorem bowned_is {w0 : World} {L : BLoc} {D : BSt} (q : Nat) (hq : q < D.nb) (ho : OwI L D) (w : World) (h : BW w0 w L D) :
    Calls Tryd.prog 82 #[.pointer (some ⟨L.P, 0, none⟩), .int .i64 (q : Int)] w fun e w' => ∃ v, e = .returned v ∧ Below w.heap.size w w' ∧ w'.ownsRow w.heap.size 32 5 v (ownN L D q) (ownK L D q) := by
  have H := Lib.hid h
  have HO := Lib.hid ho
  have hn := h.n256
  have hnn := h.nn
  have hq256 : q < L.n := by omega
  have l1 := oks_len D.nt D.o1 q L.a.n
  have l2 := oks_len D.pt D.o2 q L.b.n
  have L1 : Hid (0 + (oks D.nt D.o1 q L.a.n).length ≤ 1000) := Lib.hid (by have := h.an; omega)
  have L2 : Hid (0 + (oks D.nt D.o1 q L.a.n).length + (oks D.pt D.o2 q L.b.n).length ≤ 1000) := Lib.hid (by have := h.an; have := h.pn; omega)
  have HTh : Hid (thN D.nb q = true) := Lib.hid (thN_at hq)
  clear l1 l2 h ho
  go_enter Tryd.func82, Tryd.ntmps82
  go_upto_region 1 with fail
  generalize hw2 : World.alloc (World.alloc w _) _ = w2
  obtain ⟨bb, hbb⟩ : ∃ bb, Hid (bb = w.heap.size) := ⟨_, Lib.hid rfl⟩
  have HB2 : Hid (Below w.heap.size w w2) := Lib.hid (by rw [← hw2]; exact ((Below.refl _ _).alloc (Nat.le_refl _) _).alloc (by simp) _)
  have HC2 : Hid (w2.cell? ⟨bb, 0, none⟩ = some (.pointer (some ⟨L.P, 0, none⟩)) ∧ w2.cell? ⟨bb + 1, 0, none⟩ = some (.int .i64 (q : Int)) ∧ w2.heap.size = bb + 2) := Lib.hid (by rw [← hw2, hbb.out]; simp)
  rw [← hbb.out]
  clear hw2
  obtain ⟨wD, hwD⟩ : ∃ wD, wD = w2.drew := ⟨_, rfl⟩
  have HBD : Hid (Below w.heap.size w wD) := Lib.hid (by rw [hwD]; exact HB2.out.drew)
  have HCD : Hid (wD.cell? ⟨bb, 0, none⟩ = some (.pointer (some ⟨L.P, 0, none⟩)) ∧ wD.cell? ⟨bb + 1, 0, none⟩ = some (.int .i64 (q : Int)) ∧ wD.heap.size = bb + 2) := Lib.hid (by rw [hwD]; exact HC2.out)
  have HWD := Lib.hid (H.out.below HBD.out)
  refine wp_region_noPanic ?_
  refine wp_region_held_drew (S := fun w' => (World.cell? w' ⟨bb, 0, none⟩ = some (.pointer (some ⟨L.P, 0, none⟩)) ∧ World.cell? w' ⟨bb + 1, 0, none⟩ = some (.int .i64 (q : Int)) ∧ World.cell? w' ⟨L.P, 0, none⟩ = some (.pointer (some ⟨L.p, 0, none⟩)))) (by kernel_rfl) (by rw [← hwD]; exact ⟨HCD.out.1, HCD.out.2.1, HWD.out.kk.f0⟩) (fun hHeld => ?_)
  rw [← hwD] at hHeld ⊢
  clear hwD
  refine wpAnyH_take (i := 0) (v := ?_) (by rfl) (by kernel_rfl) (by kernel_rfl) (by kernel_rfl) (fun _ _ _ h => h) (Or.inl ⟨by kernel_rfl, ?_⟩) (by assumption) ?_; rotate_left 1; (focus (intro w hSw; (try dsimp only at hSw); simp only [List.getElem_toArray, List.getElem_cons_succ, List.getElem_cons_zero]; all_goals go_simp; all_goals (try with_reducible rfl))); (try simp only [Act.put, List.getElem_toArray, List.getElem_cons_succ, List.getElem_cons_zero, List.setIfInBounds_toArray, List.set_cons_zero, List.set_cons_succ])
  refine wpAnyH_take (i := 1) (v := ?_) (by rfl) (by kernel_rfl) (by kernel_rfl) (by kernel_rfl) (fun _ _ _ h => h) (Or.inl ⟨by kernel_rfl, ?_⟩) (by assumption) ?_; rotate_left 1; (focus (intro w hSw; (try dsimp only at hSw); simp only [List.getElem_toArray, List.getElem_cons_succ, List.getElem_cons_zero]; all_goals go_simp; all_goals (try with_reducible rfl))); (try simp only [Act.put, List.getElem_toArray, List.getElem_cons_succ, List.getElem_cons_zero, List.setIfInBounds_toArray, List.set_cons_zero, List.set_cons_succ])
  refine wpAnyH_take (i := 2) (v := ?_) (by rfl) (by kernel_rfl) (by kernel_rfl) (by kernel_rfl) (fun _ _ _ h => h) (Or.inl ⟨by kernel_rfl, ?_⟩) (by assumption) ?_; rotate_left 1; (focus (intro w hSw; (try dsimp only at hSw); simp only [List.getElem_toArray, List.getElem_cons_succ, List.getElem_cons_zero]; all_goals go_simp; all_goals (try with_reducible rfl))); (try simp only [Act.put, List.getElem_toArray, List.getElem_cons_succ, List.getElem_cons_zero, List.setIfInBounds_toArray, List.set_cons_zero, List.set_cons_succ])
  refine wpAnyH_take (i := 3) (v := ?_) (by rfl) (by kernel_rfl) (by kernel_rfl) (by kernel_rfl) (fun _ _ _ h => h) (Or.inl ⟨by kernel_rfl, ?_⟩) (by assumption) ?_; rotate_left 1; (focus (intro w hSw; (try dsimp only at hSw); simp only [List.getElem_toArray, List.getElem_cons_succ, List.getElem_cons_zero]; all_goals go_simp; all_goals (try with_reducible rfl))); (try simp only [Act.put, List.getElem_toArray, List.getElem_cons_succ, List.getElem_cons_zero, List.setIfInBounds_toArray, List.set_cons_zero, List.set_cons_succ])
  refine wpAnyH_take (i := 4) (v := ?_) (by rfl) (by kernel_rfl) (by kernel_rfl) (by kernel_rfl) (fun _ _ _ h => h) (Or.inl ⟨by kernel_rfl, ?_⟩) (by assumption) ?_; rotate_left 1; (focus (intro w hSw; (try dsimp only at hSw); simp only [List.getElem_toArray, List.getElem_cons_succ, List.getElem_cons_zero]; all_goals go_simp; all_goals (try with_reducible rfl))); (try simp only [Act.put, List.getElem_toArray, List.getElem_cons_succ, List.getElem_cons_zero, List.setIfInBounds_toArray, List.set_cons_zero, List.set_cons_succ])
  refine wpAnyH_ready (rs := [5]) (by kernel_rfl) (by simp) ?_; refine AllReadyH.cons (by rfl) (fun K hK => ?_) AllReadyH.nil; rw [if_pos (by kernel_rfl)]; simp only [List.getElem_toArray, List.getElem_cons_succ, List.getElem_cons_zero]
  go_wp2_with (first
    | (go_at_call 25; (with_reducible refine (athere_in q hq256 true HTh _ HWD.out.kk.ar).mono ?_); rintro e w1 ⟨rfl, rfl⟩))
  refine hK.out _ _ ⟨HCD.out.1, HCD.out.2.1, HWD.out.kk.f0⟩ (fun hHeld => ?_)
  clear hK K
  (try simp only [Act.put, List.getElem_toArray, List.getElem_cons_succ, List.getElem_cons_zero, List.setIfInBounds_toArray, List.set_cons_zero, List.set_cons_succ])
  refine wpAnyH_take (i := 6) (v := ?_) (by rfl) (by kernel_rfl) (by kernel_rfl) (by kernel_rfl) (fun _ _ _ h => h) (Or.inl ⟨by kernel_rfl, ?_⟩) (by assumption) ?_; rotate_left 1; (focus (intro w hSw; (try dsimp only at hSw); simp only [List.getElem_toArray, List.getElem_cons_succ, List.getElem_cons_zero]; all_goals go_simp; all_goals (try with_reducible rfl))); (try simp only [Act.put, List.getElem_toArray, List.getElem_cons_succ, List.getElem_cons_zero, List.setIfInBounds_toArray, List.set_cons_zero, List.set_cons_succ])
  refine wpAnyH_done (by kernel_rfl) ?_ _
  refine NoPanic.normal ?_
  clear hHeld
  go_upto_region 4 with fail
  generalize hw3 : World.alloc wD _ = w3
  rw [HCD.out.2.2]
  have HS3 : Hid (OwS w w3 L.P bb (bb + 1) (bb + 2) q (.slice none 0 0) 0 []) := Lib.hid (by
    have hx := hbb.out
    have hsz := HCD.out.2.2
    have h0 : wD.heap.size < w3.heap.size := by rw [← hw3]; simp
    have hb3 : Below wD.heap.size wD w3 := by rw [← hw3]; exact (Below.refl _ _).alloc (Nat.le_refl _) _
    refine ⟨HBD.out.trans (hb3.mono HBD.out.size), ⟨by omega, by omega, by omega, by omega, by omega⟩, by omega, (hb3.cell (p := ⟨bb, 0, none⟩) (by show bb < wD.heap.size; omega)).trans HCD.out.1, (hb3.cell (p := ⟨bb + 1, 0, none⟩) (by show bb + 1 < wD.heap.size; omega)).trans HCD.out.2.1, ?_, ?_, World.ownsRow_nil _ _ _ _⟩
    · rw [← hsz, ← hw3]; simp
    · rw [← hsz, ← hw3]; simp)
  have HB3 : Hid (Below w.heap.size w w3) := Lib.hid HS3.out.bel
  have HW3 := Lib.hid (H.out.below HB3.out)
  clear hw3
  have c0 := HS3.out.b0
  have f1 := HW3.out.kk.f1
  have m0 := HW3.out.mm.m0
  have s0 := HW3.out.mm.sv.st.s0
  have p0 := HW3.out.mm.sv.st.nd.f0
  go_upto_region 6 with (first
    | (go_at_call 152; (with_reducible refine (acap_is _ HW3.out.mm.sv.st.nd.ar).mono ?_); rintro e w1 ⟨rfl, rfl⟩)
    | (go_at_call 151; (with_reducible refine (badd_n w bb (bb + 1) (bb + 2) q 0 [] (by decide) HO.out H.out _ _ HS3.out).mono ?_); rintro e w4 ⟨rfl, v4, h4⟩; have HS4 := Lib.hid h4; clear h4 c0 f1 m0 s0 p0))
  obtain ⟨wE, hwE⟩ : ∃ wE, wE = w4.drew := ⟨_, rfl⟩
  have HSE := Lib.hid (HS4.out.below (by rw [hwE]; exact (Below.refl _ _).drew) : OwS w wE L.P bb (bb + 1) (bb + 2) q v4 _ _)
  have HWE := Lib.hid (H.out.below HSE.out.bel)
  refine wp_region_noPanic ?_
  refine wp_region_held_drew (S := fun w' => (World.cell? w' ⟨bb, 0, none⟩ = some (.pointer (some ⟨L.P, 0, none⟩)) ∧ World.cell? w' ⟨L.P, 1, none⟩ = some (.pointer (some ⟨L.mb, 0, none⟩)) ∧ World.cell? w' ⟨L.mb, 0, none⟩ = some (.pointer (some ⟨L.S, 0, none⟩)) ∧ World.cell? w' ⟨L.S, 1, none⟩ = some (.pointer (some ⟨L.b.P, 0, none⟩)) ∧ World.cell? w' ⟨L.b.P, 0, none⟩ = some (.pointer (some ⟨L.b.p, 0, none⟩)))) (by kernel_rfl) (by rw [← hwE]; exact ⟨HSE.out.b0, HWE.out.kk.f1, HWE.out.mm.m0, HWE.out.mm.sv.st.s1, HWE.out.mm.sv.st.pg.f0⟩) (fun hHeld => ?_)
  rw [← hwE] at hHeld ⊢
  clear hwE
  refine wpAnyH_take (i := 0) (v := ?_) (by rfl) (by kernel_rfl) (by kernel_rfl) (by kernel_rfl) (fun _ _ _ h => h) (Or.inl ⟨by kernel_rfl, ?_⟩) (by assumption) ?_; rotate_left 1; (focus (intro w hSw; (try dsimp only at hSw); simp only [List.getElem_toArray, List.getElem_cons_succ, List.getElem_cons_zero]; all_goals go_simp; all_goals (try with_reducible rfl))); (try simp only [Act.put, List.getElem_toArray, List.getElem_cons_succ, List.getElem_cons_zero, List.setIfInBounds_toArray, List.set_cons_zero, List.set_cons_succ])
  refine wpAnyH_take (i := 1) (v := ?_) (by rfl) (by kernel_rfl) (by kernel_rfl) (by kernel_rfl) (fun _ _ _ h => h) (Or.inl ⟨by kernel_rfl, ?_⟩) (by assumption) ?_; rotate_left 1; (focus (intro w hSw; (try dsimp only at hSw); simp only [List.getElem_toArray, List.getElem_cons_succ, List.getElem_cons_zero]; all_goals go_simp; all_goals (try with_reducible rfl))); (try simp only [Act.put, List.getElem_toArray, List.getElem_cons_succ, List.getElem_cons_zero, List.setIfInBounds_toArray, List.set_cons_zero, List.set_cons_succ])
  refine wpAnyH_take (i := 2) (v := ?_) (by rfl) (by kernel_rfl) (by kernel_rfl) (by kernel_rfl) (fun _ _ _ h => h) (Or.inl ⟨by kernel_rfl, ?_⟩) (by assumption) ?_; rotate_left 1; (focus (intro w hSw; (try dsimp only at hSw); simp only [List.getElem_toArray, List.getElem_cons_succ, List.getElem_cons_zero]; all_goals go_simp; all_goals (try with_reducible rfl))); (try simp only [Act.put, List.getElem_toArray, List.getElem_cons_succ, List.getElem_cons_zero, List.setIfInBounds_toArray, List.set_cons_zero, List.set_cons_succ])
  refine wpAnyH_take (i := 3) (v := ?_) (by rfl) (by kernel_rfl) (by kernel_rfl) (by kernel_rfl) (fun _ _ _ h => h) (Or.inl ⟨by kernel_rfl, ?_⟩) (by assumption) ?_; rotate_left 1; (focus (intro w hSw; (try dsimp only at hSw); simp only [List.getElem_toArray, List.getElem_cons_succ, List.getElem_cons_zero]; all_goals go_simp; all_goals (try with_reducible rfl))); (try simp only [Act.put, List.getElem_toArray, List.getElem_cons_succ, List.getElem_cons_zero, List.setIfInBounds_toArray, List.set_cons_zero, List.set_cons_succ])
  refine wpAnyH_take (i := 4) (v := ?_) (by rfl) (by kernel_rfl) (by kernel_rfl) (by kernel_rfl) (fun _ _ _ h => h) (Or.inl ⟨by kernel_rfl, ?_⟩) (by assumption) ?_; rotate_left 1; (focus (intro w hSw; (try dsimp only at hSw); simp only [List.getElem_toArray, List.getElem_cons_succ, List.getElem_cons_zero]; all_goals go_simp; all_goals (try with_reducible rfl))); (try simp only [Act.put, List.getElem_toArray, List.getElem_cons_succ, List.getElem_cons_zero, List.setIfInBounds_toArray, List.set_cons_zero, List.set_cons_succ])
  refine wpAnyH_take (i := 5) (v := ?_) (by rfl) (by kernel_rfl) (by kernel_rfl) (by kernel_rfl) (fun _ _ _ h => h) (Or.inl ⟨by kernel_rfl, ?_⟩) (by assumption) ?_; rotate_left 1; (focus (intro w hSw; (try dsimp only at hSw); simp only [List.getElem_toArray, List.getElem_cons_succ, List.getElem_cons_zero]; all_goals go_simp; all_goals (try with_reducible rfl))); (try simp only [Act.put, List.getElem_toArray, List.getElem_cons_succ, List.getElem_cons_zero, List.setIfInBounds_toArray, List.set_cons_zero, List.set_cons_succ])
  refine wpAnyH_take (i := 6) (v := ?_) (by rfl) (by kernel_rfl) (by kernel_rfl) (by kernel_rfl) (fun _ _ _ h => h) (Or.inl ⟨by kernel_rfl, ?_⟩) (by assumption) ?_; rotate_left 1; (focus (intro w hSw; (try dsimp only at hSw); simp only [List.getElem_toArray, List.getElem_cons_succ, List.getElem_cons_zero]; all_goals go_simp; all_goals (try with_reducible rfl))); (try simp only [Act.put, List.getElem_toArray, List.getElem_cons_succ, List.getElem_cons_zero, List.setIfInBounds_toArray, List.set_cons_zero, List.set_cons_succ])
  refine wpAnyH_take (i := 7) (v := ?_) (by rfl) (by kernel_rfl) (by kernel_rfl) (by kernel_rfl) (fun _ _ _ h => h) (Or.inl ⟨by kernel_rfl, ?_⟩) (by assumption) ?_; rotate_left 1; (focus (intro w hSw; (try dsimp only at hSw); simp only [List.getElem_toArray, List.getElem_cons_succ, List.getElem_cons_zero]; all_goals go_simp; all_goals (try with_reducible rfl))); (try simp only [Act.put, List.getElem_toArray, List.getElem_cons_succ, List.getElem_cons_zero, List.setIfInBounds_toArray, List.set_cons_zero, List.set_cons_succ])
  refine wpAnyH_take (i := 8) (v := ?_) (by rfl) (by kernel_rfl) (by kernel_rfl) (by kernel_rfl) (fun _ _ _ h => h) (Or.inl ⟨by kernel_rfl, ?_⟩) (by assumption) ?_; rotate_left 1; (focus (intro w hSw; (try dsimp only at hSw); simp only [List.getElem_toArray, List.getElem_cons_succ, List.getElem_cons_zero]; all_goals go_simp; all_goals (try with_reducible rfl))); (try simp only [Act.put, List.getElem_toArray, List.getElem_cons_succ, List.getElem_cons_zero, List.setIfInBounds_toArray, List.set_cons_zero, List.set_cons_succ])
  refine wpAnyH_take (i := 9) (v := ?_) (by rfl) (by kernel_rfl) (by kernel_rfl) (by kernel_rfl) (fun _ _ _ h => h) (Or.inl ⟨by kernel_rfl, ?_⟩) (by assumption) ?_; rotate_left 1; (focus (intro w hSw; (try dsimp only at hSw); simp only [List.getElem_toArray, List.getElem_cons_succ, List.getElem_cons_zero]; all_goals go_simp; all_goals (try with_reducible rfl))); (try simp only [Act.put, List.getElem_toArray, List.getElem_cons_succ, List.getElem_cons_zero, List.setIfInBounds_toArray, List.set_cons_zero, List.set_cons_succ])
  refine wpAnyH_take (i := 10) (v := ?_) (by rfl) (by kernel_rfl) (by kernel_rfl) (by kernel_rfl) (fun _ _ _ h => h) (Or.inl ⟨by kernel_rfl, ?_⟩) (by assumption) ?_; rotate_left 1; (focus (intro w hSw; (try dsimp only at hSw); simp only [List.getElem_toArray, List.getElem_cons_succ, List.getElem_cons_zero]; all_goals go_simp; all_goals (try with_reducible rfl))); (try simp only [Act.put, List.getElem_toArray, List.getElem_cons_succ, List.getElem_cons_zero, List.setIfInBounds_toArray, List.set_cons_zero, List.set_cons_succ])
  refine wpAnyH_take (i := 11) (v := ?_) (by rfl) (by kernel_rfl) (by kernel_rfl) (by kernel_rfl) (fun _ _ _ h => h) (Or.inl ⟨by kernel_rfl, ?_⟩) (by assumption) ?_; rotate_left 1; (focus (intro w hSw; (try dsimp only at hSw); simp only [List.getElem_toArray, List.getElem_cons_succ, List.getElem_cons_zero]; all_goals go_simp; all_goals (try with_reducible rfl))); (try simp only [Act.put, List.getElem_toArray, List.getElem_cons_succ, List.getElem_cons_zero, List.setIfInBounds_toArray, List.set_cons_zero, List.set_cons_succ])
  refine wpAnyH_take (i := 12) (v := ?_) (by rfl) (by kernel_rfl) (by kernel_rfl) (by kernel_rfl) (fun _ _ _ h => h) (Or.inl ⟨by kernel_rfl, ?_⟩) (by assumption) ?_; rotate_left 1; (focus (intro w hSw; (try dsimp only at hSw); simp only [List.getElem_toArray, List.getElem_cons_succ, List.getElem_cons_zero]; all_goals go_simp; all_goals (try with_reducible rfl))); (try simp only [Act.put, List.getElem_toArray, List.getElem_cons_succ, List.getElem_cons_zero, List.setIfInBounds_toArray, List.set_cons_zero, List.set_cons_succ])
  refine wpAnyH_take (i := 13) (v := ?_) (by rfl) (by kernel_rfl) (by kernel_rfl) (by kernel_rfl) (fun _ _ _ h => h) (Or.inl ⟨by kernel_rfl, ?_⟩) (by assumption) ?_; rotate_left 1; (focus (intro w hSw; (try dsimp only at hSw); simp only [List.getElem_toArray, List.getElem_cons_succ, List.getElem_cons_zero]; all_goals go_simp; all_goals (try with_reducible rfl))); (try simp only [Act.put, List.getElem_toArray, List.getElem_cons_succ, List.getElem_cons_zero, List.setIfInBounds_toArray, List.set_cons_zero, List.set_cons_succ])
  refine wpAnyH_take (i := 15) (v := ?_) (by rfl) (by kernel_rfl) (by kernel_rfl) (by kernel_rfl) (fun _ _ _ h => h) (Or.inl ⟨by kernel_rfl, ?_⟩) (by assumption) ?_; rotate_left 1; (focus (intro w hSw; (try dsimp only at hSw); simp only [List.getElem_toArray, List.getElem_cons_succ, List.getElem_cons_zero]; all_goals go_simp; all_goals (try with_reducible rfl))); (try simp only [Act.put, List.getElem_toArray, List.getElem_cons_succ, List.getElem_cons_zero, List.setIfInBounds_toArray, List.set_cons_zero, List.set_cons_succ])
  refine wpAnyH_take (i := 16) (v := ?_) (by rfl) (by kernel_rfl) (by kernel_rfl) (by kernel_rfl) (fun _ _ _ h => h) (Or.inl ⟨by kernel_rfl, ?_⟩) (by assumption) ?_; rotate_left 1; (focus (intro w hSw; (try dsimp only at hSw); simp only [List.getElem_toArray, List.getElem_cons_succ, List.getElem_cons_zero]; all_goals go_simp; all_goals (try with_reducible rfl))); (try simp only [Act.put, List.getElem_toArray, List.getElem_cons_succ, List.getElem_cons_zero, List.setIfInBounds_toArray, List.set_cons_zero, List.set_cons_succ])
  refine wpAnyH_take (i := 17) (v := ?_) (by rfl) (by kernel_rfl) (by kernel_rfl) (by kernel_rfl) (fun _ _ _ h => h) (Or.inl ⟨by kernel_rfl, ?_⟩) (by assumption) ?_; rotate_left 1; (focus (intro w hSw; (try dsimp only at hSw); simp only [List.getElem_toArray, List.getElem_cons_succ, List.getElem_cons_zero]; all_goals go_simp; all_goals (try with_reducible rfl))); (try simp only [Act.put, List.getElem_toArray, List.getElem_cons_succ, List.getElem_cons_zero, List.setIfInBounds_toArray, List.set_cons_zero, List.set_cons_succ])
  refine wpAnyH_take (i := 18) (v := ?_) (by rfl) (by kernel_rfl) (by kernel_rfl) (by kernel_rfl) (fun _ _ _ h => h) (Or.inl ⟨by kernel_rfl, ?_⟩) (by assumption) ?_; rotate_left 1; (focus (intro w hSw; (try dsimp only at hSw); simp only [List.getElem_toArray, List.getElem_cons_succ, List.getElem_cons_zero]; all_goals go_simp; all_goals (try with_reducible rfl))); (try simp only [Act.put, List.getElem_toArray, List.getElem_cons_succ, List.getElem_cons_zero, List.setIfInBounds_toArray, List.set_cons_zero, List.set_cons_succ])
  refine wpAnyH_take (i := 19) (v := ?_) (by rfl) (by kernel_rfl) (by kernel_rfl) (by kernel_rfl) (fun _ _ _ h => h) (Or.inl ⟨by kernel_rfl, ?_⟩) (by assumption) ?_; rotate_left 1; (focus (intro w hSw; (try dsimp only at hSw); simp only [List.getElem_toArray, List.getElem_cons_succ, List.getElem_cons_zero]; all_goals go_simp; all_goals (try with_reducible rfl))); (try simp only [Act.put, List.getElem_toArray, List.getElem_cons_succ, List.getElem_cons_zero, List.setIfInBounds_toArray, List.set_cons_zero, List.set_cons_succ])
  refine wpAnyH_take (i := 20) (v := ?_) (by rfl) (by kernel_rfl) (by kernel_rfl) (by kernel_rfl) (fun _ _ _ h => h) (Or.inl ⟨by kernel_rfl, ?_⟩) (by assumption) ?_; rotate_left 1; (focus (intro w hSw; (try dsimp only at hSw); simp only [List.getElem_toArray, List.getElem_cons_succ, List.getElem_cons_zero]; all_goals go_simp; all_goals (try with_reducible rfl))); (try simp only [Act.put, List.getElem_toArray, List.getElem_cons_succ, List.getElem_cons_zero, List.setIfInBounds_toArray, List.set_cons_zero, List.set_cons_succ])
  refine wpAnyH_take (i := 21) (v := ?_) (by rfl) (by kernel_rfl) (by kernel_rfl) (by kernel_rfl) (fun _ _ _ h => h) (Or.inl ⟨by kernel_rfl, ?_⟩) (by assumption) ?_; rotate_left 1; (focus (intro w hSw; (try dsimp only at hSw); simp only [List.getElem_toArray, List.getElem_cons_succ, List.getElem_cons_zero]; all_goals go_simp; all_goals (try with_reducible rfl))); (try simp only [Act.put, List.getElem_toArray, List.getElem_cons_succ, List.getElem_cons_zero, List.setIfInBounds_toArray, List.set_cons_zero, List.set_cons_succ])
  refine wpAnyH_take (i := 22) (v := ?_) (by rfl) (by kernel_rfl) (by kernel_rfl) (by kernel_rfl) (fun _ _ _ h => h) (Or.inl ⟨by kernel_rfl, ?_⟩) (by assumption) ?_; rotate_left 1; (focus (intro w hSw; (try dsimp only at hSw); simp only [List.getElem_toArray, List.getElem_cons_succ, List.getElem_cons_zero]; all_goals go_simp; all_goals (try with_reducible rfl))); (try simp only [Act.put, List.getElem_toArray, List.getElem_cons_succ, List.getElem_cons_zero, List.setIfInBounds_toArray, List.set_cons_zero, List.set_cons_succ])
  refine wpAnyH_ready (rs := [14]) (by kernel_rfl) (by simp) ?_; refine AllReadyH.cons (by rfl) (fun K hK => ?_) AllReadyH.nil; rw [if_pos (by kernel_rfl)]; simp only [List.getElem_toArray, List.getElem_cons_succ, List.getElem_cons_zero]
  go_wp2_with (first
    | (go_at_call 152; (with_reducible refine (acap_is _ HWE.out.mm.sv.st.pg.ar).mono ?_); rintro e w1 ⟨rfl, rfl⟩))
  refine hK.out _ _ ⟨HSE.out.b0, HWE.out.kk.f1, HWE.out.mm.m0, HWE.out.mm.sv.st.s1, HWE.out.mm.sv.st.pg.f0⟩ (fun hHeld => ?_)
  clear hK K
  (try simp only [Act.put, List.getElem_toArray, List.getElem_cons_succ, List.getElem_cons_zero, List.setIfInBounds_toArray, List.set_cons_zero, List.set_cons_succ])
  refine wpAnyH_ready (rs := [23]) (by kernel_rfl) (by simp) ?_; refine AllReadyH.cons (by rfl) (fun K hK => ?_) AllReadyH.nil; rw [if_pos (by kernel_rfl)]; simp only [List.getElem_toArray, List.getElem_cons_succ, List.getElem_cons_zero]
  go_wp2_with (first
    | (go_at_call 151; (with_reducible refine (badd_p w bb (bb + 1) (bb + 2) q _ _ L1.out HO.out H.out _ _ HSE.out).mono ?_); rintro e w5 ⟨rfl, v5, h5⟩; have HS5 := Lib.hid h5; clear h5))
  have HW5 := Lib.hid (H.out.below HS5.out.bel)
  refine hK.out _ _ ⟨HS5.out.b0, HW5.out.kk.f1, HW5.out.mm.m0, HW5.out.mm.sv.st.s1, HW5.out.mm.sv.st.pg.f0⟩ (fun hHeld => ?_)
  clear hK K
  (try simp only [Act.put, List.getElem_toArray, List.getElem_cons_succ, List.getElem_cons_zero, List.setIfInBounds_toArray, List.set_cons_zero, List.set_cons_succ])
  refine wpAnyH_done (by kernel_rfl) ?_ _
  refine NoPanic.normal ?_
  clear hHeld
  go_upto_region 7 with fail
  obtain ⟨wF, hwF⟩ : ∃ wF, wF = w5.drew := ⟨_, rfl⟩
  have HSF := Lib.hid (HS5.out.below (by rw [hwF]; exact (Below.refl _ _).drew) : OwS w wF L.P bb (bb + 1) (bb + 2) q v5 _ _)
  have HWF := Lib.hid (H.out.below HSF.out.bel)
  refine wp_region_noPanic ?_
  refine wp_region_held_drew (S := fun w' => (World.cell? w' ⟨bb, 0, none⟩ = some (.pointer (some ⟨L.P, 0, none⟩)) ∧ World.cell? w' ⟨L.P, 2, none⟩ = some (.pointer (some ⟨L.dP, 0, none⟩)) ∧ World.cell? w' ⟨L.dP, 0, none⟩ = some (.pointer (some ⟨L.dp, 0, none⟩)))) (by kernel_rfl) (by rw [← hwF]; exact ⟨HSF.out.b0, HWF.out.kk.f2, HWF.out.dd.pl.f0⟩) (fun hHeld => ?_)
  rw [← hwF] at hHeld ⊢
  clear hwF
  refine wpAnyH_take (i := 0) (v := ?_) (by rfl) (by kernel_rfl) (by kernel_rfl) (by kernel_rfl) (fun _ _ _ h => h) (Or.inl ⟨by kernel_rfl, ?_⟩) (by assumption) ?_; rotate_left 1; (focus (intro w hSw; (try dsimp only at hSw); simp only [List.getElem_toArray, List.getElem_cons_succ, List.getElem_cons_zero]; all_goals go_simp; all_goals (try with_reducible rfl))); (try simp only [Act.put, List.getElem_toArray, List.getElem_cons_succ, List.getElem_cons_zero, List.setIfInBounds_toArray, List.set_cons_zero, List.set_cons_succ])
  refine wpAnyH_take (i := 1) (v := ?_) (by rfl) (by kernel_rfl) (by kernel_rfl) (by kernel_rfl) (fun _ _ _ h => h) (Or.inl ⟨by kernel_rfl, ?_⟩) (by assumption) ?_; rotate_left 1; (focus (intro w hSw; (try dsimp only at hSw); simp only [List.getElem_toArray, List.getElem_cons_succ, List.getElem_cons_zero]; all_goals go_simp; all_goals (try with_reducible rfl))); (try simp only [Act.put, List.getElem_toArray, List.getElem_cons_succ, List.getElem_cons_zero, List.setIfInBounds_toArray, List.set_cons_zero, List.set_cons_succ])
  refine wpAnyH_take (i := 2) (v := ?_) (by rfl) (by kernel_rfl) (by kernel_rfl) (by kernel_rfl) (fun _ _ _ h => h) (Or.inl ⟨by kernel_rfl, ?_⟩) (by assumption) ?_; rotate_left 1; (focus (intro w hSw; (try dsimp only at hSw); simp only [List.getElem_toArray, List.getElem_cons_succ, List.getElem_cons_zero]; all_goals go_simp; all_goals (try with_reducible rfl))); (try simp only [Act.put, List.getElem_toArray, List.getElem_cons_succ, List.getElem_cons_zero, List.setIfInBounds_toArray, List.set_cons_zero, List.set_cons_succ])
  refine wpAnyH_take (i := 3) (v := ?_) (by rfl) (by kernel_rfl) (by kernel_rfl) (by kernel_rfl) (fun _ _ _ h => h) (Or.inl ⟨by kernel_rfl, ?_⟩) (by assumption) ?_; rotate_left 1; (focus (intro w hSw; (try dsimp only at hSw); simp only [List.getElem_toArray, List.getElem_cons_succ, List.getElem_cons_zero]; all_goals go_simp; all_goals (try with_reducible rfl))); (try simp only [Act.put, List.getElem_toArray, List.getElem_cons_succ, List.getElem_cons_zero, List.setIfInBounds_toArray, List.set_cons_zero, List.set_cons_succ])
  refine wpAnyH_take (i := 4) (v := ?_) (by rfl) (by kernel_rfl) (by kernel_rfl) (by kernel_rfl) (fun _ _ _ h => h) (Or.inl ⟨by kernel_rfl, ?_⟩) (by assumption) ?_; rotate_left 1; (focus (intro w hSw; (try dsimp only at hSw); simp only [List.getElem_toArray, List.getElem_cons_succ, List.getElem_cons_zero]; all_goals go_simp; all_goals (try with_reducible rfl))); (try simp only [Act.put, List.getElem_toArray, List.getElem_cons_succ, List.getElem_cons_zero, List.setIfInBounds_toArray, List.set_cons_zero, List.set_cons_succ])
  refine wpAnyH_take (i := 5) (v := ?_) (by rfl) (by kernel_rfl) (by kernel_rfl) (by kernel_rfl) (fun _ _ _ h => h) (Or.inl ⟨by kernel_rfl, ?_⟩) (by assumption) ?_; rotate_left 1; (focus (intro w hSw; (try dsimp only at hSw); simp only [List.getElem_toArray, List.getElem_cons_succ, List.getElem_cons_zero]; all_goals go_simp; all_goals (try with_reducible rfl))); (try simp only [Act.put, List.getElem_toArray, List.getElem_cons_succ, List.getElem_cons_zero, List.setIfInBounds_toArray, List.set_cons_zero, List.set_cons_succ])
  refine wpAnyH_take (i := 6) (v := ?_) (by rfl) (by kernel_rfl) (by kernel_rfl) (by kernel_rfl) (fun _ _ _ h => h) (Or.inl ⟨by kernel_rfl, ?_⟩) (by assumption) ?_; rotate_left 1; (focus (intro w hSw; (try dsimp only at hSw); simp only [List.getElem_toArray, List.getElem_cons_succ, List.getElem_cons_zero]; all_goals go_simp; all_goals (try with_reducible rfl))); (try simp only [Act.put, List.getElem_toArray, List.getElem_cons_succ, List.getElem_cons_zero, List.setIfInBounds_toArray, List.set_cons_zero, List.set_cons_succ])
  refine wpAnyH_take (i := 7) (v := ?_) (by rfl) (by kernel_rfl) (by kernel_rfl) (by kernel_rfl) (fun _ _ _ h => h) (Or.inl ⟨by kernel_rfl, ?_⟩) (by assumption) ?_; rotate_left 1; (focus (intro w hSw; (try dsimp only at hSw); simp only [List.getElem_toArray, List.getElem_cons_succ, List.getElem_cons_zero]; all_goals go_simp; all_goals (try with_reducible rfl))); (try simp only [Act.put, List.getElem_toArray, List.getElem_cons_succ, List.getElem_cons_zero, List.setIfInBounds_toArray, List.set_cons_zero, List.set_cons_succ])
  refine wpAnyH_take (i := 9) (v := ?_) (by rfl) (by kernel_rfl) (by kernel_rfl) (by kernel_rfl) (fun _ _ _ h => h) (Or.inl ⟨by kernel_rfl, ?_⟩) (by assumption) ?_; rotate_left 1; (focus (intro w hSw; (try dsimp only at hSw); simp only [List.getElem_toArray, List.getElem_cons_succ, List.getElem_cons_zero]; all_goals go_simp; all_goals (try with_reducible rfl))); (try simp only [Act.put, List.getElem_toArray, List.getElem_cons_succ, List.getElem_cons_zero, List.setIfInBounds_toArray, List.set_cons_zero, List.set_cons_succ])
  refine wpAnyH_take (i := 10) (v := ?_) (by rfl) (by kernel_rfl) (by kernel_rfl) (by kernel_rfl) (fun _ _ _ h => h) (Or.inl ⟨by kernel_rfl, ?_⟩) (by assumption) ?_; rotate_left 1; (focus (intro w hSw; (try dsimp only at hSw); simp only [List.getElem_toArray, List.getElem_cons_succ, List.getElem_cons_zero]; all_goals go_simp; all_goals (try with_reducible rfl))); (try simp only [Act.put, List.getElem_toArray, List.getElem_cons_succ, List.getElem_cons_zero, List.setIfInBounds_toArray, List.set_cons_zero, List.set_cons_succ])
  refine wpAnyH_take (i := 11) (v := ?_) (by rfl) (by kernel_rfl) (by kernel_rfl) (by kernel_rfl) (fun _ _ _ h => h) (Or.inl ⟨by kernel_rfl, ?_⟩) (by assumption) ?_; rotate_left 1; (focus (intro w hSw; (try dsimp only at hSw); simp only [List.getElem_toArray, List.getElem_cons_succ, List.getElem_cons_zero]; all_goals go_simp; all_goals (try with_reducible rfl))); (try simp only [Act.put, List.getElem_toArray, List.getElem_cons_succ, List.getElem_cons_zero, List.setIfInBounds_toArray, List.set_cons_zero, List.set_cons_succ])
  refine wpAnyH_take (i := 12) (v := ?_) (by rfl) (by kernel_rfl) (by kernel_rfl) (by kernel_rfl) (fun _ _ _ h => h) (Or.inl ⟨by kernel_rfl, ?_⟩) (by assumption) ?_; rotate_left 1; (focus (intro w hSw; (try dsimp only at hSw); simp only [List.getElem_toArray, List.getElem_cons_succ, List.getElem_cons_zero]; all_goals go_simp; all_goals (try with_reducible rfl))); (try simp only [Act.put, List.getElem_toArray, List.getElem_cons_succ, List.getElem_cons_zero, List.setIfInBounds_toArray, List.set_cons_zero, List.set_cons_succ])
  refine wpAnyH_take (i := 13) (v := ?_) (by rfl) (by kernel_rfl) (by kernel_rfl) (by kernel_rfl) (fun _ _ _ h => h) (Or.inl ⟨by kernel_rfl, ?_⟩) (by assumption) ?_; rotate_left 1; (focus (intro w hSw; (try dsimp only at hSw); simp only [List.getElem_toArray, List.getElem_cons_succ, List.getElem_cons_zero]; all_goals go_simp; all_goals (try with_reducible rfl))); (try simp only [Act.put, List.getElem_toArray, List.getElem_cons_succ, List.getElem_cons_zero, List.setIfInBounds_toArray, List.set_cons_zero, List.set_cons_succ])
  refine wpAnyH_ready (rs := [8]) (by kernel_rfl) (by simp) ?_; refine AllReadyH.cons (by rfl) (fun K hK => ?_) AllReadyH.nil; rw [if_pos (by kernel_rfl)]; simp only [List.getElem_toArray, List.getElem_cons_succ, List.getElem_cons_zero]
  go_wp2_with (first
    | (go_at_call 152; (with_reducible refine (acap_is _ HWF.out.dd.pl.ar).mono ?_); rintro e w1 ⟨rfl, rfl⟩))
  refine hK.out _ _ ⟨HSF.out.b0, HWF.out.kk.f2, HWF.out.dd.pl.f0⟩ (fun hHeld => ?_)
  clear hK K
  (try simp only [Act.put, List.getElem_toArray, List.getElem_cons_succ, List.getElem_cons_zero, List.setIfInBounds_toArray, List.set_cons_zero, List.set_cons_succ])
  refine wpAnyH_ready (rs := [14]) (by kernel_rfl) (by simp) ?_; refine AllReadyH.cons (by rfl) (fun K hK => ?_) AllReadyH.nil; rw [if_pos (by kernel_rfl)]; simp only [List.getElem_toArray, List.getElem_cons_succ, List.getElem_cons_zero]
  go_wp2_with (first
    | (go_at_call 151; (with_reducible refine (badd_d w bb (bb + 1) (bb + 2) q _ _ L2.out HO.out H.out _ _ HSF.out).mono ?_); rintro e w6 ⟨rfl, v6, h6⟩; have HS6 := Lib.hid h6; clear h6))
  have HW6 := Lib.hid (H.out.below HS6.out.bel)
  refine hK.out _ _ ⟨HS6.out.b0, HW6.out.kk.f2, HW6.out.dd.pl.f0⟩ (fun hHeld => ?_)
  clear hK K
  (try simp only [Act.put, List.getElem_toArray, List.getElem_cons_succ, List.getElem_cons_zero, List.setIfInBounds_toArray, List.set_cons_zero, List.set_cons_succ])
  refine wpAnyH_done (by kernel_rfl) ?_ _
  refine NoPanic.normal ?_
  clear hHeld
  have z0 := HS6.out.o0
  go_wp2_with fail
  go_ret
  have hr := HS6.out.row
  rw [Nat.zero_add, List.nil_append] at hr
  exact ⟨_, rfl, HS6.out.bel, own_base hr (by have := hbb.out; omega)⟩
end Go.Proofs.YtkogmhgpkacehaaDoor
namespace Go.Proofs.YtkogmhgpkacehaaDoor
set_option linter.unusedVariables false
set_option linter.unusedSimpArgs false
/-- The sum over those whose parent is k, of those below n. -/
def sumC (f : Nat → Int) (pr : Nat → Int) (k : Nat) : Nat → Int
  | 0 => 0
  | n + 1 => sumC f pr k n + (if pr n = (k : Int) then f n else 0)
/-- Is it in that list: 1, or 0. -/
def indL (l : List Int) (i : Nat) : Int := if l.contains (i : Int) = true then 1 else 0
theorem addL_ind (us : Nat → Int) (l : List Int) : addL us l 1 = fun i => us i + indL l i := by
  funext i
  unfold addL indL
  split <;> simp
theorem sumC_add (f g : Nat → Int) (pr : Nat → Int) (k : Nat) : ∀ n, sumC (fun i => f i + g i) pr k n = sumC f pr k n + sumC g pr k n := by
  intro n
  induction n with
  | zero => rfl
  | succ n ih => unfold sumC; rw [ih]; split <;> omega
theorem sumC_one (pr : Nat → Int) (k q : Nat) : ∀ n, sumC (fun i => if i = q then 1 else 0) pr k n = if q < n ∧ pr q = (k : Int) then 1 else 0 := by
  intro n
  induction n with
  | zero => simp [sumC]
  | succ n ih =>
    unfold sumC
    rw [ih]
    by_cases h : n = q
    · subst h
      by_cases h2 : pr n = (k : Int)
      · simp [h2]
      · simp [h2]
    · have e0 : (if pr n = (k : Int) then (if n = q then (1 : Int) else 0) else 0) = 0 := by simp [h]
      rw [e0]
      by_cases h3 : q < n ∧ pr q = (k : Int)
      · rw [if_pos h3, if_pos (show q < n + 1 ∧ pr q = (k : Int) from ⟨by omega, h3.2⟩)]; rfl
      · rw [if_neg h3, if_neg (show ¬ (q < n + 1 ∧ pr q = (k : Int)) from fun h4 => h3 ⟨by omega, h4.2⟩)]; rfl
theorem sumC_zero (pr : Nat → Int) (k : Nat) : ∀ n, sumC (fun _ => 0) pr k n = 0 := by
  intro n
  induction n with
  | zero => rfl
  | succ n ih => unfold sumC; rw [ih]; simp
theorem indL_cons (x : Nat) (l : List Int) (i : Nat) (h : (x : Int) ∉ l) : indL ((x : Int) :: l) i = (if i = x then 1 else 0) + indL l i := by
  unfold indL
  by_cases e : i = x
  · subst e
    rw [if_pos (by simp), if_pos rfl, if_neg (by simpa using h)]; rfl
  · rw [if_neg e]
    have : ¬ ((i : Int) = (x : Int)) := by omega
    simp [this]
/-- Of a chain, all but the first are parents of one in it. -/
theorem ind_sum {nb : Nat} {pr : Nat → Int} (hp : PrOk nb pr) (hb : nb ≤ 256) (k : Nat) : ∀ (m q : Nat), q < m → q < nb → indL (chL pr (q : Int)) k = (if k = q then 1 else 0) + sumC (indL (chL pr (q : Int))) pr k nb := by
  intro m
  induction m with
  | zero => intro q h; omega
  | succ m ih =>
    intro q hq hqn
    have hpq := hp q hqn
    have hnot : (q : Int) ∉ chL pr (pr q) := fun hm => by have := ((chL_bound hp hb q (pr q) hpq.2 (by omega)).2 _ hm).2; omega
    rw [chL_cons hp q hqn hb, show indL ((q : Int) :: chL pr (pr q)) = fun i => (if i = q then 1 else 0) + indL (chL pr (pr q)) i from funext fun i => indL_cons q _ i hnot, sumC_add, sumC_one]
    by_cases h0 : 0 ≤ pr q
    · obtain ⟨p, hpp⟩ : ∃ p : Nat, pr q = (p : Int) := ⟨(pr q).toNat, by omega⟩
      have h := ih p (by omega) (by omega)
      rw [hpp]
      show (if k = q then (1 : Int) else 0) + indL (chL pr (p : Int)) k = _
      rw [h]
      by_cases e : k = p
      · subst e
        rw [if_pos rfl, if_pos (show q < nb ∧ (k : Int) = (k : Int) from ⟨hqn, rfl⟩)]
      · rw [if_neg e, if_neg (show ¬ (q < nb ∧ (p : Int) = (k : Int)) from fun h => e (by omega))]
    · show (if k = q then (1 : Int) else 0) + indL (chL pr (pr q)) k = _
      have e : indL [] = fun _ => (0 : Int) := by funext i; simp [indL]
      rw [chL_neg _ _ (by omega), e, sumC_zero, if_neg (show ¬ (q < nb ∧ pr q = (k : Int)) from fun h => by omega)]
      simp
theorem oks_step (T : Nat → Bool) (o : Nat → Int) (k n : Nat) : (oks T o k (n + 1)).length = (oks T o k n).length + (if T n = true ∧ o n = (k : Int) then 1 else 0) := by
  by_cases h : T n = true
  · by_cases h2 : o n = (k : Int)
    · rw [oks_yes T o k n h h2, if_pos ⟨h, h2⟩]; simp
    · rw [oks_no T o k n h2, if_neg (fun h => h2 h.2)]; rfl
  · rw [oks_dead T o k n (by simpa using h), if_neg (fun h2 => h h2.1)]; rfl
theorem oks_upd (T : Nat → Bool) (o : Nat → Int) (k j q : Nat) (h : T j = false) : ∀ n, (oks (upd T j true) (upd o j (q : Int)) k n).length = (oks T o k n).length + (if j < n ∧ q = k then 1 else 0) := by
  intro n
  induction n with
  | zero => simp [oks_zero]
  | succ n ih =>
    rw [oks_step, oks_step, ih]
    by_cases e : n = j
    · subst e
      by_cases h2 : q = k
      · subst h2
        simp [upd, h]
      · have : ¬ ((q : Int) = (k : Int)) := by omega
        simp [upd, h, h2, this]
    · have e1 : upd T j true n = T n := by simp [upd, e]
      have e2 : upd o j (q : Int) n = o n := by simp [upd, e]
      rw [e1, e2]
      by_cases h3 : j < n ∧ q = k
      · rw [if_pos h3, if_pos (show j < n + 1 ∧ q = k from ⟨by omega, h3.2⟩)]; omega
      · rw [if_neg h3, if_neg (show ¬ (j < n + 1 ∧ q = k) from fun h4 => h3 ⟨by omega, h4.2⟩)]; omega
end Go.Proofs.YtkogmhgpkacehaaDoor
namespace Go.Proofs.YtkogmhgpkacehaaDoor
set_option linter.unusedVariables false
set_option linter.unusedSimpArgs false
theorem thN_s (i : Nat) : upd (thN i) i true = thN (i + 1) := by
  funext j
  unfold upd thN
  by_cases e : j = i
  · subst e; simp
  · rw [if_neg e]; simp; omega
/-- Banks within bank 0, that have taken a nodes and b pages. -/
structure CI (L : BLoc) (D : BSt) (a b : Nat) : Prop where
  n1 : 1 ≤ D.nb
  n256 : D.nb ≤ 256
  pk : PrOk D.nb D.pr
  rt : ∀ i, 1 ≤ i → i < D.nb → 0 ≤ D.pr i
  nt : D.nt = thN a
  pt : D.pt = thN b
  dt : D.dt = fun _ => false
  nv : D.nv = fun _ => 0
  pv : D.pv = fun _ => 0
  tot : (a : Int) + (b : Int) = D.us 0
  on : ∀ i, i < a → ∃ q' : Nat, q' < D.nb ∧ D.o1 i = (q' : Int) ∧ D.v1 i = 0
  op : ∀ i, i < b → ∃ q' : Nat, q' < D.nb ∧ D.o2 i = (q' : Int) ∧ D.v2 i = 0
  sum : ∀ k, k < D.nb → D.us k = (ownN L D k : Int) + sumC D.us D.pr k D.nb
  le : ∀ k, k < D.nb → D.us k ≤ D.lm k
  lm : ∀ k, k < D.nb → D.lm k ≤ 20
  ub : ∀ i, 0 ≤ D.us i ∧ D.us i ≤ 20
section
variable {L : BLoc} {D : BSt} {a b : Nat}
theorem CI.ow (h : CI L D a b) : OwI L D where
  n := fun i hi ht => by
    rw [h.nt] at ht
    obtain ⟨q', h1, h2, h3⟩ := h.on i (by simpa [thN] using ht)
    exact ⟨q', h1, h2, by rw [h3, h.nv]⟩
  p := fun i hi ht => by
    rw [h.pt] at ht
    obtain ⟨q', h1, h2, h3⟩ := h.op i (by simpa [thN] using ht)
    exact ⟨q', h1, h2, by rw [h3, h.pv]⟩
  d := fun i hi ht => by rw [h.dt] at ht; simp at ht
/-- Each bank is within bank 0. -/
theorem CI.zero (h : CI L D a b) : ∀ (m q : Nat), q < m → q < D.nb → (0 : Int) ∈ chL D.pr (q : Int) := by
  intro m
  induction m with
  | zero => intro q hq; omega
  | succ m ih =>
    intro q hq hqn
    rw [chL_cons h.pk q hqn h.n256]
    by_cases e : q = 0
    · subst e; simp
    · have h1 := h.rt q (by omega) hqn
      have h2 := (h.pk q hqn).2
      obtain ⟨p, hp⟩ : ∃ p : Nat, D.pr q = (p : Int) := ⟨(D.pr q).toNat, by omega⟩
      rw [hp] at h2 ⊢
      exact List.mem_cons_of_mem _ (ih p (by omega) (by omega))
theorem ind_01 (l : List Int) (i : Nat) : indL l i = 0 ∧ (i : Int) ∉ l ∨ indL l i = 1 ∧ (i : Int) ∈ l := by
  unfold indL
  by_cases h : (i : Int) ∈ l
  · exact .inr ⟨by rw [if_pos (by simpa using h)], h⟩
  · exact .inl ⟨by rw [if_neg (by simpa using h)], h⟩
/-- What a purchase does to the numbers. -/
theorem CI.us (h : CI L D a b) (q : Nat) (hq : q < D.nb) (hf : (chL D.pr q).any (fullB D.us D.lm) = false) :
    (∀ k, k < D.nb → addL D.us (chL D.pr q) 1 k ≤ D.lm k) ∧ (∀ i, 0 ≤ addL D.us (chL D.pr q) 1 i ∧ addL D.us (chL D.pr q) 1 i ≤ 20) ∧ addL D.us (chL D.pr q) 1 0 = D.us 0 + 1
    ∧ ∀ k, k < D.nb → addL D.us (chL D.pr q) 1 k = (ownN L D k : Int) + (if k = q then 1 else 0) + sumC (addL D.us (chL D.pr q) 1) D.pr k D.nb := by
  have hin := (chL_bound h.pk h.n256 (q + 1) q (by omega) (by omega)).2
  have hfull : ∀ i : Nat, (i : Int) ∈ chL D.pr q → i < D.nb ∧ D.us i < D.lm i := fun i hi => by
    refine ⟨by have := hin _ hi; omega, ?_⟩
    have := List.any_eq_false.mp hf _ hi
    simp [fullB] at this
    exact this
  rw [addL_ind]
  refine ⟨fun k hk => ?_, fun i => ?_, ?_, fun k hk => ?_⟩
  · have := h.le k hk
    rcases ind_01 (chL D.pr q) k with ⟨e, _⟩ | ⟨e, hm⟩
    · show D.us k + indL (chL D.pr q) k ≤ _; omega
    · have := (hfull k hm).2; show D.us k + indL (chL D.pr q) k ≤ _; omega
  · have := h.ub i
    show 0 ≤ D.us i + indL (chL D.pr q) i ∧ D.us i + indL (chL D.pr q) i ≤ 20
    rcases ind_01 (chL D.pr q) i with ⟨e, _⟩ | ⟨e, hm⟩
    · omega
    · have h1 := hfull i hm; have := h.lm i h1.1; omega
  · show D.us 0 + indL (chL D.pr q) 0 = _
    rcases ind_01 (chL D.pr q) 0 with ⟨e, hm⟩ | ⟨e, hm⟩
    · exact absurd (h.zero (q + 1) q (by omega) hq) hm
    · omega
  · rw [sumC_add]
    have h1 := h.sum k hk
    have h2 := ind_sum h.pk h.n256 k (q + 1) q (by omega) hq
    show D.us k + indL (chL D.pr q) k = _
    omega
theorem CI.node (h : CI L D a b) (q : Nat) (hq : q < D.nb) (hf : (chL D.pr q).any (fullB D.us D.lm) = false) (ha : a < L.a.n) (nW : Nat → Nat → Value) : CI L (boughtN D q a 0 nW) (a + 1) b := by
  obtain ⟨u1, u2, u3, u4⟩ := h.us q hq hf
  refine ⟨h.n1, h.n256, h.pk, h.rt, ?_, h.pt, h.dt, h.nv, h.pv, ?_, ?_, h.op, ?_, u1, h.lm, u2⟩
  · show upd D.nt a true = _
    rw [h.nt, thN_s]
  · show ((a + 1 : Nat) : Int) + (b : Int) = addL D.us (chL D.pr q) 1 0
    rw [u3, ← h.tot]; omega
  · intro i hi
    by_cases e : i = a
    · subst e; exact ⟨q, hq, upd_at _ _ _, upd_at _ _ _⟩
    · obtain ⟨q', h1, h2, h3⟩ := h.on i (by omega)
      exact ⟨q', h1, (upd_other _ _ _ _ e).trans h2, (upd_other _ _ _ _ e).trans h3⟩
  · intro k hk
    have e := oks_upd D.nt D.o1 k a q (by rw [h.nt]; simp [thN]) L.a.n
    have e2 : ownN L (boughtN D q a 0 nW) k = ownN L D k + (if a < L.a.n ∧ q = k then 1 else 0) := by
      show (oks (upd D.nt a true) (upd D.o1 a (q : Int)) k L.a.n).length + _ + _ = _
      rw [e]; unfold ownN boughtN; simp only []; omega
    show addL D.us (chL D.pr q) 1 k = (ownN L (boughtN D q a 0 nW) k : Int) + sumC (addL D.us (chL D.pr q) 1) D.pr k D.nb
    rw [u4 k hk, e2]
    by_cases e3 : k = q
    · rw [if_pos e3, if_pos ⟨ha, e3.symm⟩]; omega
    · rw [if_neg e3, if_neg (fun h => e3 h.2.symm)]; omega
theorem CI.page (h : CI L D a b) (q : Nat) (hq : q < D.nb) (hf : (chL D.pr q).any (fullB D.us D.lm) = false) (hb : b < L.b.n) (pW : Nat → Nat → Int) : CI L (boughtP D q b 0 pW) a (b + 1) := by
  obtain ⟨u1, u2, u3, u4⟩ := h.us q hq hf
  refine ⟨h.n1, h.n256, h.pk, h.rt, h.nt, ?_, h.dt, h.nv, h.pv, ?_, h.on, ?_, ?_, u1, h.lm, u2⟩
  · show upd D.pt b true = _
    rw [h.pt, thN_s]
  · show (a : Int) + ((b + 1 : Nat) : Int) = addL D.us (chL D.pr q) 1 0
    rw [u3, ← h.tot]; omega
  · intro i hi
    by_cases e : i = b
    · subst e; exact ⟨q, hq, upd_at _ _ _, upd_at _ _ _⟩
    · obtain ⟨q', h1, h2, h3⟩ := h.op i (by omega)
      exact ⟨q', h1, (upd_other _ _ _ _ e).trans h2, (upd_other _ _ _ _ e).trans h3⟩
  · intro k hk
    have e := oks_upd D.pt D.o2 k b q (by rw [h.pt]; simp [thN]) L.b.n
    have e2 : ownN L (boughtP D q b 0 pW) k = ownN L D k + (if b < L.b.n ∧ q = k then 1 else 0) := by
      show _ + (oks (upd D.pt b true) (upd D.o2 b (q : Int)) k L.b.n).length + _ = _
      rw [e]; unfold ownN boughtP; simp only []; omega
    show addL D.us (chL D.pr q) 1 k = (ownN L (boughtP D q b 0 pW) k : Int) + sumC (addL D.us (chL D.pr q) 1) D.pr k D.nb
    rw [u4 k hk, e2]
    by_cases e3 : k = q
    · rw [if_pos e3, if_pos ⟨hb, e3.symm⟩]; omega
    · rw [if_neg e3, if_neg (fun h => e3 h.2.symm)]; omega
end
end Go.Proofs.YtkogmhgpkacehaaDoor
namespace Go.Proofs.YtkogmhgpkacehaaDoor
open Go.ChangeShapes Go.WideShapes Go.ChangeAt Go.RowKit
set_option linter.unusedVariables false
set_option linter.unusedSimpArgs false
/-- A law's row of numbers. -/
structure RowF (w : World) (a : Option Addr) (len : Nat) (f : Nat → Int) : Prop where
  src : ∀ j, j < len → ∃ ad, a = some ad ∧ (ad.add j).block < w.heap.size ∧ w.cell? (ad.add j) = some (.int .i64 (f j))
  fit : ∀ j, j < len → -9223372036854775808 ≤ f j ∧ f j ≤ 9223372036854775807
  le : len ≤ 9223372036854775807
theorem RowF.below {w w' : World} {a : Option Addr} {len : Nat} {f : Nat → Int} (h : RowF w a len f) (hb : Below w.heap.size w w') : RowF w' a len f :=
  ⟨fun j hj => by obtain ⟨ad, h1, h2, h3⟩ := h.src j hj; exact ⟨ad, h1, Nat.lt_of_lt_of_le h2 hb.size, (hb.cell h2).trans h3⟩, h.fit, h.le⟩
theorem bc_row {w : World} {a : Option Addr} {len cap : Nat} {zs : List Int} (h : IsRow .i64 w a len cap zs) : ∃ xs : List Int, xs.length = len ∧ (∀ j, j < len → ∃ ad, a = some ad ∧ w.cell? (ad.add j) = some (.int .i64 (xs.getD j 0))) ∧ (∀ j, j < len → -9223372036854775808 ≤ xs.getD j 0 ∧ xs.getD j 0 ≤ 9223372036854775807) ∧ len ≤ 9223372036854775807 := by
  rcases h with ⟨rfl, rfl, -, -⟩ | ⟨x, rfl, h1, h2, h3, h4, h5⟩
  · exact ⟨[], rfl, fun i hi => by omega, fun j hj => by omega, by omega⟩
  · refine ⟨zs.take len, by simp; omega, fun i hi => ?_, fun i hi => ?_, by unfold maxLen at h2; omega⟩
    · refine ⟨x, rfl, ?_⟩
      rw [h4 i (by omega)]
      simp [List.getD, hi]
    · have hz : zs.getD i 0 ∈ zs := by
        have hil : i < zs.length := by omega
        simp [List.getD, hil]
      have h6 := fit64 (h5 _ hz)
      have e : (zs.take len).getD i 0 = zs.getD i 0 := by simp [List.getD, hi]
      rw [e]
      exact h6
theorem rowF_of {w : World} {a : Option Addr} {len cap : Nat} {zs : List Int} (h : IsRow .i64 w a len cap zs) : ∃ f, RowF w a len f := by
  obtain ⟨xs, h1, h2, h3, h4⟩ := bc_row h
  refine ⟨fun j => xs.getD j 0, fun j hj => ?_, h3, h4⟩
  obtain ⟨ad, e, hc⟩ := h2 j hj
  refine ⟨ad, e, ?_, hc⟩
  rcases Nat.lt_or_ge (ad.add j).block w.heap.size with h' | h'
  · exact h'
  · simp [World.cell?, Array.getElem?_eq_none h'] at hc
/-- Banks, and nothing taken yet. -/
structure CO (L : BLoc) (D : BSt) (k : Nat) : Prop where
  nb : D.nb = k
  k6 : k ≤ 6
  pk : PrOk D.nb D.pr
  rt : ∀ i, 1 ≤ i → i < D.nb → 0 ≤ D.pr i
  nt : D.nt = thN 0
  pt : D.pt = thN 0
  dt : D.dt = fun _ => false
  nv : D.nv = fun _ => 0
  pv : D.pv = fun _ => 0
  us : D.us = fun _ => 0
  lm : ∀ k, k < D.nb → 0 ≤ D.lm k ∧ D.lm k ≤ 20
theorem thN_zero : (fun _ => false) = thN 0 := by funext i; simp [thN]
theorem CO.st (L : BLoc) : CO L st0 0 := ⟨rfl, by decide, fun i hi => absurd hi (by show ¬ i < 0; omega), fun i _ hi => absurd hi (by show ¬ i < 0; omega), thN_zero, thN_zero, rfl, rfl, rfl, rfl, fun i hi => absurd hi (by show ¬ i < 0; omega)⟩
theorem CO.open {L : BLoc} {D : BSt} {k : Nat} (h : CO L D k) (y lim : Int) (hy0 : -1 ≤ y) (hy1 : y < k) (hy2 : 1 ≤ k → 0 ≤ y) (h0 : 0 ≤ lim) (h1 : lim ≤ 20) (hk : k < 6) : CO L (openedB D y lim) (k + 1) := by
  have hnb := h.nb
  refine ⟨by show D.nb + 1 = k + 1; omega, hk, ?_, ?_, h.nt, h.pt, h.dt, h.nv, h.pv, ?_, ?_⟩
  · exact prok_put h.pk y hy0 (by omega)
  · intro i hi hi2
    show 0 ≤ upd D.pr D.nb y i
    have hi2' : i < D.nb + 1 := hi2
    by_cases e : i = D.nb
    · rw [e, upd_at]; exact hy2 (by omega)
    · rw [upd_other _ _ _ _ e]; exact h.rt i hi (by omega)
  · show upd D.us D.nb 0 = _
    rw [h.us]; funext i; simp [upd]
  · intro i hi
    show 0 ≤ upd D.lm D.nb lim i ∧ upd D.lm D.nb lim i ≤ 20
    have hi2' : i < D.nb + 1 := hi
    by_cases e : i = D.nb
    · rw [e, upd_at]; exact ⟨h0, h1⟩
    · rw [upd_other _ _ _ _ e]; exact h.lm i (by omega)
theorem oks_none (o : Nat → Int) (k n : Nat) (T : Nat → Bool) (h : ∀ i, T i = false) : oks T o k n = [] := by
  unfold oks
  rw [List.filter_eq_nil_iff]
  intro i _
  simp [h i]
theorem CO.ci {L : BLoc} {D : BSt} {k : Nat} (h : CO L D k) (hk : 1 ≤ k) : CI L D 0 0 := by
  have hnb := h.nb
  have hk6 := h.k6
  refine ⟨by omega, by omega, h.pk, h.rt, h.nt, h.pt, h.dt, h.nv, h.pv, by rw [h.us]; rfl, fun i hi => by omega, fun i hi => by omega, fun i hi => ?_, fun i hi => ?_, fun i hi => (h.lm i hi).2, fun i => by rw [h.us]; exact ⟨Int.le_refl 0, (by decide : (0 : Int) ≤ 20)⟩⟩
  · have e1 := oks_none D.o1 i L.a.n D.nt (fun j => by rw [h.nt]; simp [thN])
    have e2 := oks_none D.o2 i L.b.n D.pt (fun j => by rw [h.pt]; simp [thN])
    have e3 := oks_none D.o3 i L.dn D.dt (fun j => by rw [h.dt])
    unfold ownN
    rw [e1, e2, e3, h.us, sumC_zero]
    rfl
  · rw [h.us]; exact (h.lm i hi).1
theorem CO.short {L : BLoc} {D : BSt} {k : Nat} (h : CO L D k) (q : Nat) (hq : q < k) (hk : k < 6) : (chL D.pr (q : Int)).length < 8 := by
  have := (chL_bound h.pk (by have := h.nb; have := h.k6; omega) (q + 1) q (by omega) (by have := h.nb; omega)).1
  omega
/-- Number, of a number in a row. -/
theorem num_f (x : Int) (h : -9223372036854775808 ≤ x ∧ x ≤ 9223372036854775807) (m : Nat) (hm0 : 0 < m) (hm1 : m ≤ 1000) (y : Int) (hy : Hid (y = (m : Int))) : ∃ r : Nat, r < m ∧ ∀ w, Calls Tryd.prog 71 #[.int .i64 x, .int .i64 y] w fun e w' => e = .returned (.int .i64 (r : Int)) ∧ w = w' := by
  rw [hy.out]
  exact number_nat x m m rfl hm0 hm1 h.1 h.2
theorem is_nil107 (w : World) : Calls Tryd.prog 20 #[.nilIface, .int .i64 107] w fun e w' => e = .returned (.bool false) ∧ Below w.heap.size w w' :=
  (is_any .nilIface 0 0 107 false w (FaultIs.nil w)).mono fun e w' h => ⟨by rw [h.1]; rfl, h.2⟩
theorem cw_node {w0 : World} {L : BLoc} {D : BSt} {a b : Nat} (hC : CI L D a b) (q : Nat) (hq : q < D.nb) (ha : a < L.a.n) (vs vr : Value) (hf : Hid ((chL D.pr (q : Int)).any (fullB D.us D.lm) = false)) (w : World) (h : BW w0 w L D) (hE : ErrsAt vs vr w) :
    Calls Tryd.prog 80 #[.pointer (some ⟨L.P, 0, none⟩), .int .i64 (q : Int), .slice none 0 0] w fun e w' => e = .returned (.tuple #[.int .i64 (a : Int), .int .i64 0, .nilIface]) ∧ ∃ E, BW w0 w' L E ∧ Hid (CI L E (a + 1) b ∧ E.nb = D.nb ∧ E.us q = D.us q + 1) := by
  refine (bnode_ok q hq vs vr none 0 0 (fun _ _ => 0) (Lib.hid (fun i hi => by omega)) (by decide) a ha (Lib.hid (by rw [hC.nt, hC.nv]; exact thN_free a)) (Lib.hid (by rw [hC.nt, hC.nv]; exact thN_not a)) 0 (Lib.hid (by rw [hC.nv])) hf (Lib.hid (fun i _ => by have := hC.ub i; omega)) w h hE (srcv_none L w _)).mono fun e w' hr => ⟨hr.1, _, hr.2.1, Lib.hid ⟨hC.node q hq hf.out ha _, rfl, ?_⟩⟩
  show addL D.us (chL D.pr q) 1 q = _
  rw [addL_ind]
  show D.us q + indL (chL D.pr (q : Int)) q = _
  rw [chL_cons hC.pk q hq hC.n256]; simp [indL]
theorem cw_page {w0 : World} {L : BLoc} {D : BSt} {a b : Nat} (hC : CI L D a b) (q : Nat) (hq : q < D.nb) (hb : b < L.b.n) (hf : Hid ((chL D.pr (q : Int)).any (fullB D.us D.lm) = false)) (w : World) (h : BW w0 w L D) :
    Calls Tryd.prog 81 #[.pointer (some ⟨L.P, 0, none⟩), .int .i64 (q : Int), .slice none 0 0] w fun e w' => e = .returned (.tuple #[.int .i64 (b : Int), .int .i64 0, .nilIface]) ∧ ∃ E, BW w0 w' L E ∧ Hid (CI L E a (b + 1) ∧ E.nb = D.nb ∧ E.us q = D.us q + 1) := by
  refine (bpage_ok q hq none 0 0 [] (Lib.hid rfl) (by decide) b hb (Lib.hid (by rw [hC.pt, hC.pv]; exact thN_free b)) (Lib.hid (by rw [hC.pt, hC.pv]; exact thN_not b)) 0 (Lib.hid (by rw [hC.pv])) hf (Lib.hid (fun i _ => by have := hC.ub i; omega)) w h (srcw_none L w)).mono fun e w' hr => ⟨hr.1, _, hr.2.1, Lib.hid ⟨hC.page q hq hf.out hb _, rfl, ?_⟩⟩
  show addL D.us (chL D.pr q) 1 q = _
  rw [addL_ind]
  show D.us q + indL (chL D.pr (q : Int)) q = _
  rw [chL_cons hC.pk q hq hC.n256]; simp [indL]
theorem cw_nodel {w0 : World} {L : BLoc} {D : BSt} (q : Nat) (hq : q < D.nb) (vs vr v : Value) (hf : Hid ((chL D.pr (q : Int)).any (fullB D.us D.lm) = true)) (w : World) (h : BW w0 w L D) (hE : ErrsAt vs vr w) (hc : w.cell? ⟨7, 0, none⟩ = some v) (hl : 7 < w.heap.size) :
    Calls Tryd.prog 80 #[.pointer (some ⟨L.P, 0, none⟩), .int .i64 (q : Int), .slice none 0 0] w fun e w' => e = .returned (.tuple #[.int .i64 0, .int .i64 0, v]) ∧ Below w.heap.size w w' :=
  bnode_limit q hq vs vr none 0 0 (fun _ _ => 0) (Lib.hid (fun i hi => by omega)) (by decide) hf v w h hE (srcv_none L w _) hc hl
theorem cw_pagel {w0 : World} {L : BLoc} {D : BSt} (q : Nat) (hq : q < D.nb) (v : Value) (hf : Hid ((chL D.pr (q : Int)).any (fullB D.us D.lm) = true)) (w : World) (h : BW w0 w L D) (hc : w.cell? ⟨7, 0, none⟩ = some v) (hl : 7 < w.heap.size) :
    Calls Tryd.prog 81 #[.pointer (some ⟨L.P, 0, none⟩), .int .i64 (q : Int), .slice none 0 0] w fun e w' => e = .returned (.tuple #[.int .i64 0, .int .i64 0, v]) ∧ Below w.heap.size w w' :=
  bpage_limit q hq none 0 0 [] (Lib.hid rfl) (by decide) hf v w h (srcw_none L w) hc hl
theorem sumC_bd (f : Nat → Int) (pr : Nat → Int) (k : Nat) (h : ∀ i, 0 ≤ f i ∧ f i ≤ 20) : ∀ n, 0 ≤ sumC f pr k n ∧ sumC f pr k n ≤ 20 * (n : Int) := by
  intro n
  induction n with
  | zero => exact ⟨Int.le_refl _, Int.le_refl _⟩
  | succ n ih => unfold sumC; have := h n; split <;> omega
set_option maxRecDepth 100000 in
set_option maxHeartbeats 8000000 in
theorem counts_walk (a0 : Option Addr) (len0 cap0 : Nat) (f0 : Nat → Int) (a1 : Option Addr) (len1 cap1 : Nat) (f1 : Nat → Int) (a2 : Option Addr) (len2 cap2 : Nat) (f2 : Nat → Int) (l0 : len0 ≤ 5) (l1 : len1 ≤ 6) (l2 : len2 ≤ 40) (w : World) (A : Nat → Addr) (hS : Sen A w) (r0 : RowF w a0 len0 f0) (r1 : RowF w a1 len1 f1) (r2 : RowF w a2 len2 f2) : Calls Tryd.prog 8 #[.slice a0 len0 cap0, .slice a1 len1 cap1, .slice a2 len2 cap2] w fun e w' => e = .returned (.bool true) ∧ Below w.heap.size w w' := by
  have HS := Lib.hid hS
  have HR0 := Lib.hid r0
  have HR1 := Lib.hid r1
  have HR2 := Lib.hid r2
  have d0 : decide ((5 : Int) < (len0 : Int)) = false := decide_eq_false (by omega)
  have d1 : decide ((6 : Int) < (len1 : Int)) = false := decide_eq_false (by omega)
  have d2 : decide ((40 : Int) < (len2 : Int)) = false := decide_eq_false (by omega)
  clear hS r0 r1 r2
  go_enter Tryd.func8, Tryd.ntmps8
  go_wp2_with (first
    | (go_at_call 73; (with_reducible refine (bfirst_is _ A HS.out).mono ?_); rintro e w1 ⟨rfl, hb1⟩; have HB1 := Lib.hid hb1; clear hb1)
    | (go_at_call 74; (with_reducible refine (made18_is 30 30 8 8 30 30 8 8 (Lib.hid ⟨rfl, rfl, rfl, rfl⟩) (by decide) (by decide) (by decide) (by decide) _).mono ?_); rintro e w2 ⟨L, rfl, hW, hn⟩; have HW1 := Lib.hid hW; have HN := Lib.hid hn.out; clear hW hn))
  go_loopw [11, 12] (fun x z wr => ∃ (k : Nat) (D : BSt), k ≤ len0 + 1 ∧ x = .int .i64 (k : Int) ∧ z = .int .i64 (k : Int) ∧ BW w1 wr L D ∧ Hid (CO L D k)) (fun x _ _ => len0 + 1 - (intOf x).toNat)
  case atStart => exact ⟨0, st0, Nat.zero_le _, rfl, rfl, HW1.out, Lib.hid (CO.st L)⟩
  case round =>
    obtain ⟨k, D, hk, rfl, rfl, hW, HC⟩ := hrel
    have HW := Lib.hid hW
    have HR0w := Lib.hid (HR0.out.below (HB1.out.trans (hW.bel.mono HB1.out.size)))
    have HR1w := Lib.hid (HR1.out.below (HB1.out.trans (hW.bel.mono HB1.out.size)))
    have g0 : (0 : Int) ≤ k := by omega
    clear hW
    by_cases hlt : k ≤ len0
    · obtain ⟨lim, hlim0, hlim1, hlimC⟩ : ∃ lim : Int, 0 ≤ lim ∧ lim ≤ 20 ∧ (k < len1 ∧ (∀ W, Calls Tryd.prog 71 #[.int .i64 (f1 k), .int .i64 20] W fun e w' => e = .returned (.int .i64 lim) ∧ W = w') ∨ ¬ k < len1 ∧ lim = 20) := by
        by_cases h : k < len1
        · obtain ⟨r, hr, hc⟩ := num_f (f1 k) (HR1.out.fit k h) 20 (by decide) (by decide) 20 (Lib.hid rfl)
          exact ⟨r, by omega, by omega, .inl ⟨h, hc⟩⟩
        · exact ⟨20, by decide, by decide, .inr ⟨h, rfl⟩⟩
      have HL := Lib.hid (show 0 ≤ lim ∧ lim ≤ 20 from ⟨hlim0, hlim1⟩)
      by_cases hk0 : k = 0
      · have t0 : ((k : Int) == 0) = true := by simp [hk0]
        have HK0 := Lib.hid hk0
        have HO := Lib.hid (HC.out.open (-1) lim (by decide) (by omega) (by omega) hlim0 hlim1 (by omega))
        clear hk0
        rcases hlimC with ⟨hl, hc⟩ | ⟨hl, rfl⟩
        · have HCN := Lib.hid hc
          obtain ⟨ad, e1, hb, hc1⟩ := HR1w.out.src k hl
          subst e1
          clear hc hb hlim0 hlim1
          go_wp2_with (first
            | (go_at_call 71; (with_reducible refine (HCN.out _).mono ?_); rintro e w2 ⟨rfl, rfl⟩)
            | (go_at_call 75; (with_reducible refine (bwroot_ok lim HL.out.1 (by have := HL.out; omega) (k : Int) (Lib.hid (by rw [HC.out.nb])) (by have := HC.out.nb; have := HN.out; omega) _ HW.out).mono ?_); rintro e w3 ⟨rfl, hW, hu⟩; have HW3 := Lib.hid hW; clear hW hu))
          go_roundw
          case rel => exact ⟨k + 1, _, by omega, by go_num, by go_num, HW3.out, HO⟩
          case measure => simp [intOf]; omega
        · clear hlim0 hlim1
          go_wp2_with (first
            | (go_at_call 75; (with_reducible refine (bwroot_ok 20 (by decide) (by decide) (k : Int) (Lib.hid (by rw [HC.out.nb])) (by have := HC.out.nb; have := HN.out; omega) _ HW.out).mono ?_); rintro e w3 ⟨rfl, hW, hu⟩; have HW3 := Lib.hid hW; clear hW hu))
          go_roundw
          case rel => exact ⟨k + 1, _, by omega, by go_num, by go_num, HW3.out, HO⟩
          case measure => simp [intOf]; omega
      · have t0 : ((k : Int) == 0) = false := by simpa using hk0
        obtain ⟨j, hj⟩ : ∃ j : Nat, j + 1 = k := ⟨k - 1, by omega⟩
        have hkj : (k : Int) - 1 = (j : Int) := by omega
        have hj0 : j < len0 := by omega
        obtain ⟨q, hq, hqc⟩ := num_f (f0 j) (HR0.out.fit j hj0) k (by omega) (by omega) (k : Int) (Lib.hid rfl)
        have HCQ := Lib.hid hqc
        have HO := Lib.hid (HC.out.open (q : Int) lim (by omega) (by omega) (by omega) hlim0 hlim1 (by omega))
        obtain ⟨ad0, e0, hb0, hc0⟩ := HR0w.out.src j hj0
        subst e0
        have HJ := Lib.hid hj
        have k1 : (1 : Int) ≤ k := by omega
        clear hk0 hqc hb0 hj
        rcases hlimC with ⟨hl, hc⟩ | ⟨hl, rfl⟩
        · have HCN := Lib.hid hc
          obtain ⟨ad, e1, hb, hc1⟩ := HR1w.out.src k hl
          subst e1
          clear hc hb hlim0 hlim1
          go_wp2_with (first
            | (go_at_call 71; (with_reducible refine (HCN.out _).mono ?_); rintro e w2 ⟨rfl, rfl⟩)
            | (go_at_call 71; (with_reducible refine (HCQ.out _).mono ?_); rintro e w2 ⟨rfl, rfl⟩)
            | (go_at_call 76; (with_reducible refine (bwsub_ok (q : Int) q (Lib.hid rfl) lim HL.out.1 (by have := HL.out; omega) (by rw [HC.out.nb]; exact hq) (k : Int) (Lib.hid (by rw [HC.out.nb])) (by have := HC.out.nb; have := HN.out; omega) (Lib.hid (HC.out.short q hq (by omega))) _ HW.out).mono ?_); rintro e w3 ⟨rfl, hW, hu⟩; have HW3 := Lib.hid hW; clear hW hu))
          go_roundw
          case rel => exact ⟨k + 1, _, by omega, by go_num, by go_num, HW3.out, HO⟩
          case measure => simp [intOf]; omega
        · clear hlim0 hlim1
          go_wp2_with (first
            | (go_at_call 71; (with_reducible refine (HCQ.out _).mono ?_); rintro e w2 ⟨rfl, rfl⟩)
            | (go_at_call 76; (with_reducible refine (bwsub_ok (q : Int) q (Lib.hid rfl) 20 (by decide) (by decide) (by rw [HC.out.nb]; exact hq) (k : Int) (Lib.hid (by rw [HC.out.nb])) (by have := HC.out.nb; have := HN.out; omega) (Lib.hid (HC.out.short q hq (by omega))) _ HW.out).mono ?_); rintro e w3 ⟨rfl, hW, hu⟩; have HW3 := Lib.hid hW; clear hW hu))
          go_roundw
          case rel => exact ⟨k + 1, _, by omega, by go_num, by go_num, HW3.out, HO⟩
          case measure => simp [intOf]; omega
    · have HCI := Lib.hid (HC.out.ci (by omega))
      have HNB := Lib.hid HC.out.nb
      have hk6 := HC.out.k6
      have hk1 : 1 ≤ k := by omega
      clear HR0w HR1w
      go_wp2_with fail
      go_loopw [15] (fun z wt => ∃ (i : Nat) (E : BSt) (a b : Nat), i ≤ len2 ∧ z = .int .i64 (i : Int) ∧ BW w1 wt L E ∧ Hid (CI L E a b ∧ E.nb = k)) (fun z _ => len2 - (intOf z).toNat)
      case atStart => exact ⟨0, D, 0, 0, Nat.zero_le _, rfl, HW.out, Lib.hid ⟨HCI.out, HNB.out⟩⟩
      case round =>
        clear HC HW HCI HNB hlt
        clear D
        obtain ⟨i, D, a, b, hi, rfl, hW, hC⟩ := hrel
        have HW := Lib.hid hW
        have HC := Lib.hid hC.out.1
        have HNB := Lib.hid hC.out.2
        have HR2w := Lib.hid (HR2.out.below (HB1.out.trans (hW.bel.mono HB1.out.size)))
        have i0 : (0 : Int) ≤ i := by omega
        clear hW hC
        by_cases hlt : i < len2
        · obtain ⟨q, hq, hqc⟩ := num_f (f2 i) (HR2.out.fit i hlt) k (by omega) (by omega) (k : Int) (Lib.hid rfl)
          have HCQ := Lib.hid hqc
          obtain ⟨ad, e1, hb, hc1⟩ := HR2w.out.src i hlt
          subst e1
          have HC1 := Lib.hid (show (ad.add i).block < wr.heap.size ∧ wr.cell? (ad.add i) = some (.int .i64 (f2 i)) from ⟨hb, hc1⟩)
          have HQ := Lib.hid hq
          clear hqc hb
          go_wp2_with (first
            | (go_at_call 71; (with_reducible refine (HCQ.out _).mono ?_); rintro e w2 ⟨rfl, rfl⟩))
          go_loopw [17, 18] (fun x y wc => ∃ (F : Bool) (yy : Int), x = .bool F ∧ y = .int .i64 yy ∧ -1 ≤ yy ∧ yy < D.nb ∧ Below wr.heap.size wr wc ∧ Hid (∃ xs, xs ++ chL D.pr yy = chL D.pr (q : Int) ∧ xs.any (fullB D.us D.lm) = F)) (fun _ y _ => (intOf y + 1).toNat)
          case atStart => exact ⟨false, (q : Int), rfl, rfl, by omega, by rw [HNB.out]; omega, Below.refl _ _, Lib.hid ⟨[], rfl, rfl⟩⟩
          case round =>
            obtain ⟨F, yy, rfl, rfl, y0, y1, hB, hX⟩ := hrel
            have HW2 := Lib.hid (HW.out.below hB)
            have HB2 := Lib.hid hB
            have HX := Lib.hid hX.out
            clear hB hX
            by_cases hge : 0 ≤ yy
            · obtain ⟨p, hp⟩ : ∃ p : Nat, yy = p := ⟨yy.toNat, by omega⟩
              subst hp
              have hpn : p < D.nb := by omega
              obtain ⟨up, hup⟩ : ∃ up, Hid (D.us p = up) := ⟨_, Lib.hid rfl⟩
              obtain ⟨lp, hlp⟩ : ∃ lp, Hid (D.lm p = lp) := ⟨_, Lib.hid rfl⟩
              obtain ⟨zp, hzp⟩ : ∃ zp, Hid (D.pr p = zp) := ⟨_, Lib.hid rfl⟩
              have hz := HC.out.pk p hpn
              rw [hzp.out] at hz
              obtain ⟨hz0, hz1⟩ := hz
              have HX2 : ∀ F', (F || decide (lp ≤ up)) = F' → Hid (∃ xs, xs ++ chL D.pr zp = chL D.pr (q : Int) ∧ xs.any (fullB D.us D.lm) = F') := fun F' hF' => Lib.hid (by
                obtain ⟨xs, e1, e2⟩ := HX.out
                rw [chL_cons HC.out.pk p hpn HC.out.n256, hzp.out] at e1
                refine ⟨xs ++ [(p : Int)], by rw [List.append_assoc]; exact e1, ?_⟩
                rw [List.any_append, e2, ← hF']
                simp [fullB, hup.out, hlp.out])
              have HXY := Lib.hid HX2
              clear HX2
              cases F
              · by_cases hf : lp ≤ up
                · have df : decide (lp ≤ up) = true := decide_eq_true hf
                  go_wp2_with (first
                    | (go_at_call 78; (with_reducible refine (bused_is p (p : Int) up (Lib.hid rfl) hpn HW2.out.nn hup _ HW2.out.kk).mono ?_); rintro e w2 ⟨rfl, rfl⟩)
                    | (go_at_call 79; (with_reducible refine (blimit_is p (p : Int) lp (Lib.hid rfl) hpn HW2.out.nn hlp _ HW2.out.kk).mono ?_); rintro e w2 ⟨rfl, rfl⟩)
                    | (go_at_call 77; (with_reducible refine (bparent_is p (p : Int) zp (Lib.hid rfl) hpn HW2.out.nn hzp _ HW2.out.kk).mono ?_); rintro e w2 ⟨rfl, rfl⟩))
                  go_roundw
                  case rel => exact ⟨true, zp, rfl, rfl, hz0, by omega, HB2.out, HXY.out true (by rw [df]; rfl)⟩
                  case measure => simp [intOf]; omega
                · have df : decide (lp ≤ up) = false := decide_eq_false hf
                  go_wp2_with (first
                    | (go_at_call 78; (with_reducible refine (bused_is p (p : Int) up (Lib.hid rfl) hpn HW2.out.nn hup _ HW2.out.kk).mono ?_); rintro e w2 ⟨rfl, rfl⟩)
                    | (go_at_call 79; (with_reducible refine (blimit_is p (p : Int) lp (Lib.hid rfl) hpn HW2.out.nn hlp _ HW2.out.kk).mono ?_); rintro e w2 ⟨rfl, rfl⟩)
                    | (go_at_call 77; (with_reducible refine (bparent_is p (p : Int) zp (Lib.hid rfl) hpn HW2.out.nn hzp _ HW2.out.kk).mono ?_); rintro e w2 ⟨rfl, rfl⟩))
                  go_roundw
                  case rel => exact ⟨false, zp, rfl, rfl, hz0, by omega, HB2.out, HXY.out false (by rw [df]; rfl)⟩
                  case measure => simp [intOf]; omega
              · go_wp2_with (first
                  | (go_at_call 77; (with_reducible refine (bparent_is p (p : Int) zp (Lib.hid rfl) hpn HW2.out.nn hzp _ HW2.out.kk).mono ?_); rintro e w2 ⟨rfl, rfl⟩))
                go_roundw
                case rel => exact ⟨true, zp, rfl, rfl, hz0, by omega, HB2.out, HXY.out true rfl⟩
                case measure => simp [intOf]; omega
            · have HF : Hid ((chL D.pr (q : Int)).any (fullB D.us D.lm) = F) := Lib.hid (by
                obtain ⟨xs, e1, e2⟩ := HX.out
                rw [chL_neg _ _ (by omega), List.append_nil] at e1
                rw [← e1, e2])
              have hqn : q < D.nb := by rw [HNB.out]; omega
              obtain ⟨uq, huq⟩ : ∃ uq, Hid (D.us q = uq) := ⟨_, Lib.hid rfl⟩
              have hc2 := (HB2.out.cell HC1.out.1).trans HC1.out.2
              clear hc1
              go_upto_region 34 with (first
                | (go_at_call 78; (with_reducible refine (bused_is q (q : Int) uq (Lib.hid rfl) hqn HW2.out.nn huq _ HW2.out.kk).mono ?_); rintro e w2 ⟨rfl, rfl⟩))
              have HSr : Hid (Sen A wr) := Lib.hid (HS.out.below (HB1.out.trans (HW2.out.bel.mono HB1.out.size)))
              have HEr : Hid (ErrsAt (eV (sA A 1)) (eV (sA A 2)) wr) := Lib.hid ⟨HSr.out.c1, HSr.out.c2, HSr.out.s1, HSr.out.s2⟩
              have hab : a < 30 ∧ b < 30 := by have h1 := HC.out.tot; have h2 := HC.out.ub 0; omega
              have HA : Hid (a < L.a.n ∧ b < L.b.n) := Lib.hid (by rw [HN.out.1, HN.out.2.1]; exact hab)
              clear hab
              have hfit := HR2.out.fit i hlt
              cases F
              · by_cases hev : (f2 i).tmod 2 = 0
                · have hd2 : ((f2 i).tmod 2 == 0) = true := by simp [hev]
                  clear hev
                  go_upto_region 37 with (first
                    | (go_at_call 80; (with_reducible refine (cw_node HC.out q hqn HA.out.1 _ _ HF _ HW2.out HEr.out).mono ?_); rintro e w5 ⟨rfl, E, hW, hE⟩; have HW5 := Lib.hid hW; have HE := hE; clear hW hE))
                  have HCE := Lib.hid HE.out.1
                  have HNE : Hid (E.nb = k) := Lib.hid (HE.out.2.1.trans HNB.out)
                  have HUE : Hid (E.us q = uq + 1) := Lib.hid (by rw [HE.out.2.2, huq.out])
                  have hqE : q < E.nb := by rw [HNE.out]; exact HQ.out
                  have hub : 0 ≤ uq ∧ uq ≤ 20 := by rw [← huq.out]; exact HC.out.ub q
                  have hwu : IntKind.i64.wrap (uq + 1) = uq + 1 := by rw [IntKind.wrap_i64]; omega
                  obtain ⟨wD, hwD⟩ : ∃ wD, Hid (wD = w5.drew) := ⟨_, Lib.hid rfl⟩
                  have HWD : Hid (BW w1 wD L E) := Lib.hid (by rw [hwD.out]; exact HW5.out.below (Below.refl _ _).drew)
                  refine wp_region_noPanic ?_; refine wp_region_held_drew (S := fun _ => True) (by kernel_rfl) trivial (fun hHeld => ?_); rw [← hwD.out]; refine wpAnyH_take (i := 0) (v := ?_) (by rfl) (by kernel_rfl) (by kernel_rfl) (by kernel_rfl) (fun _ _ _ h => h) (Or.inl ⟨by kernel_rfl, ?_⟩) (by assumption) ?_; rotate_left 1; (focus (intro w hSw; (try dsimp only at hSw); simp only [List.getElem_toArray, List.getElem_cons_succ, List.getElem_cons_zero]; all_goals go_simp; all_goals (try with_reducible rfl))); (try simp only [Act.put, List.getElem_toArray, List.getElem_cons_succ, List.getElem_cons_zero, List.setIfInBounds_toArray, List.set_cons_zero, List.set_cons_succ]); refine wpAnyH_take (i := 1) (v := ?_) (by rfl) (by kernel_rfl) (by kernel_rfl) (by kernel_rfl) (fun _ _ _ h => h) (Or.inl ⟨by kernel_rfl, ?_⟩) (by assumption) ?_; rotate_left 1; (focus (intro w hSw; (try dsimp only at hSw); simp only [List.getElem_toArray, List.getElem_cons_succ, List.getElem_cons_zero]; all_goals go_simp; all_goals (try with_reducible rfl))); (try simp only [Act.put, List.getElem_toArray, List.getElem_cons_succ, List.getElem_cons_zero, List.setIfInBounds_toArray, List.set_cons_zero, List.set_cons_succ]); refine wpAnyH_ready (rs := [2]) (by kernel_rfl) (by simp) ?_; refine AllReadyH.cons (by rfl) (fun K hK => ?_) AllReadyH.nil; rw [if_pos (by kernel_rfl)]; simp only [List.getElem_toArray, List.getElem_cons_succ, List.getElem_cons_zero]
                  go_wp2_with (first
                    | (go_at_call 20; (with_reducible refine (is_nil107 _).mono ?_); rintro e w6 ⟨rfl, hb⟩; have HW6 := Lib.hid (HWD.out.below hb); clear hb))
                  refine hK.out _ _ trivial (fun hHeld => ?_); clear hK K; (try simp only [Act.put, List.getElem_toArray, List.getElem_cons_succ, List.getElem_cons_zero, List.setIfInBounds_toArray, List.set_cons_zero, List.set_cons_succ]); refine wpAnyH_take (i := 3) (v := ?_) (by rfl) (by kernel_rfl) (by kernel_rfl) (by kernel_rfl) (fun _ _ _ h => h) (Or.inl ⟨by kernel_rfl, ?_⟩) (by assumption) ?_; rotate_left 1; (focus (intro w hSw; (try dsimp only at hSw); simp only [List.getElem_toArray, List.getElem_cons_succ, List.getElem_cons_zero]; all_goals go_simp; all_goals (try with_reducible rfl))); (try simp only [Act.put, List.getElem_toArray, List.getElem_cons_succ, List.getElem_cons_zero, List.setIfInBounds_toArray, List.set_cons_zero, List.set_cons_succ]); refine wpAnyH_take (i := 4) (v := ?_) (by rfl) (by kernel_rfl) (by kernel_rfl) (by kernel_rfl) (fun _ _ _ h => h) (Or.inl ⟨by kernel_rfl, ?_⟩) (by assumption) ?_; rotate_left 1; (focus (intro w hSw; (try dsimp only at hSw); simp only [List.getElem_toArray, List.getElem_cons_succ, List.getElem_cons_zero]; all_goals go_simp; all_goals (try with_reducible rfl))); (try simp only [Act.put, List.getElem_toArray, List.getElem_cons_succ, List.getElem_cons_zero, List.setIfInBounds_toArray, List.set_cons_zero, List.set_cons_succ]); refine wpAnyH_take (i := 5) (v := ?_) (by rfl) (by kernel_rfl) (by kernel_rfl) (by kernel_rfl) (fun _ _ _ h => h) (Or.inl ⟨by kernel_rfl, ?_⟩) (by assumption) ?_; rotate_left 1; (focus (intro w hSw; (try dsimp only at hSw); simp only [List.getElem_toArray, List.getElem_cons_succ, List.getElem_cons_zero]; all_goals go_simp; all_goals (try with_reducible rfl))); (try simp only [Act.put, List.getElem_toArray, List.getElem_cons_succ, List.getElem_cons_zero, List.setIfInBounds_toArray, List.set_cons_zero, List.set_cons_succ]); refine wpAnyH_take (i := 6) (v := ?_) (by rfl) (by kernel_rfl) (by kernel_rfl) (by kernel_rfl) (fun _ _ _ h => h) (Or.inl ⟨by kernel_rfl, ?_⟩) (by assumption) ?_; rotate_left 1; (focus (intro w hSw; (try dsimp only at hSw); simp only [List.getElem_toArray, List.getElem_cons_succ, List.getElem_cons_zero]; all_goals go_simp; all_goals (try with_reducible rfl))); (try simp only [Act.put, List.getElem_toArray, List.getElem_cons_succ, List.getElem_cons_zero, List.setIfInBounds_toArray, List.set_cons_zero, List.set_cons_succ]); refine wpAnyH_take (i := 7) (v := ?_) (by rfl) (by kernel_rfl) (by kernel_rfl) (by kernel_rfl) (fun _ _ _ h => h) (Or.inl ⟨by kernel_rfl, ?_⟩) (by assumption) ?_; rotate_left 1; (focus (intro w hSw; (try dsimp only at hSw); simp only [List.getElem_toArray, List.getElem_cons_succ, List.getElem_cons_zero]; all_goals go_simp; all_goals (try with_reducible rfl))); (try simp only [Act.put, List.getElem_toArray, List.getElem_cons_succ, List.getElem_cons_zero, List.setIfInBounds_toArray, List.set_cons_zero, List.set_cons_succ]); refine wpAnyH_take (i := 8) (v := ?_) (by rfl) (by kernel_rfl) (by kernel_rfl) (by kernel_rfl) (fun _ _ _ h => h) (Or.inl ⟨by kernel_rfl, ?_⟩) (by assumption) ?_; rotate_left 1; (focus (intro w hSw; (try dsimp only at hSw); simp only [List.getElem_toArray, List.getElem_cons_succ, List.getElem_cons_zero]; all_goals go_simp; all_goals (try with_reducible rfl))); (try simp only [Act.put, List.getElem_toArray, List.getElem_cons_succ, List.getElem_cons_zero, List.setIfInBounds_toArray, List.set_cons_zero, List.set_cons_succ]); refine wpAnyH_take (i := 10) (v := ?_) (by rfl) (by kernel_rfl) (by kernel_rfl) (by kernel_rfl) (fun _ _ _ h => h) (Or.inl ⟨by kernel_rfl, ?_⟩) (by assumption) ?_; rotate_left 1; (focus (intro w hSw; (try dsimp only at hSw); simp only [List.getElem_toArray, List.getElem_cons_succ, List.getElem_cons_zero]; all_goals go_simp; all_goals (try with_reducible rfl))); (try simp only [Act.put, List.getElem_toArray, List.getElem_cons_succ, List.getElem_cons_zero, List.setIfInBounds_toArray, List.set_cons_zero, List.set_cons_succ]); refine wpAnyH_take (i := 11) (v := ?_) (by rfl) (by kernel_rfl) (by kernel_rfl) (by kernel_rfl) (fun _ _ _ h => h) (Or.inl ⟨by kernel_rfl, ?_⟩) (by assumption) ?_; rotate_left 1; (focus (intro w hSw; (try dsimp only at hSw); simp only [List.getElem_toArray, List.getElem_cons_succ, List.getElem_cons_zero]; all_goals go_simp; all_goals (try with_reducible rfl))); (try simp only [Act.put, List.getElem_toArray, List.getElem_cons_succ, List.getElem_cons_zero, List.setIfInBounds_toArray, List.set_cons_zero, List.set_cons_succ]); refine wpAnyH_ready (rs := [9]) (by kernel_rfl) (by simp) ?_; refine AllReadyH.cons (by rfl) (fun K hK => ?_) AllReadyH.nil; rw [if_pos (by kernel_rfl)]; simp only [List.getElem_toArray, List.getElem_cons_succ, List.getElem_cons_zero]
                  go_wp2_with (first
                    | (go_at_call 78; (with_reducible refine (bused_is q (q : Int) (uq + 1) (Lib.hid rfl) hqE HW6.out.nn HUE _ HW6.out.kk).mono ?_); rintro e w7 ⟨rfl, rfl⟩))
                  refine hK.out _ _ trivial (fun hHeld => ?_); clear hK K; (try simp only [Act.put, List.getElem_toArray, List.getElem_cons_succ, List.getElem_cons_zero, List.setIfInBounds_toArray, List.set_cons_zero, List.set_cons_succ]); refine wpAnyH_take (i := 12) (v := ?_) (by rfl) (by kernel_rfl) (by kernel_rfl) (by kernel_rfl) (fun _ _ _ h => h) (Or.inl ⟨by kernel_rfl, ?_⟩) (by assumption) ?_; rotate_left 1; (focus (intro w hSw; (try dsimp only at hSw); simp only [List.getElem_toArray, List.getElem_cons_succ, List.getElem_cons_zero]; all_goals go_simp; all_goals (try with_reducible rfl))); (try simp only [Act.put, List.getElem_toArray, List.getElem_cons_succ, List.getElem_cons_zero, List.setIfInBounds_toArray, List.set_cons_zero, List.set_cons_succ]); refine wpAnyH_take (i := 13) (v := ?_) (by rfl) (by kernel_rfl) (by kernel_rfl) (by kernel_rfl) (fun _ _ _ h => h) (Or.inl ⟨by kernel_rfl, ?_⟩) (by assumption) ?_; rotate_left 1; (focus (intro w hSw; (try dsimp only at hSw); simp only [List.getElem_toArray, List.getElem_cons_succ, List.getElem_cons_zero]; all_goals go_simp; all_goals (try with_reducible rfl))); (try simp only [Act.put, List.getElem_toArray, List.getElem_cons_succ, List.getElem_cons_zero, List.setIfInBounds_toArray, List.set_cons_zero, List.set_cons_succ]); refine wpAnyH_take (i := 14) (v := ?_) (by rfl) (by kernel_rfl) (by kernel_rfl) (by kernel_rfl) (fun _ _ _ h => h) (Or.inl ⟨by kernel_rfl, ?_⟩) (by assumption) ?_; rotate_left 1; (focus (intro w hSw; (try dsimp only at hSw); simp only [List.getElem_toArray, List.getElem_cons_succ, List.getElem_cons_zero]; all_goals go_simp; all_goals (try with_reducible rfl))); (try simp only [Act.put, List.getElem_toArray, List.getElem_cons_succ, List.getElem_cons_zero, List.setIfInBounds_toArray, List.set_cons_zero, List.set_cons_succ]); refine wpAnyH_done (by kernel_rfl) ?_ _; refine NoPanic.normal ?_; clear hHeld
                  go_wp2_with fail
                  go_loopw [21] (fun zz wk => ∃ kk : Nat, kk ≤ k ∧ zz = .int .i64 (kk : Int) ∧ BW w1 wk L E) (fun zz _ => k - (intOf zz).toNat)
                  case atStart => exact ⟨0, Nat.zero_le _, rfl, HW6.out⟩
                  case round =>
                    obtain ⟨kk, hkk, rfl, hWk⟩ := hrel
                    have HWk := Lib.hid hWk
                    clear hWk
                    have kk0 : (0 : Int) ≤ kk := by omega
                    by_cases hlk : kk < k
                    · have hkn : kk < E.nb := by rw [HNE.out]; exact hlk
                      obtain ⟨m, hm⟩ : ∃ m, Hid (ownN L E kk = m) := ⟨_, Lib.hid rfl⟩
                      have hmb : m ≤ 68 := by
                        rw [← hm.out]
                        have z1 := oks_len E.nt E.o1 kk L.a.n
                        have z2 := oks_len E.pt E.o2 kk L.b.n
                        have z3 := oks_len E.dt E.o3 kk L.dn
                        have z4 := HN.out
                        unfold ownN
                        omega
                      obtain ⟨lk, hlm⟩ : ∃ lk, Hid (E.lm kk = lk) := ⟨_, Lib.hid rfl⟩
                      go_wp2_with (first
                        | (go_at_call 82; (with_reducible refine (bowned_is kk hkn HCE.out.ow _ HWk.out).mono ?_); rintro e w8 ⟨v8, rfl, hb, hr⟩; rw [hm.out] at hr; obtain ⟨va, vc, hva⟩ := own_shape' hr; subst hva; have HW8 := Lib.hid (HWk.out.below hb); clear hr hb))
                      go_loopw [22, 23] (fun x y wj => ∃ j : Nat, j ≤ k ∧ y = .int .i64 (j : Int) ∧ x = .int .i64 ((m : Int) + sumC E.us E.pr kk j) ∧ BW w1 wj L E) (fun _ y _ => k - (intOf y).toNat)
                      case atStart => exact ⟨0, Nat.zero_le _, rfl, by show _ = Value.int .i64 ((m : Int) + 0); rw [Int.add_zero], HW8.out⟩
                      case round =>
                        obtain ⟨j, hj, rfl, rfl, hWj⟩ := hrel
                        have HWj := Lib.hid hWj
                        clear hWj
                        have j0 : (0 : Int) ≤ j := by omega
                        obtain ⟨S, hS⟩ : ∃ S, Hid ((m : Int) + sumC E.us E.pr kk j = S) := ⟨_, Lib.hid rfl⟩
                        rw [hS.out]
                        have hSb : 0 ≤ S ∧ S ≤ 1000 := by
                          have z1 := sumC_bd E.us E.pr kk HCE.out.ub j
                          have z2 := hS.out
                          omega
                        by_cases hjk : j < k
                        · have hjn : j < E.nb := by rw [HNE.out]; exact hjk
                          obtain ⟨zj, hzj⟩ : ∃ zj, Hid (E.pr j = zj) := ⟨_, Lib.hid rfl⟩
                          obtain ⟨uj, huj⟩ : ∃ uj, Hid (E.us j = uj) := ⟨_, Lib.hid rfl⟩
                          have hub2 : 0 ≤ uj ∧ uj ≤ 20 := by rw [← huj.out]; exact HCE.out.ub j
                          by_cases hzk : zj = (kk : Int)
                          · have tz : (zj == (kk : Int)) = true := by simp [hzk]
                            have HSJ : Hid (S + uj = (m : Int) + sumC E.us E.pr kk (j + 1)) := Lib.hid (by
                              show _ = (m : Int) + (sumC E.us E.pr kk j + (if E.pr j = (kk : Int) then E.us j else 0))
                              rw [hzj.out, if_pos hzk, huj.out, ← hS.out]; omega)
                            clear hzk
                            have hws : IntKind.i64.wrap (S + uj) = S + uj := by rw [IntKind.wrap_i64]; omega
                            go_wp2_with (first
                              | (go_at_call 77; (with_reducible refine (bparent_is j (j : Int) zj (Lib.hid rfl) hjn HWj.out.nn hzj _ HWj.out.kk).mono ?_); rintro e w9 ⟨rfl, rfl⟩)
                              | (go_at_call 78; (with_reducible refine (bused_is j (j : Int) uj (Lib.hid rfl) hjn HWj.out.nn huj _ HWj.out.kk).mono ?_); rintro e w9 ⟨rfl, rfl⟩))
                            go_roundw
                            case rel => exact ⟨j + 1, by omega, by go_num, by rw [HSJ.out], HWj.out⟩
                            case measure => simp [intOf]; omega
                          · have tz : (zj == (kk : Int)) = false := by simpa using hzk
                            have HSJ : Hid (S = (m : Int) + sumC E.us E.pr kk (j + 1)) := Lib.hid (by
                              show _ = (m : Int) + (sumC E.us E.pr kk j + (if E.pr j = (kk : Int) then E.us j else 0))
                              rw [hzj.out, if_neg hzk, ← hS.out]; omega)
                            clear hzk
                            go_wp2_with (first
                              | (go_at_call 77; (with_reducible refine (bparent_is j (j : Int) zj (Lib.hid rfl) hjn HWj.out.nn hzj _ HWj.out.kk).mono ?_); rintro e w9 ⟨rfl, rfl⟩))
                            go_roundw
                            case rel => exact ⟨j + 1, by omega, by go_num, by rw [← HSJ.out], HWj.out⟩
                            case measure => simp [intOf]; omega
                        · have HSk : Hid (E.us kk = S) := Lib.hid (by
                            have z1 := HCE.out.sum kk hkn
                            have e : j = k := by omega
                            rw [z1, hm.out, HNE.out, ← hS.out, e])
                          have hle : S ≤ lk := by rw [← HSk.out, ← hlm.out]; exact HCE.out.le kk hkn
                          have hd : decide (lk < S) = false := decide_eq_false (by omega)
                          go_wp2_with (first
                            | (go_at_call 78; (with_reducible refine (bused_is kk (kk : Int) S (Lib.hid rfl) hkn HWj.out.nn HSk _ HWj.out.kk).mono ?_); rintro e w9 ⟨rfl, rfl⟩)
                            | (go_at_call 79; (with_reducible refine (blimit_is kk (kk : Int) lk (Lib.hid rfl) hkn HWj.out.nn hlm _ HWj.out.kk).mono ?_); rintro e w9 ⟨rfl, rfl⟩))
                          go_roundw
                          case rel => exact ⟨kk + 1, by omega, by go_num, HWj.out⟩
                          case measure => simp [intOf]; omega
                    · go_wp2_with fail
                      go_roundw
                      case rel => exact ⟨i + 1, E, a + 1, b, by omega, by go_num, HWk.out, Lib.hid ⟨HCE.out, HNE.out⟩⟩
                      case measure => simp [intOf]; omega
                · have hd2 : ((f2 i).tmod 2 == 0) = false := by simp [hev]
                  clear hev
                  go_upto_region 37 with (first
                    | (go_at_call 81; (with_reducible refine (cw_page HC.out q hqn HA.out.2 HF _ HW2.out).mono ?_); rintro e w5 ⟨rfl, E, hW, hE⟩; have HW5 := Lib.hid hW; have HE := hE; clear hW hE))
                  have HCE := Lib.hid HE.out.1
                  have HNE : Hid (E.nb = k) := Lib.hid (HE.out.2.1.trans HNB.out)
                  have HUE : Hid (E.us q = uq + 1) := Lib.hid (by rw [HE.out.2.2, huq.out])
                  have hqE : q < E.nb := by rw [HNE.out]; exact HQ.out
                  have hub : 0 ≤ uq ∧ uq ≤ 20 := by rw [← huq.out]; exact HC.out.ub q
                  have hwu : IntKind.i64.wrap (uq + 1) = uq + 1 := by rw [IntKind.wrap_i64]; omega
                  obtain ⟨wD, hwD⟩ : ∃ wD, Hid (wD = w5.drew) := ⟨_, Lib.hid rfl⟩
                  have HWD : Hid (BW w1 wD L E) := Lib.hid (by rw [hwD.out]; exact HW5.out.below (Below.refl _ _).drew)
                  refine wp_region_noPanic ?_; refine wp_region_held_drew (S := fun _ => True) (by kernel_rfl) trivial (fun hHeld => ?_); rw [← hwD.out]; refine wpAnyH_take (i := 0) (v := ?_) (by rfl) (by kernel_rfl) (by kernel_rfl) (by kernel_rfl) (fun _ _ _ h => h) (Or.inl ⟨by kernel_rfl, ?_⟩) (by assumption) ?_; rotate_left 1; (focus (intro w hSw; (try dsimp only at hSw); simp only [List.getElem_toArray, List.getElem_cons_succ, List.getElem_cons_zero]; all_goals go_simp; all_goals (try with_reducible rfl))); (try simp only [Act.put, List.getElem_toArray, List.getElem_cons_succ, List.getElem_cons_zero, List.setIfInBounds_toArray, List.set_cons_zero, List.set_cons_succ]); refine wpAnyH_take (i := 1) (v := ?_) (by rfl) (by kernel_rfl) (by kernel_rfl) (by kernel_rfl) (fun _ _ _ h => h) (Or.inl ⟨by kernel_rfl, ?_⟩) (by assumption) ?_; rotate_left 1; (focus (intro w hSw; (try dsimp only at hSw); simp only [List.getElem_toArray, List.getElem_cons_succ, List.getElem_cons_zero]; all_goals go_simp; all_goals (try with_reducible rfl))); (try simp only [Act.put, List.getElem_toArray, List.getElem_cons_succ, List.getElem_cons_zero, List.setIfInBounds_toArray, List.set_cons_zero, List.set_cons_succ]); refine wpAnyH_ready (rs := [2]) (by kernel_rfl) (by simp) ?_; refine AllReadyH.cons (by rfl) (fun K hK => ?_) AllReadyH.nil; rw [if_pos (by kernel_rfl)]; simp only [List.getElem_toArray, List.getElem_cons_succ, List.getElem_cons_zero]
                  go_wp2_with (first
                    | (go_at_call 20; (with_reducible refine (is_nil107 _).mono ?_); rintro e w6 ⟨rfl, hb⟩; have HW6 := Lib.hid (HWD.out.below hb); clear hb))
                  refine hK.out _ _ trivial (fun hHeld => ?_); clear hK K; (try simp only [Act.put, List.getElem_toArray, List.getElem_cons_succ, List.getElem_cons_zero, List.setIfInBounds_toArray, List.set_cons_zero, List.set_cons_succ]); refine wpAnyH_take (i := 3) (v := ?_) (by rfl) (by kernel_rfl) (by kernel_rfl) (by kernel_rfl) (fun _ _ _ h => h) (Or.inl ⟨by kernel_rfl, ?_⟩) (by assumption) ?_; rotate_left 1; (focus (intro w hSw; (try dsimp only at hSw); simp only [List.getElem_toArray, List.getElem_cons_succ, List.getElem_cons_zero]; all_goals go_simp; all_goals (try with_reducible rfl))); (try simp only [Act.put, List.getElem_toArray, List.getElem_cons_succ, List.getElem_cons_zero, List.setIfInBounds_toArray, List.set_cons_zero, List.set_cons_succ]); refine wpAnyH_take (i := 4) (v := ?_) (by rfl) (by kernel_rfl) (by kernel_rfl) (by kernel_rfl) (fun _ _ _ h => h) (Or.inl ⟨by kernel_rfl, ?_⟩) (by assumption) ?_; rotate_left 1; (focus (intro w hSw; (try dsimp only at hSw); simp only [List.getElem_toArray, List.getElem_cons_succ, List.getElem_cons_zero]; all_goals go_simp; all_goals (try with_reducible rfl))); (try simp only [Act.put, List.getElem_toArray, List.getElem_cons_succ, List.getElem_cons_zero, List.setIfInBounds_toArray, List.set_cons_zero, List.set_cons_succ]); refine wpAnyH_take (i := 5) (v := ?_) (by rfl) (by kernel_rfl) (by kernel_rfl) (by kernel_rfl) (fun _ _ _ h => h) (Or.inl ⟨by kernel_rfl, ?_⟩) (by assumption) ?_; rotate_left 1; (focus (intro w hSw; (try dsimp only at hSw); simp only [List.getElem_toArray, List.getElem_cons_succ, List.getElem_cons_zero]; all_goals go_simp; all_goals (try with_reducible rfl))); (try simp only [Act.put, List.getElem_toArray, List.getElem_cons_succ, List.getElem_cons_zero, List.setIfInBounds_toArray, List.set_cons_zero, List.set_cons_succ]); refine wpAnyH_take (i := 6) (v := ?_) (by rfl) (by kernel_rfl) (by kernel_rfl) (by kernel_rfl) (fun _ _ _ h => h) (Or.inl ⟨by kernel_rfl, ?_⟩) (by assumption) ?_; rotate_left 1; (focus (intro w hSw; (try dsimp only at hSw); simp only [List.getElem_toArray, List.getElem_cons_succ, List.getElem_cons_zero]; all_goals go_simp; all_goals (try with_reducible rfl))); (try simp only [Act.put, List.getElem_toArray, List.getElem_cons_succ, List.getElem_cons_zero, List.setIfInBounds_toArray, List.set_cons_zero, List.set_cons_succ]); refine wpAnyH_take (i := 7) (v := ?_) (by rfl) (by kernel_rfl) (by kernel_rfl) (by kernel_rfl) (fun _ _ _ h => h) (Or.inl ⟨by kernel_rfl, ?_⟩) (by assumption) ?_; rotate_left 1; (focus (intro w hSw; (try dsimp only at hSw); simp only [List.getElem_toArray, List.getElem_cons_succ, List.getElem_cons_zero]; all_goals go_simp; all_goals (try with_reducible rfl))); (try simp only [Act.put, List.getElem_toArray, List.getElem_cons_succ, List.getElem_cons_zero, List.setIfInBounds_toArray, List.set_cons_zero, List.set_cons_succ]); refine wpAnyH_take (i := 8) (v := ?_) (by rfl) (by kernel_rfl) (by kernel_rfl) (by kernel_rfl) (fun _ _ _ h => h) (Or.inl ⟨by kernel_rfl, ?_⟩) (by assumption) ?_; rotate_left 1; (focus (intro w hSw; (try dsimp only at hSw); simp only [List.getElem_toArray, List.getElem_cons_succ, List.getElem_cons_zero]; all_goals go_simp; all_goals (try with_reducible rfl))); (try simp only [Act.put, List.getElem_toArray, List.getElem_cons_succ, List.getElem_cons_zero, List.setIfInBounds_toArray, List.set_cons_zero, List.set_cons_succ]); refine wpAnyH_take (i := 10) (v := ?_) (by rfl) (by kernel_rfl) (by kernel_rfl) (by kernel_rfl) (fun _ _ _ h => h) (Or.inl ⟨by kernel_rfl, ?_⟩) (by assumption) ?_; rotate_left 1; (focus (intro w hSw; (try dsimp only at hSw); simp only [List.getElem_toArray, List.getElem_cons_succ, List.getElem_cons_zero]; all_goals go_simp; all_goals (try with_reducible rfl))); (try simp only [Act.put, List.getElem_toArray, List.getElem_cons_succ, List.getElem_cons_zero, List.setIfInBounds_toArray, List.set_cons_zero, List.set_cons_succ]); refine wpAnyH_take (i := 11) (v := ?_) (by rfl) (by kernel_rfl) (by kernel_rfl) (by kernel_rfl) (fun _ _ _ h => h) (Or.inl ⟨by kernel_rfl, ?_⟩) (by assumption) ?_; rotate_left 1; (focus (intro w hSw; (try dsimp only at hSw); simp only [List.getElem_toArray, List.getElem_cons_succ, List.getElem_cons_zero]; all_goals go_simp; all_goals (try with_reducible rfl))); (try simp only [Act.put, List.getElem_toArray, List.getElem_cons_succ, List.getElem_cons_zero, List.setIfInBounds_toArray, List.set_cons_zero, List.set_cons_succ]); refine wpAnyH_ready (rs := [9]) (by kernel_rfl) (by simp) ?_; refine AllReadyH.cons (by rfl) (fun K hK => ?_) AllReadyH.nil; rw [if_pos (by kernel_rfl)]; simp only [List.getElem_toArray, List.getElem_cons_succ, List.getElem_cons_zero]
                  go_wp2_with (first
                    | (go_at_call 78; (with_reducible refine (bused_is q (q : Int) (uq + 1) (Lib.hid rfl) hqE HW6.out.nn HUE _ HW6.out.kk).mono ?_); rintro e w7 ⟨rfl, rfl⟩))
                  refine hK.out _ _ trivial (fun hHeld => ?_); clear hK K; (try simp only [Act.put, List.getElem_toArray, List.getElem_cons_succ, List.getElem_cons_zero, List.setIfInBounds_toArray, List.set_cons_zero, List.set_cons_succ]); refine wpAnyH_take (i := 12) (v := ?_) (by rfl) (by kernel_rfl) (by kernel_rfl) (by kernel_rfl) (fun _ _ _ h => h) (Or.inl ⟨by kernel_rfl, ?_⟩) (by assumption) ?_; rotate_left 1; (focus (intro w hSw; (try dsimp only at hSw); simp only [List.getElem_toArray, List.getElem_cons_succ, List.getElem_cons_zero]; all_goals go_simp; all_goals (try with_reducible rfl))); (try simp only [Act.put, List.getElem_toArray, List.getElem_cons_succ, List.getElem_cons_zero, List.setIfInBounds_toArray, List.set_cons_zero, List.set_cons_succ]); refine wpAnyH_take (i := 13) (v := ?_) (by rfl) (by kernel_rfl) (by kernel_rfl) (by kernel_rfl) (fun _ _ _ h => h) (Or.inl ⟨by kernel_rfl, ?_⟩) (by assumption) ?_; rotate_left 1; (focus (intro w hSw; (try dsimp only at hSw); simp only [List.getElem_toArray, List.getElem_cons_succ, List.getElem_cons_zero]; all_goals go_simp; all_goals (try with_reducible rfl))); (try simp only [Act.put, List.getElem_toArray, List.getElem_cons_succ, List.getElem_cons_zero, List.setIfInBounds_toArray, List.set_cons_zero, List.set_cons_succ]); refine wpAnyH_take (i := 14) (v := ?_) (by rfl) (by kernel_rfl) (by kernel_rfl) (by kernel_rfl) (fun _ _ _ h => h) (Or.inl ⟨by kernel_rfl, ?_⟩) (by assumption) ?_; rotate_left 1; (focus (intro w hSw; (try dsimp only at hSw); simp only [List.getElem_toArray, List.getElem_cons_succ, List.getElem_cons_zero]; all_goals go_simp; all_goals (try with_reducible rfl))); (try simp only [Act.put, List.getElem_toArray, List.getElem_cons_succ, List.getElem_cons_zero, List.setIfInBounds_toArray, List.set_cons_zero, List.set_cons_succ]); refine wpAnyH_done (by kernel_rfl) ?_ _; refine NoPanic.normal ?_; clear hHeld
                  go_wp2_with fail
                  go_loopw [21] (fun zz wk => ∃ kk : Nat, kk ≤ k ∧ zz = .int .i64 (kk : Int) ∧ BW w1 wk L E) (fun zz _ => k - (intOf zz).toNat)
                  case atStart => exact ⟨0, Nat.zero_le _, rfl, HW6.out⟩
                  case round =>
                    obtain ⟨kk, hkk, rfl, hWk⟩ := hrel
                    have HWk := Lib.hid hWk
                    clear hWk
                    have kk0 : (0 : Int) ≤ kk := by omega
                    by_cases hlk : kk < k
                    · have hkn : kk < E.nb := by rw [HNE.out]; exact hlk
                      obtain ⟨m, hm⟩ : ∃ m, Hid (ownN L E kk = m) := ⟨_, Lib.hid rfl⟩
                      have hmb : m ≤ 68 := by
                        rw [← hm.out]
                        have z1 := oks_len E.nt E.o1 kk L.a.n
                        have z2 := oks_len E.pt E.o2 kk L.b.n
                        have z3 := oks_len E.dt E.o3 kk L.dn
                        have z4 := HN.out
                        unfold ownN
                        omega
                      obtain ⟨lk, hlm⟩ : ∃ lk, Hid (E.lm kk = lk) := ⟨_, Lib.hid rfl⟩
                      go_wp2_with (first
                        | (go_at_call 82; (with_reducible refine (bowned_is kk hkn HCE.out.ow _ HWk.out).mono ?_); rintro e w8 ⟨v8, rfl, hb, hr⟩; rw [hm.out] at hr; obtain ⟨va, vc, hva⟩ := own_shape' hr; subst hva; have HW8 := Lib.hid (HWk.out.below hb); clear hr hb))
                      go_loopw [22, 23] (fun x y wj => ∃ j : Nat, j ≤ k ∧ y = .int .i64 (j : Int) ∧ x = .int .i64 ((m : Int) + sumC E.us E.pr kk j) ∧ BW w1 wj L E) (fun _ y _ => k - (intOf y).toNat)
                      case atStart => exact ⟨0, Nat.zero_le _, rfl, by show _ = Value.int .i64 ((m : Int) + 0); rw [Int.add_zero], HW8.out⟩
                      case round =>
                        obtain ⟨j, hj, rfl, rfl, hWj⟩ := hrel
                        have HWj := Lib.hid hWj
                        clear hWj
                        have j0 : (0 : Int) ≤ j := by omega
                        obtain ⟨S, hS⟩ : ∃ S, Hid ((m : Int) + sumC E.us E.pr kk j = S) := ⟨_, Lib.hid rfl⟩
                        rw [hS.out]
                        have hSb : 0 ≤ S ∧ S ≤ 1000 := by
                          have z1 := sumC_bd E.us E.pr kk HCE.out.ub j
                          have z2 := hS.out
                          omega
                        by_cases hjk : j < k
                        · have hjn : j < E.nb := by rw [HNE.out]; exact hjk
                          obtain ⟨zj, hzj⟩ : ∃ zj, Hid (E.pr j = zj) := ⟨_, Lib.hid rfl⟩
                          obtain ⟨uj, huj⟩ : ∃ uj, Hid (E.us j = uj) := ⟨_, Lib.hid rfl⟩
                          have hub2 : 0 ≤ uj ∧ uj ≤ 20 := by rw [← huj.out]; exact HCE.out.ub j
                          by_cases hzk : zj = (kk : Int)
                          · have tz : (zj == (kk : Int)) = true := by simp [hzk]
                            have HSJ : Hid (S + uj = (m : Int) + sumC E.us E.pr kk (j + 1)) := Lib.hid (by
                              show _ = (m : Int) + (sumC E.us E.pr kk j + (if E.pr j = (kk : Int) then E.us j else 0))
                              rw [hzj.out, if_pos hzk, huj.out, ← hS.out]; omega)
                            clear hzk
                            have hws : IntKind.i64.wrap (S + uj) = S + uj := by rw [IntKind.wrap_i64]; omega
                            go_wp2_with (first
                              | (go_at_call 77; (with_reducible refine (bparent_is j (j : Int) zj (Lib.hid rfl) hjn HWj.out.nn hzj _ HWj.out.kk).mono ?_); rintro e w9 ⟨rfl, rfl⟩)
                              | (go_at_call 78; (with_reducible refine (bused_is j (j : Int) uj (Lib.hid rfl) hjn HWj.out.nn huj _ HWj.out.kk).mono ?_); rintro e w9 ⟨rfl, rfl⟩))
                            go_roundw
                            case rel => exact ⟨j + 1, by omega, by go_num, by rw [HSJ.out], HWj.out⟩
                            case measure => simp [intOf]; omega
                          · have tz : (zj == (kk : Int)) = false := by simpa using hzk
                            have HSJ : Hid (S = (m : Int) + sumC E.us E.pr kk (j + 1)) := Lib.hid (by
                              show _ = (m : Int) + (sumC E.us E.pr kk j + (if E.pr j = (kk : Int) then E.us j else 0))
                              rw [hzj.out, if_neg hzk, ← hS.out]; omega)
                            clear hzk
                            go_wp2_with (first
                              | (go_at_call 77; (with_reducible refine (bparent_is j (j : Int) zj (Lib.hid rfl) hjn HWj.out.nn hzj _ HWj.out.kk).mono ?_); rintro e w9 ⟨rfl, rfl⟩))
                            go_roundw
                            case rel => exact ⟨j + 1, by omega, by go_num, by rw [← HSJ.out], HWj.out⟩
                            case measure => simp [intOf]; omega
                        · have HSk : Hid (E.us kk = S) := Lib.hid (by
                            have z1 := HCE.out.sum kk hkn
                            have e : j = k := by omega
                            rw [z1, hm.out, HNE.out, ← hS.out, e])
                          have hle : S ≤ lk := by rw [← HSk.out, ← hlm.out]; exact HCE.out.le kk hkn
                          have hd : decide (lk < S) = false := decide_eq_false (by omega)
                          go_wp2_with (first
                            | (go_at_call 78; (with_reducible refine (bused_is kk (kk : Int) S (Lib.hid rfl) hkn HWj.out.nn HSk _ HWj.out.kk).mono ?_); rintro e w9 ⟨rfl, rfl⟩)
                            | (go_at_call 79; (with_reducible refine (blimit_is kk (kk : Int) lk (Lib.hid rfl) hkn HWj.out.nn hlm _ HWj.out.kk).mono ?_); rintro e w9 ⟨rfl, rfl⟩))
                          go_roundw
                          case rel => exact ⟨kk + 1, by omega, by go_num, HWj.out⟩
                          case measure => simp [intOf]; omega
                    · go_wp2_with fail
                      go_roundw
                      case rel => exact ⟨i + 1, E, a, b + 1, by omega, by go_num, HWk.out, Lib.hid ⟨HCE.out, HNE.out⟩⟩
                      case measure => simp [intOf]; omega
              · by_cases hev : (f2 i).tmod 2 = 0
                · have hd2 : ((f2 i).tmod 2 == 0) = true := by simp [hev]
                  clear hev
                  go_upto_region 37 with (first
                    | (go_at_call 80; (with_reducible refine (cw_nodel q hqn _ _ (eV (sA A 6)) HF _ HW2.out HEr.out HSr.out.c6 HSr.out.s6).mono ?_); rintro e w5 ⟨rfl, hb⟩; have HW5 := Lib.hid (HW2.out.below hb); have HS5 := Lib.hid (HSr.out.below hb); clear hb))
                  obtain ⟨E, hED⟩ : ∃ E, Hid (E = D) := ⟨_, Lib.hid rfl⟩
                  rw [← hED.out] at HW5
                  have HCE : Hid (CI L E a b) := Lib.hid (by rw [hED.out]; exact HC.out)
                  have HNE : Hid (E.nb = k) := Lib.hid (by rw [hED.out]; exact HNB.out)
                  have HUE : Hid (E.us q = uq) := Lib.hid (by rw [hED.out]; exact huq.out)
                  have hqE : q < E.nb := by rw [HNE.out]; exact HQ.out
                  have hub : 0 ≤ uq ∧ uq ≤ 20 := by rw [← huq.out]; exact HC.out.ub q
                  have hwu : IntKind.i64.wrap (uq + 1) = uq + 1 := by rw [IntKind.wrap_i64]; omega
                  have hne : (uq == uq + 1) = false := by have : ¬ uq = uq + 1 := (by omega); simpa using this
                  obtain ⟨wD, hwD⟩ : ∃ wD, Hid (wD = w5.drew) := ⟨_, Lib.hid rfl⟩
                  have HWD : Hid (BW w1 wD L E) := Lib.hid (by rw [hwD.out]; exact HW5.out.below (Below.refl _ _).drew)
                  have HSD : Hid (Sen A wD) := Lib.hid (by rw [hwD.out]; exact HS5.out.below (Below.refl _ _).drew)
                  refine wp_region_noPanic ?_; refine wp_region_held_drew (S := fun _ => True) (by kernel_rfl) trivial (fun hHeld => ?_); rw [← hwD.out]; refine wpAnyH_take (i := 0) (v := ?_) (by rfl) (by kernel_rfl) (by kernel_rfl) (by kernel_rfl) (fun _ _ _ h => h) (Or.inl ⟨by kernel_rfl, ?_⟩) (by assumption) ?_; rotate_left 1; (focus (intro w hSw; (try dsimp only at hSw); simp only [List.getElem_toArray, List.getElem_cons_succ, List.getElem_cons_zero]; all_goals go_simp; all_goals (try with_reducible rfl))); (try simp only [Act.put, List.getElem_toArray, List.getElem_cons_succ, List.getElem_cons_zero, List.setIfInBounds_toArray, List.set_cons_zero, List.set_cons_succ]); refine wpAnyH_take (i := 1) (v := ?_) (by rfl) (by kernel_rfl) (by kernel_rfl) (by kernel_rfl) (fun _ _ _ h => h) (Or.inl ⟨by kernel_rfl, ?_⟩) (by assumption) ?_; rotate_left 1; (focus (intro w hSw; (try dsimp only at hSw); simp only [List.getElem_toArray, List.getElem_cons_succ, List.getElem_cons_zero]; all_goals go_simp; all_goals (try with_reducible rfl))); (try simp only [Act.put, List.getElem_toArray, List.getElem_cons_succ, List.getElem_cons_zero, List.setIfInBounds_toArray, List.set_cons_zero, List.set_cons_succ]); refine wpAnyH_ready (rs := [2]) (by kernel_rfl) (by simp) ?_; refine AllReadyH.cons (by rfl) (fun K hK => ?_) AllReadyH.nil; rw [if_pos (by kernel_rfl)]; simp only [List.getElem_toArray, List.getElem_cons_succ, List.getElem_cons_zero]
                  go_wp2_with (first
                    | (go_at_call 20; (with_reducible refine (is_sen A 6 107 (by decide) (Lib.hid (by decide)) _ HSD.out).mono ?_); rintro e w6 ⟨rfl, hb⟩; have HW6 := Lib.hid (HWD.out.below hb); clear hb))
                  refine hK.out _ _ trivial (fun hHeld => ?_); clear hK K; (try simp only [Act.put, List.getElem_toArray, List.getElem_cons_succ, List.getElem_cons_zero, List.setIfInBounds_toArray, List.set_cons_zero, List.set_cons_succ]); refine wpAnyH_take (i := 3) (v := ?_) (by rfl) (by kernel_rfl) (by kernel_rfl) (by kernel_rfl) (fun _ _ _ h => h) (Or.inl ⟨by kernel_rfl, ?_⟩) (by assumption) ?_; rotate_left 1; (focus (intro w hSw; (try dsimp only at hSw); simp only [List.getElem_toArray, List.getElem_cons_succ, List.getElem_cons_zero]; all_goals go_simp; all_goals (try with_reducible rfl))); (try simp only [Act.put, List.getElem_toArray, List.getElem_cons_succ, List.getElem_cons_zero, List.setIfInBounds_toArray, List.set_cons_zero, List.set_cons_succ]); refine wpAnyH_take (i := 4) (v := ?_) (by rfl) (by kernel_rfl) (by kernel_rfl) (by kernel_rfl) (fun _ _ _ h => h) (Or.inl ⟨by kernel_rfl, ?_⟩) (by assumption) ?_; rotate_left 1; (focus (intro w hSw; (try dsimp only at hSw); simp only [List.getElem_toArray, List.getElem_cons_succ, List.getElem_cons_zero]; all_goals go_simp; all_goals (try with_reducible rfl))); (try simp only [Act.put, List.getElem_toArray, List.getElem_cons_succ, List.getElem_cons_zero, List.setIfInBounds_toArray, List.set_cons_zero, List.set_cons_succ]); refine wpAnyH_take (i := 5) (v := ?_) (by rfl) (by kernel_rfl) (by kernel_rfl) (by kernel_rfl) (fun _ _ _ h => h) (Or.inl ⟨by kernel_rfl, ?_⟩) (by assumption) ?_; rotate_left 1; (focus (intro w hSw; (try dsimp only at hSw); simp only [List.getElem_toArray, List.getElem_cons_succ, List.getElem_cons_zero]; all_goals go_simp; all_goals (try with_reducible rfl))); (try simp only [Act.put, List.getElem_toArray, List.getElem_cons_succ, List.getElem_cons_zero, List.setIfInBounds_toArray, List.set_cons_zero, List.set_cons_succ]); refine wpAnyH_take (i := 6) (v := ?_) (by rfl) (by kernel_rfl) (by kernel_rfl) (by kernel_rfl) (fun _ _ _ h => h) (Or.inl ⟨by kernel_rfl, ?_⟩) (by assumption) ?_; rotate_left 1; (focus (intro w hSw; (try dsimp only at hSw); simp only [List.getElem_toArray, List.getElem_cons_succ, List.getElem_cons_zero]; all_goals go_simp; all_goals (try with_reducible rfl))); (try simp only [Act.put, List.getElem_toArray, List.getElem_cons_succ, List.getElem_cons_zero, List.setIfInBounds_toArray, List.set_cons_zero, List.set_cons_succ]); refine wpAnyH_take (i := 7) (v := ?_) (by rfl) (by kernel_rfl) (by kernel_rfl) (by kernel_rfl) (fun _ _ _ h => h) (Or.inl ⟨by kernel_rfl, ?_⟩) (by assumption) ?_; rotate_left 1; (focus (intro w hSw; (try dsimp only at hSw); simp only [List.getElem_toArray, List.getElem_cons_succ, List.getElem_cons_zero]; all_goals go_simp; all_goals (try with_reducible rfl))); (try simp only [Act.put, List.getElem_toArray, List.getElem_cons_succ, List.getElem_cons_zero, List.setIfInBounds_toArray, List.set_cons_zero, List.set_cons_succ]); refine wpAnyH_take (i := 8) (v := ?_) (by rfl) (by kernel_rfl) (by kernel_rfl) (by kernel_rfl) (fun _ _ _ h => h) (Or.inl ⟨by kernel_rfl, ?_⟩) (by assumption) ?_; rotate_left 1; (focus (intro w hSw; (try dsimp only at hSw); simp only [List.getElem_toArray, List.getElem_cons_succ, List.getElem_cons_zero]; all_goals go_simp; all_goals (try with_reducible rfl))); (try simp only [Act.put, List.getElem_toArray, List.getElem_cons_succ, List.getElem_cons_zero, List.setIfInBounds_toArray, List.set_cons_zero, List.set_cons_succ]); refine wpAnyH_take (i := 10) (v := ?_) (by rfl) (by kernel_rfl) (by kernel_rfl) (by kernel_rfl) (fun _ _ _ h => h) (Or.inl ⟨by kernel_rfl, ?_⟩) (by assumption) ?_; rotate_left 1; (focus (intro w hSw; (try dsimp only at hSw); simp only [List.getElem_toArray, List.getElem_cons_succ, List.getElem_cons_zero]; all_goals go_simp; all_goals (try with_reducible rfl))); (try simp only [Act.put, List.getElem_toArray, List.getElem_cons_succ, List.getElem_cons_zero, List.setIfInBounds_toArray, List.set_cons_zero, List.set_cons_succ]); refine wpAnyH_take (i := 11) (v := ?_) (by rfl) (by kernel_rfl) (by kernel_rfl) (by kernel_rfl) (fun _ _ _ h => h) (Or.inl ⟨by kernel_rfl, ?_⟩) (by assumption) ?_; rotate_left 1; (focus (intro w hSw; (try dsimp only at hSw); simp only [List.getElem_toArray, List.getElem_cons_succ, List.getElem_cons_zero]; all_goals go_simp; all_goals (try with_reducible rfl))); (try simp only [Act.put, List.getElem_toArray, List.getElem_cons_succ, List.getElem_cons_zero, List.setIfInBounds_toArray, List.set_cons_zero, List.set_cons_succ]); refine wpAnyH_ready (rs := [9]) (by kernel_rfl) (by simp) ?_; refine AllReadyH.cons (by rfl) (fun K hK => ?_) AllReadyH.nil; rw [if_pos (by kernel_rfl)]; simp only [List.getElem_toArray, List.getElem_cons_succ, List.getElem_cons_zero]
                  go_wp2_with (first
                    | (go_at_call 78; (with_reducible refine (bused_is q (q : Int) uq (Lib.hid rfl) hqE HW6.out.nn HUE _ HW6.out.kk).mono ?_); rintro e w7 ⟨rfl, rfl⟩))
                  refine hK.out _ _ trivial (fun hHeld => ?_); clear hK K; (try simp only [Act.put, List.getElem_toArray, List.getElem_cons_succ, List.getElem_cons_zero, List.setIfInBounds_toArray, List.set_cons_zero, List.set_cons_succ]); refine wpAnyH_take (i := 12) (v := ?_) (by rfl) (by kernel_rfl) (by kernel_rfl) (by kernel_rfl) (fun _ _ _ h => h) (Or.inl ⟨by kernel_rfl, ?_⟩) (by assumption) ?_; rotate_left 1; (focus (intro w hSw; (try dsimp only at hSw); simp only [List.getElem_toArray, List.getElem_cons_succ, List.getElem_cons_zero]; all_goals go_simp; all_goals (try with_reducible rfl))); (try simp only [Act.put, List.getElem_toArray, List.getElem_cons_succ, List.getElem_cons_zero, List.setIfInBounds_toArray, List.set_cons_zero, List.set_cons_succ]); refine wpAnyH_take (i := 13) (v := ?_) (by rfl) (by kernel_rfl) (by kernel_rfl) (by kernel_rfl) (fun _ _ _ h => h) (Or.inl ⟨by kernel_rfl, ?_⟩) (by assumption) ?_; rotate_left 1; (focus (intro w hSw; (try dsimp only at hSw); simp only [List.getElem_toArray, List.getElem_cons_succ, List.getElem_cons_zero]; all_goals go_simp; all_goals (try with_reducible rfl))); (try simp only [Act.put, List.getElem_toArray, List.getElem_cons_succ, List.getElem_cons_zero, List.setIfInBounds_toArray, List.set_cons_zero, List.set_cons_succ]); refine wpAnyH_take (i := 14) (v := ?_) (by rfl) (by kernel_rfl) (by kernel_rfl) (by kernel_rfl) (fun _ _ _ h => h) (Or.inl ⟨by kernel_rfl, ?_⟩) (by assumption) ?_; rotate_left 1; (focus (intro w hSw; (try dsimp only at hSw); simp only [List.getElem_toArray, List.getElem_cons_succ, List.getElem_cons_zero]; all_goals go_simp; all_goals (try with_reducible rfl))); (try simp only [Act.put, List.getElem_toArray, List.getElem_cons_succ, List.getElem_cons_zero, List.setIfInBounds_toArray, List.set_cons_zero, List.set_cons_succ]); refine wpAnyH_done (by kernel_rfl) ?_ _; refine NoPanic.normal ?_; clear hHeld
                  go_wp2_with fail
                  go_loopw [21] (fun zz wk => ∃ kk : Nat, kk ≤ k ∧ zz = .int .i64 (kk : Int) ∧ BW w1 wk L E) (fun zz _ => k - (intOf zz).toNat)
                  case atStart => exact ⟨0, Nat.zero_le _, rfl, HW6.out⟩
                  case round =>
                    obtain ⟨kk, hkk, rfl, hWk⟩ := hrel
                    have HWk := Lib.hid hWk
                    clear hWk
                    have kk0 : (0 : Int) ≤ kk := by omega
                    by_cases hlk : kk < k
                    · have hkn : kk < E.nb := by rw [HNE.out]; exact hlk
                      obtain ⟨m, hm⟩ : ∃ m, Hid (ownN L E kk = m) := ⟨_, Lib.hid rfl⟩
                      have hmb : m ≤ 68 := by
                        rw [← hm.out]
                        have z1 := oks_len E.nt E.o1 kk L.a.n
                        have z2 := oks_len E.pt E.o2 kk L.b.n
                        have z3 := oks_len E.dt E.o3 kk L.dn
                        have z4 := HN.out
                        unfold ownN
                        omega
                      obtain ⟨lk, hlm⟩ : ∃ lk, Hid (E.lm kk = lk) := ⟨_, Lib.hid rfl⟩
                      go_wp2_with (first
                        | (go_at_call 82; (with_reducible refine (bowned_is kk hkn HCE.out.ow _ HWk.out).mono ?_); rintro e w8 ⟨v8, rfl, hb, hr⟩; rw [hm.out] at hr; obtain ⟨va, vc, hva⟩ := own_shape' hr; subst hva; have HW8 := Lib.hid (HWk.out.below hb); clear hr hb))
                      go_loopw [22, 23] (fun x y wj => ∃ j : Nat, j ≤ k ∧ y = .int .i64 (j : Int) ∧ x = .int .i64 ((m : Int) + sumC E.us E.pr kk j) ∧ BW w1 wj L E) (fun _ y _ => k - (intOf y).toNat)
                      case atStart => exact ⟨0, Nat.zero_le _, rfl, by show _ = Value.int .i64 ((m : Int) + 0); rw [Int.add_zero], HW8.out⟩
                      case round =>
                        obtain ⟨j, hj, rfl, rfl, hWj⟩ := hrel
                        have HWj := Lib.hid hWj
                        clear hWj
                        have j0 : (0 : Int) ≤ j := by omega
                        obtain ⟨S, hS⟩ : ∃ S, Hid ((m : Int) + sumC E.us E.pr kk j = S) := ⟨_, Lib.hid rfl⟩
                        rw [hS.out]
                        have hSb : 0 ≤ S ∧ S ≤ 1000 := by
                          have z1 := sumC_bd E.us E.pr kk HCE.out.ub j
                          have z2 := hS.out
                          omega
                        by_cases hjk : j < k
                        · have hjn : j < E.nb := by rw [HNE.out]; exact hjk
                          obtain ⟨zj, hzj⟩ : ∃ zj, Hid (E.pr j = zj) := ⟨_, Lib.hid rfl⟩
                          obtain ⟨uj, huj⟩ : ∃ uj, Hid (E.us j = uj) := ⟨_, Lib.hid rfl⟩
                          have hub2 : 0 ≤ uj ∧ uj ≤ 20 := by rw [← huj.out]; exact HCE.out.ub j
                          by_cases hzk : zj = (kk : Int)
                          · have tz : (zj == (kk : Int)) = true := by simp [hzk]
                            have HSJ : Hid (S + uj = (m : Int) + sumC E.us E.pr kk (j + 1)) := Lib.hid (by
                              show _ = (m : Int) + (sumC E.us E.pr kk j + (if E.pr j = (kk : Int) then E.us j else 0))
                              rw [hzj.out, if_pos hzk, huj.out, ← hS.out]; omega)
                            clear hzk
                            have hws : IntKind.i64.wrap (S + uj) = S + uj := by rw [IntKind.wrap_i64]; omega
                            go_wp2_with (first
                              | (go_at_call 77; (with_reducible refine (bparent_is j (j : Int) zj (Lib.hid rfl) hjn HWj.out.nn hzj _ HWj.out.kk).mono ?_); rintro e w9 ⟨rfl, rfl⟩)
                              | (go_at_call 78; (with_reducible refine (bused_is j (j : Int) uj (Lib.hid rfl) hjn HWj.out.nn huj _ HWj.out.kk).mono ?_); rintro e w9 ⟨rfl, rfl⟩))
                            go_roundw
                            case rel => exact ⟨j + 1, by omega, by go_num, by rw [HSJ.out], HWj.out⟩
                            case measure => simp [intOf]; omega
                          · have tz : (zj == (kk : Int)) = false := by simpa using hzk
                            have HSJ : Hid (S = (m : Int) + sumC E.us E.pr kk (j + 1)) := Lib.hid (by
                              show _ = (m : Int) + (sumC E.us E.pr kk j + (if E.pr j = (kk : Int) then E.us j else 0))
                              rw [hzj.out, if_neg hzk, ← hS.out]; omega)
                            clear hzk
                            go_wp2_with (first
                              | (go_at_call 77; (with_reducible refine (bparent_is j (j : Int) zj (Lib.hid rfl) hjn HWj.out.nn hzj _ HWj.out.kk).mono ?_); rintro e w9 ⟨rfl, rfl⟩))
                            go_roundw
                            case rel => exact ⟨j + 1, by omega, by go_num, by rw [← HSJ.out], HWj.out⟩
                            case measure => simp [intOf]; omega
                        · have HSk : Hid (E.us kk = S) := Lib.hid (by
                            have z1 := HCE.out.sum kk hkn
                            have e : j = k := by omega
                            rw [z1, hm.out, HNE.out, ← hS.out, e])
                          have hle : S ≤ lk := by rw [← HSk.out, ← hlm.out]; exact HCE.out.le kk hkn
                          have hd : decide (lk < S) = false := decide_eq_false (by omega)
                          go_wp2_with (first
                            | (go_at_call 78; (with_reducible refine (bused_is kk (kk : Int) S (Lib.hid rfl) hkn HWj.out.nn HSk _ HWj.out.kk).mono ?_); rintro e w9 ⟨rfl, rfl⟩)
                            | (go_at_call 79; (with_reducible refine (blimit_is kk (kk : Int) lk (Lib.hid rfl) hkn HWj.out.nn hlm _ HWj.out.kk).mono ?_); rintro e w9 ⟨rfl, rfl⟩))
                          go_roundw
                          case rel => exact ⟨kk + 1, by omega, by go_num, HWj.out⟩
                          case measure => simp [intOf]; omega
                    · go_wp2_with fail
                      go_roundw
                      case rel => exact ⟨i + 1, E, a, b, by omega, by go_num, HWk.out, Lib.hid ⟨HCE.out, HNE.out⟩⟩
                      case measure => simp [intOf]; omega
                · have hd2 : ((f2 i).tmod 2 == 0) = false := by simp [hev]
                  clear hev
                  go_upto_region 37 with (first
                    | (go_at_call 81; (with_reducible refine (cw_pagel q hqn (eV (sA A 6)) HF _ HW2.out HSr.out.c6 HSr.out.s6).mono ?_); rintro e w5 ⟨rfl, hb⟩; have HW5 := Lib.hid (HW2.out.below hb); have HS5 := Lib.hid (HSr.out.below hb); clear hb))
                  obtain ⟨E, hED⟩ : ∃ E, Hid (E = D) := ⟨_, Lib.hid rfl⟩
                  rw [← hED.out] at HW5
                  have HCE : Hid (CI L E a b) := Lib.hid (by rw [hED.out]; exact HC.out)
                  have HNE : Hid (E.nb = k) := Lib.hid (by rw [hED.out]; exact HNB.out)
                  have HUE : Hid (E.us q = uq) := Lib.hid (by rw [hED.out]; exact huq.out)
                  have hqE : q < E.nb := by rw [HNE.out]; exact HQ.out
                  have hub : 0 ≤ uq ∧ uq ≤ 20 := by rw [← huq.out]; exact HC.out.ub q
                  have hwu : IntKind.i64.wrap (uq + 1) = uq + 1 := by rw [IntKind.wrap_i64]; omega
                  have hne : (uq == uq + 1) = false := by have : ¬ uq = uq + 1 := (by omega); simpa using this
                  obtain ⟨wD, hwD⟩ : ∃ wD, Hid (wD = w5.drew) := ⟨_, Lib.hid rfl⟩
                  have HWD : Hid (BW w1 wD L E) := Lib.hid (by rw [hwD.out]; exact HW5.out.below (Below.refl _ _).drew)
                  have HSD : Hid (Sen A wD) := Lib.hid (by rw [hwD.out]; exact HS5.out.below (Below.refl _ _).drew)
                  refine wp_region_noPanic ?_; refine wp_region_held_drew (S := fun _ => True) (by kernel_rfl) trivial (fun hHeld => ?_); rw [← hwD.out]; refine wpAnyH_take (i := 0) (v := ?_) (by rfl) (by kernel_rfl) (by kernel_rfl) (by kernel_rfl) (fun _ _ _ h => h) (Or.inl ⟨by kernel_rfl, ?_⟩) (by assumption) ?_; rotate_left 1; (focus (intro w hSw; (try dsimp only at hSw); simp only [List.getElem_toArray, List.getElem_cons_succ, List.getElem_cons_zero]; all_goals go_simp; all_goals (try with_reducible rfl))); (try simp only [Act.put, List.getElem_toArray, List.getElem_cons_succ, List.getElem_cons_zero, List.setIfInBounds_toArray, List.set_cons_zero, List.set_cons_succ]); refine wpAnyH_take (i := 1) (v := ?_) (by rfl) (by kernel_rfl) (by kernel_rfl) (by kernel_rfl) (fun _ _ _ h => h) (Or.inl ⟨by kernel_rfl, ?_⟩) (by assumption) ?_; rotate_left 1; (focus (intro w hSw; (try dsimp only at hSw); simp only [List.getElem_toArray, List.getElem_cons_succ, List.getElem_cons_zero]; all_goals go_simp; all_goals (try with_reducible rfl))); (try simp only [Act.put, List.getElem_toArray, List.getElem_cons_succ, List.getElem_cons_zero, List.setIfInBounds_toArray, List.set_cons_zero, List.set_cons_succ]); refine wpAnyH_ready (rs := [2]) (by kernel_rfl) (by simp) ?_; refine AllReadyH.cons (by rfl) (fun K hK => ?_) AllReadyH.nil; rw [if_pos (by kernel_rfl)]; simp only [List.getElem_toArray, List.getElem_cons_succ, List.getElem_cons_zero]
                  go_wp2_with (first
                    | (go_at_call 20; (with_reducible refine (is_sen A 6 107 (by decide) (Lib.hid (by decide)) _ HSD.out).mono ?_); rintro e w6 ⟨rfl, hb⟩; have HW6 := Lib.hid (HWD.out.below hb); clear hb))
                  refine hK.out _ _ trivial (fun hHeld => ?_); clear hK K; (try simp only [Act.put, List.getElem_toArray, List.getElem_cons_succ, List.getElem_cons_zero, List.setIfInBounds_toArray, List.set_cons_zero, List.set_cons_succ]); refine wpAnyH_take (i := 3) (v := ?_) (by rfl) (by kernel_rfl) (by kernel_rfl) (by kernel_rfl) (fun _ _ _ h => h) (Or.inl ⟨by kernel_rfl, ?_⟩) (by assumption) ?_; rotate_left 1; (focus (intro w hSw; (try dsimp only at hSw); simp only [List.getElem_toArray, List.getElem_cons_succ, List.getElem_cons_zero]; all_goals go_simp; all_goals (try with_reducible rfl))); (try simp only [Act.put, List.getElem_toArray, List.getElem_cons_succ, List.getElem_cons_zero, List.setIfInBounds_toArray, List.set_cons_zero, List.set_cons_succ]); refine wpAnyH_take (i := 4) (v := ?_) (by rfl) (by kernel_rfl) (by kernel_rfl) (by kernel_rfl) (fun _ _ _ h => h) (Or.inl ⟨by kernel_rfl, ?_⟩) (by assumption) ?_; rotate_left 1; (focus (intro w hSw; (try dsimp only at hSw); simp only [List.getElem_toArray, List.getElem_cons_succ, List.getElem_cons_zero]; all_goals go_simp; all_goals (try with_reducible rfl))); (try simp only [Act.put, List.getElem_toArray, List.getElem_cons_succ, List.getElem_cons_zero, List.setIfInBounds_toArray, List.set_cons_zero, List.set_cons_succ]); refine wpAnyH_take (i := 5) (v := ?_) (by rfl) (by kernel_rfl) (by kernel_rfl) (by kernel_rfl) (fun _ _ _ h => h) (Or.inl ⟨by kernel_rfl, ?_⟩) (by assumption) ?_; rotate_left 1; (focus (intro w hSw; (try dsimp only at hSw); simp only [List.getElem_toArray, List.getElem_cons_succ, List.getElem_cons_zero]; all_goals go_simp; all_goals (try with_reducible rfl))); (try simp only [Act.put, List.getElem_toArray, List.getElem_cons_succ, List.getElem_cons_zero, List.setIfInBounds_toArray, List.set_cons_zero, List.set_cons_succ]); refine wpAnyH_take (i := 6) (v := ?_) (by rfl) (by kernel_rfl) (by kernel_rfl) (by kernel_rfl) (fun _ _ _ h => h) (Or.inl ⟨by kernel_rfl, ?_⟩) (by assumption) ?_; rotate_left 1; (focus (intro w hSw; (try dsimp only at hSw); simp only [List.getElem_toArray, List.getElem_cons_succ, List.getElem_cons_zero]; all_goals go_simp; all_goals (try with_reducible rfl))); (try simp only [Act.put, List.getElem_toArray, List.getElem_cons_succ, List.getElem_cons_zero, List.setIfInBounds_toArray, List.set_cons_zero, List.set_cons_succ]); refine wpAnyH_take (i := 7) (v := ?_) (by rfl) (by kernel_rfl) (by kernel_rfl) (by kernel_rfl) (fun _ _ _ h => h) (Or.inl ⟨by kernel_rfl, ?_⟩) (by assumption) ?_; rotate_left 1; (focus (intro w hSw; (try dsimp only at hSw); simp only [List.getElem_toArray, List.getElem_cons_succ, List.getElem_cons_zero]; all_goals go_simp; all_goals (try with_reducible rfl))); (try simp only [Act.put, List.getElem_toArray, List.getElem_cons_succ, List.getElem_cons_zero, List.setIfInBounds_toArray, List.set_cons_zero, List.set_cons_succ]); refine wpAnyH_take (i := 8) (v := ?_) (by rfl) (by kernel_rfl) (by kernel_rfl) (by kernel_rfl) (fun _ _ _ h => h) (Or.inl ⟨by kernel_rfl, ?_⟩) (by assumption) ?_; rotate_left 1; (focus (intro w hSw; (try dsimp only at hSw); simp only [List.getElem_toArray, List.getElem_cons_succ, List.getElem_cons_zero]; all_goals go_simp; all_goals (try with_reducible rfl))); (try simp only [Act.put, List.getElem_toArray, List.getElem_cons_succ, List.getElem_cons_zero, List.setIfInBounds_toArray, List.set_cons_zero, List.set_cons_succ]); refine wpAnyH_take (i := 10) (v := ?_) (by rfl) (by kernel_rfl) (by kernel_rfl) (by kernel_rfl) (fun _ _ _ h => h) (Or.inl ⟨by kernel_rfl, ?_⟩) (by assumption) ?_; rotate_left 1; (focus (intro w hSw; (try dsimp only at hSw); simp only [List.getElem_toArray, List.getElem_cons_succ, List.getElem_cons_zero]; all_goals go_simp; all_goals (try with_reducible rfl))); (try simp only [Act.put, List.getElem_toArray, List.getElem_cons_succ, List.getElem_cons_zero, List.setIfInBounds_toArray, List.set_cons_zero, List.set_cons_succ]); refine wpAnyH_take (i := 11) (v := ?_) (by rfl) (by kernel_rfl) (by kernel_rfl) (by kernel_rfl) (fun _ _ _ h => h) (Or.inl ⟨by kernel_rfl, ?_⟩) (by assumption) ?_; rotate_left 1; (focus (intro w hSw; (try dsimp only at hSw); simp only [List.getElem_toArray, List.getElem_cons_succ, List.getElem_cons_zero]; all_goals go_simp; all_goals (try with_reducible rfl))); (try simp only [Act.put, List.getElem_toArray, List.getElem_cons_succ, List.getElem_cons_zero, List.setIfInBounds_toArray, List.set_cons_zero, List.set_cons_succ]); refine wpAnyH_ready (rs := [9]) (by kernel_rfl) (by simp) ?_; refine AllReadyH.cons (by rfl) (fun K hK => ?_) AllReadyH.nil; rw [if_pos (by kernel_rfl)]; simp only [List.getElem_toArray, List.getElem_cons_succ, List.getElem_cons_zero]
                  go_wp2_with (first
                    | (go_at_call 78; (with_reducible refine (bused_is q (q : Int) uq (Lib.hid rfl) hqE HW6.out.nn HUE _ HW6.out.kk).mono ?_); rintro e w7 ⟨rfl, rfl⟩))
                  refine hK.out _ _ trivial (fun hHeld => ?_); clear hK K; (try simp only [Act.put, List.getElem_toArray, List.getElem_cons_succ, List.getElem_cons_zero, List.setIfInBounds_toArray, List.set_cons_zero, List.set_cons_succ]); refine wpAnyH_take (i := 12) (v := ?_) (by rfl) (by kernel_rfl) (by kernel_rfl) (by kernel_rfl) (fun _ _ _ h => h) (Or.inl ⟨by kernel_rfl, ?_⟩) (by assumption) ?_; rotate_left 1; (focus (intro w hSw; (try dsimp only at hSw); simp only [List.getElem_toArray, List.getElem_cons_succ, List.getElem_cons_zero]; all_goals go_simp; all_goals (try with_reducible rfl))); (try simp only [Act.put, List.getElem_toArray, List.getElem_cons_succ, List.getElem_cons_zero, List.setIfInBounds_toArray, List.set_cons_zero, List.set_cons_succ]); refine wpAnyH_take (i := 13) (v := ?_) (by rfl) (by kernel_rfl) (by kernel_rfl) (by kernel_rfl) (fun _ _ _ h => h) (Or.inl ⟨by kernel_rfl, ?_⟩) (by assumption) ?_; rotate_left 1; (focus (intro w hSw; (try dsimp only at hSw); simp only [List.getElem_toArray, List.getElem_cons_succ, List.getElem_cons_zero]; all_goals go_simp; all_goals (try with_reducible rfl))); (try simp only [Act.put, List.getElem_toArray, List.getElem_cons_succ, List.getElem_cons_zero, List.setIfInBounds_toArray, List.set_cons_zero, List.set_cons_succ]); refine wpAnyH_take (i := 14) (v := ?_) (by rfl) (by kernel_rfl) (by kernel_rfl) (by kernel_rfl) (fun _ _ _ h => h) (Or.inl ⟨by kernel_rfl, ?_⟩) (by assumption) ?_; rotate_left 1; (focus (intro w hSw; (try dsimp only at hSw); simp only [List.getElem_toArray, List.getElem_cons_succ, List.getElem_cons_zero]; all_goals go_simp; all_goals (try with_reducible rfl))); (try simp only [Act.put, List.getElem_toArray, List.getElem_cons_succ, List.getElem_cons_zero, List.setIfInBounds_toArray, List.set_cons_zero, List.set_cons_succ]); refine wpAnyH_done (by kernel_rfl) ?_ _; refine NoPanic.normal ?_; clear hHeld
                  go_wp2_with fail
                  go_loopw [21] (fun zz wk => ∃ kk : Nat, kk ≤ k ∧ zz = .int .i64 (kk : Int) ∧ BW w1 wk L E) (fun zz _ => k - (intOf zz).toNat)
                  case atStart => exact ⟨0, Nat.zero_le _, rfl, HW6.out⟩
                  case round =>
                    obtain ⟨kk, hkk, rfl, hWk⟩ := hrel
                    have HWk := Lib.hid hWk
                    clear hWk
                    have kk0 : (0 : Int) ≤ kk := by omega
                    by_cases hlk : kk < k
                    · have hkn : kk < E.nb := by rw [HNE.out]; exact hlk
                      obtain ⟨m, hm⟩ : ∃ m, Hid (ownN L E kk = m) := ⟨_, Lib.hid rfl⟩
                      have hmb : m ≤ 68 := by
                        rw [← hm.out]
                        have z1 := oks_len E.nt E.o1 kk L.a.n
                        have z2 := oks_len E.pt E.o2 kk L.b.n
                        have z3 := oks_len E.dt E.o3 kk L.dn
                        have z4 := HN.out
                        unfold ownN
                        omega
                      obtain ⟨lk, hlm⟩ : ∃ lk, Hid (E.lm kk = lk) := ⟨_, Lib.hid rfl⟩
                      go_wp2_with (first
                        | (go_at_call 82; (with_reducible refine (bowned_is kk hkn HCE.out.ow _ HWk.out).mono ?_); rintro e w8 ⟨v8, rfl, hb, hr⟩; rw [hm.out] at hr; obtain ⟨va, vc, hva⟩ := own_shape' hr; subst hva; have HW8 := Lib.hid (HWk.out.below hb); clear hr hb))
                      go_loopw [22, 23] (fun x y wj => ∃ j : Nat, j ≤ k ∧ y = .int .i64 (j : Int) ∧ x = .int .i64 ((m : Int) + sumC E.us E.pr kk j) ∧ BW w1 wj L E) (fun _ y _ => k - (intOf y).toNat)
                      case atStart => exact ⟨0, Nat.zero_le _, rfl, by show _ = Value.int .i64 ((m : Int) + 0); rw [Int.add_zero], HW8.out⟩
                      case round =>
                        obtain ⟨j, hj, rfl, rfl, hWj⟩ := hrel
                        have HWj := Lib.hid hWj
                        clear hWj
                        have j0 : (0 : Int) ≤ j := by omega
                        obtain ⟨S, hS⟩ : ∃ S, Hid ((m : Int) + sumC E.us E.pr kk j = S) := ⟨_, Lib.hid rfl⟩
                        rw [hS.out]
                        have hSb : 0 ≤ S ∧ S ≤ 1000 := by
                          have z1 := sumC_bd E.us E.pr kk HCE.out.ub j
                          have z2 := hS.out
                          omega
                        by_cases hjk : j < k
                        · have hjn : j < E.nb := by rw [HNE.out]; exact hjk
                          obtain ⟨zj, hzj⟩ : ∃ zj, Hid (E.pr j = zj) := ⟨_, Lib.hid rfl⟩
                          obtain ⟨uj, huj⟩ : ∃ uj, Hid (E.us j = uj) := ⟨_, Lib.hid rfl⟩
                          have hub2 : 0 ≤ uj ∧ uj ≤ 20 := by rw [← huj.out]; exact HCE.out.ub j
                          by_cases hzk : zj = (kk : Int)
                          · have tz : (zj == (kk : Int)) = true := by simp [hzk]
                            have HSJ : Hid (S + uj = (m : Int) + sumC E.us E.pr kk (j + 1)) := Lib.hid (by
                              show _ = (m : Int) + (sumC E.us E.pr kk j + (if E.pr j = (kk : Int) then E.us j else 0))
                              rw [hzj.out, if_pos hzk, huj.out, ← hS.out]; omega)
                            clear hzk
                            have hws : IntKind.i64.wrap (S + uj) = S + uj := by rw [IntKind.wrap_i64]; omega
                            go_wp2_with (first
                              | (go_at_call 77; (with_reducible refine (bparent_is j (j : Int) zj (Lib.hid rfl) hjn HWj.out.nn hzj _ HWj.out.kk).mono ?_); rintro e w9 ⟨rfl, rfl⟩)
                              | (go_at_call 78; (with_reducible refine (bused_is j (j : Int) uj (Lib.hid rfl) hjn HWj.out.nn huj _ HWj.out.kk).mono ?_); rintro e w9 ⟨rfl, rfl⟩))
                            go_roundw
                            case rel => exact ⟨j + 1, by omega, by go_num, by rw [HSJ.out], HWj.out⟩
                            case measure => simp [intOf]; omega
                          · have tz : (zj == (kk : Int)) = false := by simpa using hzk
                            have HSJ : Hid (S = (m : Int) + sumC E.us E.pr kk (j + 1)) := Lib.hid (by
                              show _ = (m : Int) + (sumC E.us E.pr kk j + (if E.pr j = (kk : Int) then E.us j else 0))
                              rw [hzj.out, if_neg hzk, ← hS.out]; omega)
                            clear hzk
                            go_wp2_with (first
                              | (go_at_call 77; (with_reducible refine (bparent_is j (j : Int) zj (Lib.hid rfl) hjn HWj.out.nn hzj _ HWj.out.kk).mono ?_); rintro e w9 ⟨rfl, rfl⟩))
                            go_roundw
                            case rel => exact ⟨j + 1, by omega, by go_num, by rw [← HSJ.out], HWj.out⟩
                            case measure => simp [intOf]; omega
                        · have HSk : Hid (E.us kk = S) := Lib.hid (by
                            have z1 := HCE.out.sum kk hkn
                            have e : j = k := by omega
                            rw [z1, hm.out, HNE.out, ← hS.out, e])
                          have hle : S ≤ lk := by rw [← HSk.out, ← hlm.out]; exact HCE.out.le kk hkn
                          have hd : decide (lk < S) = false := decide_eq_false (by omega)
                          go_wp2_with (first
                            | (go_at_call 78; (with_reducible refine (bused_is kk (kk : Int) S (Lib.hid rfl) hkn HWj.out.nn HSk _ HWj.out.kk).mono ?_); rintro e w9 ⟨rfl, rfl⟩)
                            | (go_at_call 79; (with_reducible refine (blimit_is kk (kk : Int) lk (Lib.hid rfl) hkn HWj.out.nn hlm _ HWj.out.kk).mono ?_); rintro e w9 ⟨rfl, rfl⟩))
                          go_roundw
                          case rel => exact ⟨kk + 1, by omega, by go_num, HWj.out⟩
                          case measure => simp [intOf]; omega
                    · go_wp2_with fail
                      go_roundw
                      case rel => exact ⟨i + 1, E, a, b, by omega, by go_num, HWk.out, Lib.hid ⟨HCE.out, HNE.out⟩⟩
                      case measure => simp [intOf]; omega
        · go_wp2_with fail
          go_ret
          exact ⟨rfl, HB1.out.trans (HW.out.bel.mono HB1.out.size)⟩
end Go.Proofs.YtkogmhgpkacehaaDoor
namespace Go.Proofs.YtkogmhgpkacehaaDoor
open Go.ChangeShapes Go.WideShapes Go.ChangeAt Go.RowKit
set_option linter.unusedVariables false
set_option linter.unusedSimpArgs false
set_option maxRecDepth 100000 in
set_option maxHeartbeats 4000000 in
theorem counts_big (a0 : Option Addr) (len0 cap0 : Nat) (a1 : Option Addr) (len1 cap1 : Nat) (a2 : Option Addr) (len2 cap2 : Nat) (b0 b1 b2 : Bool) (d0 : decide ((5 : Int) < (len0 : Int)) = b0) (d1 : decide ((6 : Int) < (len1 : Int)) = b1) (d2 : decide ((40 : Int) < (len2 : Int)) = b2) (h : Hid ((b0 || b1 || b2) = true)) (w : World) (A : Nat → Addr) (hS : Sen A w) :
    Calls Tryd.prog 8 #[.slice a0 len0 cap0, .slice a1 len1 cap1, .slice a2 len2 cap2] w fun e w' => e = .returned (.bool true) ∧ Below w.heap.size w w' := by
  have HS := Lib.hid hS
  clear hS
  cases b0
  · cases b1
    · cases b2
      · have := h.out; simp at this
      · go_enter Tryd.func8, Tryd.ntmps8
        go_wp2_with (first
          | (go_at_call 73; (with_reducible refine (bfirst_is _ A HS.out).mono ?_); rintro e w1 ⟨rfl, hb1⟩; have HB1 := Lib.hid hb1; clear hb1))
        go_ret
        exact ⟨rfl, HB1.out⟩
    · go_enter Tryd.func8, Tryd.ntmps8
      go_wp2_with (first
        | (go_at_call 73; (with_reducible refine (bfirst_is _ A HS.out).mono ?_); rintro e w1 ⟨rfl, hb1⟩; have HB1 := Lib.hid hb1; clear hb1))
      go_ret
      exact ⟨rfl, HB1.out⟩
  · go_enter Tryd.func8, Tryd.ntmps8
    go_wp2_with (first
      | (go_at_call 73; (with_reducible refine (bfirst_is _ A HS.out).mono ?_); rintro e w1 ⟨rfl, hb1⟩; have HB1 := Lib.hid hb1; clear hb1))
    go_ret
    exact ⟨rfl, HB1.out⟩
theorem walk_BankCounts (a0 : Option Addr) (len0 cap0 : Nat) (z0 : List Int) (a1 : Option Addr) (len1 cap1 : Nat) (z1 : List Int) (a2 : Option Addr) (len2 cap2 : Nat) (z2 : List Int) (w : World) (w0 : IsRow .i64 w a0 len0 cap0 z0) (w1 : IsRow .i64 w a1 len1 cap1 z1) (w2 : IsRow .i64 w a2 len2 cap2 z2) (hL : laidMetH Tryd.prog Rows.bankCountsRow.laid w) :
    Calls Tryd.prog 8 #[.slice a0 len0 cap0, .slice a1 len1 cap1, .slice a2 len2 cap2] w fun e w' => e = .returned (.bool true) ∧ Below w.heap.size w w' := by
  have hS := (sen_of hL (by intro n hn; simp only [List.mem_cons, List.not_mem_nil, or_false] at hn; rcases hn with rfl | rfl | rfl | rfl | rfl | rfl | rfl | rfl | rfl | rfl | rfl | rfl <;> exact ⟨_, by repeat (first | exact List.Mem.head _ | apply List.Mem.tail)⟩))
  clear hL
  obtain ⟨f0, r0⟩ := rowF_of w0
  obtain ⟨f1, r1⟩ := rowF_of w1
  obtain ⟨f2, r2⟩ := rowF_of w2
  by_cases h0 : len0 ≤ 5
  · by_cases h1 : len1 ≤ 6
    · by_cases h2 : len2 ≤ 40
      · exact counts_walk a0 len0 cap0 f0 a1 len1 cap1 f1 a2 len2 cap2 f2 h0 h1 h2 w _ hS r0 r1 r2
      · exact counts_big a0 len0 cap0 a1 len1 cap1 a2 len2 cap2 _ _ _ rfl rfl rfl (Lib.hid (by rw [decide_eq_true (show (40 : Int) < (len2 : Int) by omega)]; simp)) w _ hS
    · exact counts_big a0 len0 cap0 a1 len1 cap1 a2 len2 cap2 _ _ _ rfl rfl rfl (Lib.hid (by rw [decide_eq_true (show (6 : Int) < (len1 : Int) by omega)]; simp)) w _ hS
  · exact counts_big a0 len0 cap0 a1 len1 cap1 a2 len2 cap2 _ _ _ rfl rfl rfl (Lib.hid (by rw [decide_eq_true (show (5 : Int) < (len0 : Int) by omega)]; simp)) w _ hS
end Go.Proofs.YtkogmhgpkacehaaDoor
