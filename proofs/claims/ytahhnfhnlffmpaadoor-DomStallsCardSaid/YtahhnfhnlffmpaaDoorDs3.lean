/-
  package dom: Get, Put, valid.
-/
import Derived.Test.YtahhnfhnlffmpaaDoorDs2
import Derived.ArgAppend
namespace Go.Proofs.YtahhnfhnlffmpaaDoor
open Go.ChangeShapes Go.WideShapes Go.ChangeAt Go.RowKit
set_option linter.unusedVariables false
set_option linter.unusedSimpArgs false
/-- A domain's cells in a row. -/
def rowL (f : Nat → Value) : List Value := (List.range 107).map f
theorem rowL_len (f : Nat → Value) : (rowL f).length = 107 := by simp [rowL]
theorem rowL_size (f : Nat → Value) : (rowL f).toArray.size = 107 := by simp [rowL]
theorem rowL_at (f : Nat → Value) (j : Nat) (hj : j < 107) : (rowL f)[j]? = some (f j) := by simp [rowL, hj]
theorem rowL_src (f : Nat → Value) (j : Nat) (v : Value) (h : (rowL f)[j]? = some v) : j < 107 ∧ v = f j := by
  have hl : j < 107 := by
    have := (List.getElem?_eq_some_iff.1 h).1
    rwa [rowL_len] at this
  rw [rowL_at f j hl] at h
  exact ⟨hl, (Option.some.inj h).symm⟩
theorem rowL_one (f : Nat → Value) (h : ∀ j, j < 107 → (f j).oneCell' = true) : (rowL f).toArray.all (·.oneCell') = true := all_oneCell_toArray (fun v hv => by
  obtain ⟨j, hj, rfl⟩ := List.mem_map.1 hv
  exact h j (by simpa using hj))
theorem dthere_new (w : World) (z : Array Value) (n : Nat) (hz : z.size = n) (T : TypeId) : World.there (w.alloc (.cells z T (0, 0))) w.heap.size 0 n := fun j hj => by
  simp [hz, hj]
theorem dbelow_cells {N b : Nat} {W0 w : World} (h : Below N W0 w) (hb : N ≤ b) : ∀ (cs : List Value) (o : Nat), Below N W0 (w.setCells b o cs) := by
  intro cs
  induction cs generalizing w with
  | nil => intro o; exact h
  | cons u r ih => intro o; exact ih (h.setCell hb u) (o + 1)
theorem dload {W : World} {b : Nat} {f : Nat → Value} (hr : W.rangeAt b 0 (rowL f)) : (loadVar 70 ⟨b, 0, none⟩).run Tryd.prog W = .ok (.agg (rowL f).toArray) W :=
  run_loadVar_mid (P := Tryd.prog) W b 0 70 (rowL f) _ hr Tryd.underlying70 rfl (by rw [rowL_len]; exact infoDomS)
set_option maxRecDepth 100000 in
set_option maxHeartbeats 1000000 in
theorem dget_ok {base P p B G Q n c : Nat} {th : Nat → Bool} {vr_ : Nat → Int} {W : Nat → Nat → Value} (x : Int) (k : Nat) (hx : Hid (x = (k : Int))) (hk : k < n) (ht : Hid (th k = true)) (f : Nat → Value) (hf : Hid (∀ j, j < 107 → W k j = f j)) (ho : Hid (∀ j, j < 107 → (f j).oneCell' = true)) (w : World) (h : DsAt w base P p B G Q n c th vr_ W) :
    Calls Tryd.prog 31 #[.pointer (some ⟨P, 0, none⟩), .int .i64 x] w fun e w' => e = .returned (.tuple #[.agg (rowL f).toArray, .bool true]) ∧ Below w.heap.size w w' := by
  rw [hx.out]
  have H := Lib.hid h
  have k0 : (0 : Int) ≤ k := by omega
  have k1 : (k : Int) < n := by omega
  clear h hx
  go_enter Tryd.func31, Tryd.ntmps31
  go_upto_region 1 with fail
  generalize hA : World.alloc w _ = wA
  have HA : Hid (Below w.heap.size w wA ∧ World.there wA w.heap.size 0 107) := Lib.hid (by rw [← hA]; exact ⟨(Below.refl _ _).alloc (Nat.le_refl _) _, dthere_new _ _ _ (by rfl) _⟩)
  clear hA
  have H1 := Lib.hid (H.out.below HA.out.1)
  have f0 := H1.out.pl.f0
  have f1 := H1.out.pl.f1
  have HRg : Hid (wA.rangeAt G (k * 107) (rowL f)) := Lib.hid (fun j v hv => by
    obtain ⟨hj, rfl⟩ := rowL_src f j v hv
    rw [H1.out.pl.cell k j hk hj, hf.out j hj])
  go_upto_region 3 with (first
    | (go_at_call 21; (with_reducible refine (athere_in k hk true ht _ H1.out.pl.ar).mono ?_); rintro e w1 ⟨rfl, rfl⟩))
  go_wp2_with (first
    | (refine wpList_load_mid (by rfl) _ _ (by rfl) G (k * 107) (by rfl) (rowL f) _ HRg.out Tryd.underlying70 rfl (by rw [rowL_len]; exact infoDomS) ?_)
    | (refine wpList_store_mid (by rfl) _ _ _ (by rfl) w.heap.size 0 (rowL f).toArray (by rfl) (by rfl) HA.out.2 (by rw [rowL_size]; exact infoDomS) (rowL_one f ho.out) ?_))
  have hr : (wA.setCells w.heap.size 0 (rowL f).toArray.toList).rangeAt w.heap.size 0 (rowL f) := World.rangeAt_setCells_same wA w.heap.size 0 (rowL f) (by rw [rowL_len]; exact HA.out.2)
  have hld := dload hr
  refine bodyPost_ret (v := .tuple #[.agg (rowL f).toArray, .bool true]) (by simp [results, Tryd.results31, asAddr, hld]) rfl ⟨rfl, dbelow_cells HA.out.1 (Nat.le_refl _) _ _⟩
section
variable {P : Program}
theorem op_append_run {o : Oper} {a : Act} {K : Act → World → Prop} {Q : Exit → Act → World → Prop} (w : World) (s x : Operand) (t : TypeId) (ho : o.op = .call { callee := .builtin .append, args := #[s, x], argTypes := #[t, t] }) (v1 v2 : Value) (hs : a.eval s = v1) (hx : a.eval x = v2) (v' : Value) (w' : World) (hr : (Builtin.append_ #[t, t] o.type #[v1, v2]).run P w = .ok v' w') (h : K (a.put o.dst v') w') : Oper.wp P o a w K Q := by
  unfold Oper.wp execOp
  simp only [ho, resolve, invoke, builtin, Sem.run_bind, Sem.run_pure, Result.andThen_ok, List.map_toArray, List.map_cons, List.map_nil, hs, hx, hr]
  exact h
end
theorem infoKeyS : (Tryd.prog.info? 32).map (fun i => (i.zero, i.size, i.bytes)) = some (some (.agg #[.int .i64 0, .int .i64 0, .int .i64 0, .int .i64 0, .int .u32 0]), 5, 40) := by kernel_rfl
theorem kcs19 (kk : Nat → Nat → Int) : kcs kk 19 = kcs kk 16 ++ ([.int .i64 (kk 16 0), .int .i64 (kk 16 1), .int .i64 (kk 16 2), .int .i64 (kk 16 3), .int .u32 (kk 16 4), .int .i64 (kk 17 0), .int .i64 (kk 17 1), .int .i64 (kk 17 2), .int .i64 (kk 17 3), .int .u32 (kk 17 4), .int .i64 (kk 18 0), .int .i64 (kk 18 1), .int .i64 (kk 18 2), .int .i64 (kk 18 3), .int .u32 (kk 18 4)] : List Value) := by
  apply List.ext_getElem?
  intro j
  by_cases h : j < 80
  · rw [List.getElem?_append_left (by rw [kcs_len]; exact h)]
    simp [kcs, h, show j < 95 by omega]
  · rw [List.getElem?_append_right (by rw [kcs_len]; omega), kcs_len]
    by_cases h2 : j < 95
    · obtain ⟨i, rfl⟩ : ∃ i, j = 80 + i := ⟨j - 80, by omega⟩
      have hi : i < 15 := by omega
      have e1 : (80 + i) / 5 = 16 + i / 5 := by omega
      have e2 : (80 + i) % 5 = i % 5 := by omega
      simp only [kcs, List.getElem?_map, List.getElem?_range (show 80 + i < 19 * 5 by omega), Option.map_some, e1, e2]
      rw [show 80 + i - 16 * 5 = i by omega]
      rcases (show i = 0 ∨ i = 1 ∨ i = 2 ∨ i = 3 ∨ i = 4 ∨ i = 5 ∨ i = 6 ∨ i = 7 ∨ i = 8 ∨ i = 9 ∨ i = 10 ∨ i = 11 ∨ i = 12 ∨ i = 13 ∨ i = 14 by omega) with rfl | rfl | rfl | rfl | rfl | rfl | rfl | rfl | rfl | rfl | rfl | rfl | rfl | rfl | rfl <;> rfl
    · rw [List.getElem?_eq_none (by rw [kcs_len]; omega), List.getElem?_eq_none (by simp; omega)]
/-- Keys among a domain's cells. -/
def KeysIn (f : Nat → Value) (kk : Nat → Nat → Int) : Prop := ∀ q r, q < 19 → r < 5 → f (11 + (q * 5 + r)) = kval r (kk q r)
set_option maxRecDepth 100000 in
set_option maxHeartbeats 4000000 in
theorem dvalid_ok (f : Nat → Value) (kk : Nat → Nat → Int) (hKy : Hid (KeysIn f kk)) (hR : Hid (∀ q, q < 19 → KRight kk q)) (s ft wt : Int) (hs : Hid (f 9 = .int .i64 s ∧ f 10 = .int .i64 ft ∧ f 106 = .int .i64 wt)) (s1 : 1 ≤ s) (s2 : s ≤ 4) (t1 : 0 ≤ ft) (t2 : ft ≤ 6) (u1 : 0 ≤ wt) (u2 : wt ≤ 536870911) (vs vr : Value) (w : World) (hE : ErrsAt vs vr w) :
    Calls Tryd.prog 68 #[.agg (rowL f).toArray] w fun e w' => e = .returned .nilIface ∧ Below w.heap.size w w' := by
  obtain ⟨i0, hi, hz0, hz1, hz2⟩ := info_parts infoKeyS
  have HI := Lib.hid (⟨hi, hz0, hz1, hz2⟩ : Tryd.prog.info? 32 = some i0 ∧ i0.zero = some (.agg #[.int .i64 0, .int .i64 0, .int .i64 0, .int .i64 0, .int .u32 0]) ∧ i0.size = 5 ∧ i0.bytes = 40)
  clear hi hz0 hz1 hz2
  have HE := Lib.hid hE
  clear hE
  go_enter Tryd.func68, Tryd.ntmps68
  go_upto_region 1 with fail
  generalize hA : World.alloc w _ = wA
  obtain ⟨xb, hxb⟩ : ∃ xb, xb = w.heap.size := ⟨_, rfl⟩
  have HA : Hid (Below w.heap.size w wA ∧ (∀ j, j < 107 → wA.cell? ⟨xb, j, none⟩ = some (f j)) ∧ xb < wA.heap.size) := Lib.hid (by
    rw [← hA, hxb]
    refine ⟨(Below.refl _ _).alloc (Nat.le_refl _) _, fun j hj => ?_, by simp⟩
    have e := rowL_at f j hj
    simp [e])
  rw [← hxb]
  clear hA hxb
  have c9 := HA.out.2.1 9 (by decide)
  have c10 := HA.out.2.1 10 (by decide)
  have c106 := HA.out.2.1 106 (by decide)
  rw [hs.out.1] at c9
  rw [hs.out.2.1] at c10
  rw [hs.out.2.2] at c106
  have d1 : decide (s < 1) = false := decide_eq_false (by omega)
  have d2 : decide (4 < s) = false := decide_eq_false (by omega)
  have d3 : decide (ft < 0) = false := decide_eq_false (by omega)
  have d4 : decide (6 < ft) = false := decide_eq_false (by omega)
  have d5 : decide (wt < 0) = false := decide_eq_false (by omega)
  have d6 : decide (536870911 < wt) = false := decide_eq_false (by omega)
  have HKc : Hid (∀ W, Below wA.heap.size wA W → ∀ q r, q < 19 → r < 5 → W.cell? ⟨xb, 11 + (q * 5 + r), none⟩ = some (kval r (kk q r))) := Lib.hid (fun W hb q r hq hr => by
    rw [hb.cell (p := ⟨xb, 11 + (q * 5 + r), none⟩) HA.out.2.2, HA.out.2.1 _ (by omega), hKy.out q r hq hr])
  have HS15 : Hid (∀ W, Below wA.heap.size wA W → (World.cell? W ⟨xb, 91, none⟩ = some (.int .i64 (kk 16 0)) ∧ World.cell? W ⟨xb, 92, none⟩ = some (.int .i64 (kk 16 1)) ∧ World.cell? W ⟨xb, 93, none⟩ = some (.int .i64 (kk 16 2)) ∧ World.cell? W ⟨xb, 94, none⟩ = some (.int .i64 (kk 16 3)) ∧ World.cell? W ⟨xb, 95, none⟩ = some (.int .u32 (kk 16 4)) ∧ World.cell? W ⟨xb, 96, none⟩ = some (.int .i64 (kk 17 0)) ∧ World.cell? W ⟨xb, 97, none⟩ = some (.int .i64 (kk 17 1)) ∧ World.cell? W ⟨xb, 98, none⟩ = some (.int .i64 (kk 17 2)) ∧ World.cell? W ⟨xb, 99, none⟩ = some (.int .i64 (kk 17 3)) ∧ World.cell? W ⟨xb, 100, none⟩ = some (.int .u32 (kk 17 4)) ∧ World.cell? W ⟨xb, 101, none⟩ = some (.int .i64 (kk 18 0)) ∧ World.cell? W ⟨xb, 102, none⟩ = some (.int .i64 (kk 18 1)) ∧ World.cell? W ⟨xb, 103, none⟩ = some (.int .i64 (kk 18 2)) ∧ World.cell? W ⟨xb, 104, none⟩ = some (.int .i64 (kk 18 3)) ∧ World.cell? W ⟨xb, 105, none⟩ = some (.int .u32 (kk 18 4)))) := Lib.hid (fun W hb => by
    have h := HKc.out W hb
    exact ⟨h 16 0 (by decide) (by decide), h 16 1 (by decide) (by decide), h 16 2 (by decide) (by decide), h 16 3 (by decide) (by decide), h 16 4 (by decide) (by decide), h 17 0 (by decide) (by decide), h 17 1 (by decide) (by decide), h 17 2 (by decide) (by decide), h 17 3 (by decide) (by decide), h 17 4 (by decide) (by decide), h 18 0 (by decide) (by decide), h 18 1 (by decide) (by decide), h 18 2 (by decide) (by decide), h 18 3 (by decide) (by decide), h 18 4 (by decide) (by decide)⟩)
  go_upto_region 3 with fail
  clear c9 c10 c106 d1 d2 d3 d4 d5 d6
  obtain ⟨wD, hwD⟩ : ∃ wD, wD = wA.drew := ⟨_, rfl⟩
  have HBD : Hid (Below wA.heap.size wA wD) := Lib.hid (by rw [hwD]; exact (Below.refl _ _).drew)
  refine wp_region_noPanic ?_
  refine wp_region_held_drew (S := fun w' => (World.cell? w' ⟨xb, 91, none⟩ = some (.int .i64 (kk 16 0)) ∧ World.cell? w' ⟨xb, 92, none⟩ = some (.int .i64 (kk 16 1)) ∧ World.cell? w' ⟨xb, 93, none⟩ = some (.int .i64 (kk 16 2)) ∧ World.cell? w' ⟨xb, 94, none⟩ = some (.int .i64 (kk 16 3)) ∧ World.cell? w' ⟨xb, 95, none⟩ = some (.int .u32 (kk 16 4)) ∧ World.cell? w' ⟨xb, 96, none⟩ = some (.int .i64 (kk 17 0)) ∧ World.cell? w' ⟨xb, 97, none⟩ = some (.int .i64 (kk 17 1)) ∧ World.cell? w' ⟨xb, 98, none⟩ = some (.int .i64 (kk 17 2)) ∧ World.cell? w' ⟨xb, 99, none⟩ = some (.int .i64 (kk 17 3)) ∧ World.cell? w' ⟨xb, 100, none⟩ = some (.int .u32 (kk 17 4)) ∧ World.cell? w' ⟨xb, 101, none⟩ = some (.int .i64 (kk 18 0)) ∧ World.cell? w' ⟨xb, 102, none⟩ = some (.int .i64 (kk 18 1)) ∧ World.cell? w' ⟨xb, 103, none⟩ = some (.int .i64 (kk 18 2)) ∧ World.cell? w' ⟨xb, 104, none⟩ = some (.int .i64 (kk 18 3)) ∧ World.cell? w' ⟨xb, 105, none⟩ = some (.int .u32 (kk 18 4)))) (by kernel_rfl) (by rw [← hwD]; exact HS15.out _ HBD.out) (fun hHeld => ?_)
  rw [← hwD] at hHeld ⊢
  clear hwD
  refine wpAnyH_take (i := 0) (v := ?_) (by rfl) (by kernel_rfl) (by kernel_rfl) (by kernel_rfl) (fun _ _ _ h => h) (Or.inl ⟨by kernel_rfl, ?_⟩) (by assumption) ?_; rotate_left 1; (focus (intro w hSw; (try dsimp only at hSw); simp only [List.getElem_toArray, List.getElem_cons_succ, List.getElem_cons_zero]; all_goals go_simp; all_goals (try with_reducible rfl))); (try simp only [Act.put, List.getElem_toArray, List.getElem_cons_succ, List.getElem_cons_zero, List.setIfInBounds_toArray, List.set_cons_zero, List.set_cons_succ])
  refine wpAnyH_take (i := 1) (v := ?_) (by rfl) (by kernel_rfl) (by kernel_rfl) (by kernel_rfl) (fun _ _ _ h => h) (Or.inl ⟨by kernel_rfl, ?_⟩) (by assumption) ?_; rotate_left 1; (focus (intro w hSw; (try dsimp only at hSw); simp only [List.getElem_toArray, List.getElem_cons_succ, List.getElem_cons_zero]; all_goals go_simp; all_goals (try with_reducible rfl))); (try simp only [Act.put, List.getElem_toArray, List.getElem_cons_succ, List.getElem_cons_zero, List.setIfInBounds_toArray, List.set_cons_zero, List.set_cons_succ])
  refine wpAnyH_take (i := 2) (v := ?_) (by rfl) (by kernel_rfl) (by kernel_rfl) (by kernel_rfl) (fun _ _ _ h => h) (Or.inl ⟨by kernel_rfl, ?_⟩) (by assumption) ?_; rotate_left 1; (focus (intro w hSw; (try dsimp only at hSw); simp only [List.getElem_toArray, List.getElem_cons_succ, List.getElem_cons_zero]; all_goals go_simp; all_goals (try with_reducible rfl))); (try simp only [Act.put, List.getElem_toArray, List.getElem_cons_succ, List.getElem_cons_zero, List.setIfInBounds_toArray, List.set_cons_zero, List.set_cons_succ])
  refine wpAnyH_take (i := 3) (v := ?_) (by rfl) (by kernel_rfl) (by kernel_rfl) (by kernel_rfl) (fun _ _ _ h => h) (Or.inl ⟨by kernel_rfl, ?_⟩) (by assumption) ?_; rotate_left 1; (focus (intro w hSw; (try dsimp only at hSw); simp only [List.getElem_toArray, List.getElem_cons_succ, List.getElem_cons_zero]; all_goals go_simp; all_goals (try with_reducible rfl))); (try simp only [Act.put, List.getElem_toArray, List.getElem_cons_succ, List.getElem_cons_zero, List.setIfInBounds_toArray, List.set_cons_zero, List.set_cons_succ])
  refine wpAnyH_take (i := 4) (v := ?_) (by rfl) (by kernel_rfl) (by kernel_rfl) (by kernel_rfl) (fun _ _ _ h => h) (Or.inl ⟨by kernel_rfl, ?_⟩) (by assumption) ?_; rotate_left 1; (focus (intro w hSw; (try dsimp only at hSw); simp only [List.getElem_toArray, List.getElem_cons_succ, List.getElem_cons_zero]; all_goals go_simp; all_goals (try with_reducible rfl))); (try simp only [Act.put, List.getElem_toArray, List.getElem_cons_succ, List.getElem_cons_zero, List.setIfInBounds_toArray, List.set_cons_zero, List.set_cons_succ])
  refine wpAnyH_take (i := 5) (v := ?_) (by rfl) (by kernel_rfl) (by kernel_rfl) (by kernel_rfl) (fun _ _ _ h => h) (Or.inl ⟨by kernel_rfl, ?_⟩) (by assumption) ?_; rotate_left 1; (focus (intro w hSw; (try dsimp only at hSw); simp only [List.getElem_toArray, List.getElem_cons_succ, List.getElem_cons_zero]; all_goals go_simp; all_goals (try with_reducible rfl))); (try simp only [Act.put, List.getElem_toArray, List.getElem_cons_succ, List.getElem_cons_zero, List.setIfInBounds_toArray, List.set_cons_zero, List.set_cons_succ])
  refine wpAnyH_take (i := 6) (v := ?_) (by rfl) (by kernel_rfl) (by kernel_rfl) (by kernel_rfl) (fun _ _ _ h => h) (Or.inl ⟨by kernel_rfl, ?_⟩) (by assumption) ?_; rotate_left 1; (focus (intro w hSw; (try dsimp only at hSw); simp only [List.getElem_toArray, List.getElem_cons_succ, List.getElem_cons_zero]; all_goals go_simp; all_goals (try with_reducible rfl))); (try simp only [Act.put, List.getElem_toArray, List.getElem_cons_succ, List.getElem_cons_zero, List.setIfInBounds_toArray, List.set_cons_zero, List.set_cons_succ])
  refine wpAnyH_take (i := 7) (v := ?_) (by rfl) (by kernel_rfl) (by kernel_rfl) (by kernel_rfl) (fun _ _ _ h => h) (Or.inl ⟨by kernel_rfl, ?_⟩) (by assumption) ?_; rotate_left 1; (focus (intro w hSw; (try dsimp only at hSw); simp only [List.getElem_toArray, List.getElem_cons_succ, List.getElem_cons_zero]; all_goals go_simp; all_goals (try with_reducible rfl))); (try simp only [Act.put, List.getElem_toArray, List.getElem_cons_succ, List.getElem_cons_zero, List.setIfInBounds_toArray, List.set_cons_zero, List.set_cons_succ])
  refine wpAnyH_take (i := 11) (v := ?_) (by rfl) (by kernel_rfl) (by kernel_rfl) (by kernel_rfl) (fun _ _ _ h => h) (Or.inl ⟨by kernel_rfl, ?_⟩) (by assumption) ?_; rotate_left 1; (focus (intro w hSw; (try dsimp only at hSw); simp only [List.getElem_toArray, List.getElem_cons_succ, List.getElem_cons_zero]; all_goals go_simp; all_goals (try with_reducible rfl))); (try simp only [Act.put, List.getElem_toArray, List.getElem_cons_succ, List.getElem_cons_zero, List.setIfInBounds_toArray, List.set_cons_zero, List.set_cons_succ])
  refine wpAnyH_ready (rs := [8]) (by kernel_rfl) (by simp) ?_; refine AllReadyH.cons (by rfl) (fun K hK => ?_) AllReadyH.nil; rw [if_pos (by kernel_rfl)]; simp only [List.getElem_toArray, List.getElem_cons_succ, List.getElem_cons_zero]
  go_wp2_with fail
  generalize hB : World.alloc wD _ = wB
  obtain ⟨nbk, hnb⟩ : ∃ nbk, nbk = wD.heap.size := ⟨_, rfl⟩
  have HB : Hid (Below wA.heap.size wA wB ∧ (∀ j v, ([.int .i64 (kk 16 0), .int .i64 (kk 16 1), .int .i64 (kk 16 2), .int .i64 (kk 16 3), .int .u32 (kk 16 4), .int .i64 (kk 17 0), .int .i64 (kk 17 1), .int .i64 (kk 17 2), .int .i64 (kk 17 3), .int .u32 (kk 17 4), .int .i64 (kk 18 0), .int .i64 (kk 18 1), .int .i64 (kk 18 2), .int .i64 (kk 18 3), .int .u32 (kk 18 4)] : List Value)[j]? = some v → wB.cell? ⟨nbk, j, none⟩ = some v)) := Lib.hid (by
    rw [← hB, hnb]
    refine ⟨HBD.out.alloc HBD.out.size _, fun j v hj => ?_⟩
    simp
    exact hj)
  rw [← hnb]
  clear hB hnb
  refine hK.out _ _ (HS15.out _ HB.out.1) (fun hHeld => ?_)
  clear hK K
  (try simp only [Act.put, List.getElem_toArray, List.getElem_cons_succ, List.getElem_cons_zero, List.setIfInBounds_toArray, List.set_cons_zero, List.set_cons_succ])
  refine wpAnyH_ready (rs := [9]) (by kernel_rfl) (by simp) ?_; refine AllReadyH.cons (by rfl) (fun K hK => ?_) AllReadyH.nil; rw [if_pos (by kernel_rfl)]; simp only [List.getElem_toArray, List.getElem_cons_succ, List.getElem_cons_zero]
  have hadd : ∀ j, Addr.add ⟨xb, 11, none⟩ j = ⟨xb, 11 + j, none⟩ := fun j => by
    unfold Addr.add
    split
    · rename_i h; simp [h]
    · rfl
  have hadn : ∀ j, Addr.add ⟨nbk, 0, none⟩ j = ⟨nbk, j, none⟩ := fun j => by (simp [Addr.add]; exact fun h => h.symm)
  obtain ⟨v', wC, hrun, hown, hgrow⟩ := run_append_arg_grows (P := Tryd.prog) (w := wB) 35 35 32 i0 (.agg #[.int .i64 0, .int .i64 0, .int .i64 0, .int .i64 0, .int .u32 0]) 5 40 Tryd.underlying35 HI.out.1 HI.out.2.1 HI.out.2.2.1 HI.out.2.2.2 rfl (by decide) ⟨xb, 11, none⟩ 16 16 (kcs kk 16) (by rw [kcs_len]) (fun j u hj => by
    have hl : j < 80 := by have := (List.getElem?_eq_some_iff.1 hj).1; rw [kcs_len] at this; exact this
    have e := HKc.out wB HB.out.1 (j / 5) (j % 5) (by omega) (by omega)
    rw [show j / 5 * 5 + j % 5 = j by omega] at e
    rw [hadd, e]
    simp only [kcs, List.getElem?_map, List.getElem?_range hl, Option.map_some] at hj
    exact hj) ⟨nbk, 0, none⟩ 3 3 ([.int .i64 (kk 16 0), .int .i64 (kk 16 1), .int .i64 (kk 16 2), .int .i64 (kk 16 3), .int .u32 (kk 16 4), .int .i64 (kk 17 0), .int .i64 (kk 17 1), .int .i64 (kk 17 2), .int .i64 (kk 17 3), .int .u32 (kk 17 4), .int .i64 (kk 18 0), .int .i64 (kk 18 1), .int .i64 (kk 18 2), .int .i64 (kk 18 3), .int .u32 (kk 18 4)] : List Value) (by rfl) (fun j u hj => by rw [hadn]; exact HB.out.2 j u hj) (by decide) (by decide) (by decide)
  rw [← kcs19] at hown
  have HBC : Hid (Below wA.heap.size wA wC) := Lib.hid (HB.out.1.grown hgrow HB.out.1.size (fun k hk => by cases hk))
  obtain ⟨g, c, hv⟩ : ∃ g c, v' = .slice (some ⟨g, 0, none⟩) 19 c := by
    rcases hown.2 with ⟨_, h0⟩ | ⟨g, cap, cur, hv, _⟩
    · omega
    · exact ⟨g, cap, hv⟩
  subst hv
  have HOw := Lib.hid hown
  clear hown hgrow hadd hadn
  refine op_append_run _ _ _ 35 (by rfl) (.slice (some ⟨xb, 11, none⟩) 16 16) (.slice (some ⟨nbk, 0, none⟩) 3 3) (by rfl) (by rfl) _ _ hrun ?_
  clear hrun
  refine hK.out _ _ (HS15.out _ HBC.out) (fun hHeld => ?_)
  clear hK K
  (try simp only [Act.put, List.getElem_toArray, List.getElem_cons_succ, List.getElem_cons_zero, List.setIfInBounds_toArray, List.set_cons_zero, List.set_cons_succ])
  refine wpAnyH_take (i := 10) (v := ?_) (by rfl) (by kernel_rfl) (by kernel_rfl) (by kernel_rfl) (fun _ _ _ h => h) (Or.inl ⟨by kernel_rfl, ?_⟩) (by assumption) ?_; rotate_left 1; (focus (intro w hSw; (try dsimp only at hSw); simp only [List.getElem_toArray, List.getElem_cons_succ, List.getElem_cons_zero]; all_goals go_simp; all_goals (try with_reducible rfl))); (try simp only [Act.put, List.getElem_toArray, List.getElem_cons_succ, List.getElem_cons_zero, List.setIfInBounds_toArray, List.set_cons_zero, List.set_cons_succ])
  clear hHeld
  refine wpAnyH_done (by kernel_rfl) ?_ _
  refine NoPanic.normal ?_
  go_wp2_with fail
  go_loopw [50] (fun i wr => ∃ k : Nat, k ≤ 19 ∧ i = .int .i64 k ∧ Below wC.heap.size wC wr) (fun i _ => 19 - (intOf i).toNat)
  case atStart => exact ⟨0, by omega, rfl, Below.refl _ _⟩
  case round =>
    obtain ⟨k, hk, rfl, hb⟩ := hrel
    have HBr := Lib.hid hb
    clear hb
    by_cases hlt : k < 19
    · have hC : ∀ r, r < 5 → wr.cell? ⟨g, k * 5 + r, none⟩ = some (kval r (kk k r)) := fun r hr => by
        rw [HBr.out.cell (p := ⟨g, k * 5 + r, none⟩) (HOw.out.lt g rfl).2, HOw.out.cellAt (k * 5 + r) (by omega), kcs_at kk 19 k r hlt hr]
      have hr := hR.out k hlt
      unfold KRight at hr
      have p0 := hC 0 (by decide)
      have p1 := hC 1 (by decide)
      have p2 := hC 2 (by decide)
      have p3 := hC 3 (by decide)
      have p4 := hC 4 (by decide)
      rw [Nat.add_zero] at p0
      generalize kk k 0 = y0 at p0 hr
      generalize kk k 1 = y1 at p1 hr
      generalize kk k 2 = y2 at p2 hr
      generalize kk k 3 = y3 at p3 hr
      generalize kk k 4 = y4 at p4 hr
      have q0 : wr.cell? ⟨g, k * 5, none⟩ = some (.int .i64 y0) := p0
      have q1 : wr.cell? ⟨g, k * 5 + 1, none⟩ = some (.int .i64 y1) := p1
      have q2 : wr.cell? ⟨g, k * 5 + 2, none⟩ = some (.int .i64 y2) := p2
      have q3 : wr.cell? ⟨g, k * 5 + 3, none⟩ = some (.int .i64 y3) := p3
      have q4 : wr.cell? ⟨g, k * 5 + 4, none⟩ = some (.int .u32 y4) := p4
      have HR := Lib.hid hr
      have HE1 := Lib.hid ((((HE.out.below HA.out.1).below HBC.out).below HBr.out).below ((Below.refl _ _).alloc (Nat.le_refl _) _ : Below wr.heap.size wr (wr.alloc (.cells #[.int .i64 y0, .int .i64 y1, .int .i64 y2, .int .i64 y3, .int .u32 y4] 32 (0, 0)))))
      have k0 : (0 : Int) ≤ k := by omega
      have k1 : (k : Int) < 19 := by omega
      clear hr hC p0 p1 p2 p3 p4
      go_wp2_with (first
        | (go_at_call 62; (with_reducible refine (nvalid_ok y0 y1 y2 y3 y4 HR vs vr _ HE1.out).mono ?_); rintro e w1 ⟨rfl, hb⟩; have HB2 := Lib.hid ((HBr.out.alloc HBr.out.size _).trans (hb.mono (by simp; have := HBr.out.size; omega))); clear hb q0 q1 q2 q3 q4))
      go_roundw
      case rel => exact ⟨k + 1, by omega, by go_num, HB2.out⟩
      case measure => simp [intOf]; omega
    · have hdd : decide ((k : Int) < 19) = false := decide_eq_false (by omega)
      go_wp2_with fail
      go_ret
      exact ⟨rfl, HA.out.1.trans ((HBC.out.trans (HBr.out.mono HBC.out.size)).mono HA.out.1.size)⟩
end Go.Proofs.YtahhnfhnlffmpaaDoor
