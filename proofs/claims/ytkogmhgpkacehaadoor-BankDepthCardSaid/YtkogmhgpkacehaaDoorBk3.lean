/-
  package bank: unowned (slices.Repeat of a row of one), New.
-/
import Derived.Test.YtkogmhgpkacehaaDoorBk2
namespace Go.Proofs.YtkogmhgpkacehaaDoor
open Go.ChangeShapes Go.WideShapes Go.ChangeAt Go.RowKit
set_option linter.unusedVariables false
set_option linter.unusedSimpArgs false
set_option maxRecDepth 100000 in
theorem mul64_is (w : World) : Calls Tryd.prog 212 #[.int .u64 1, .int .u64 256] w fun e w' => e = .returned (.tuple #[.int .u64 0, .int .u64 256]) ∧ w = w' := by
  go_enter Tryd.func212, Tryd.ntmps212
  go_wp2_with fail
  go_ret2
  exact ⟨rfl, rfl⟩
set_option maxRecDepth 100000 in
theorem mul_is (w : World) : Calls Tryd.prog 209 #[.int .u64 1, .int .u64 256] w fun e w' => e = .returned (.tuple #[.int .u64 0, .int .u64 256]) ∧ w = w' := by
  go_enter Tryd.func209, Tryd.ntmps209
  go_wp2_with (first | (go_at_call 212; (with_reducible refine (mul64_is _).mono ?_); rintro e w1 ⟨rfl, rfl⟩))
  go_ret2
  exact ⟨rfl, rfl⟩
/-- Some places anew. -/
theorem flatS_places (s : Nat) (W W' : Nat → Nat → Value) (n k m : Nat) (h0 : 0 < s) (hk : k + m ≤ n) (xs : List Value) (hx : xs.length = m * s) (h1 : ∀ i j, i < m → j < s → xs[i * s + j]? = some (W' (k + i) j)) (h2 : ∀ i j, i < n → j < s → ¬ (k ≤ i ∧ i < k + m) → W' i j = W i j) : over (flatS s W n) (k * s) xs = flatS s W' n := by
  have hle : k * s + m * s ≤ n * s := by rw [← Nat.add_mul]; exact Nat.mul_le_mul_right s hk
  apply List.ext_getElem?
  intro j
  rw [over_get _ _ _ _ (by rw [flatS_len, hx]; omega)]
  by_cases hj : j < n * s
  · have hdm : j = j / s * s + j % s := by rw [Nat.mul_comm]; exact (Nat.div_add_mod j s).symm
    have hml : j % s < s := Nat.mod_lt _ h0
    have hdl : j / s < n := by rw [Nat.div_lt_iff_lt_mul h0]; exact hj
    by_cases h : k * s ≤ j ∧ j < k * s + xs.length
    · rw [if_pos h]
      have hq1 : k ≤ j / s := by rw [Nat.le_div_iff_mul_le h0]; exact h.1
      have hq2 : j / s < k + m := by rw [Nat.div_lt_iff_lt_mul h0, Nat.add_mul]; rw [hx] at h; exact h.2
      have e := h1 (j / s - k) (j % s) (by omega) hml
      have e2 : (j / s - k) * s = j / s * s - k * s := Nat.sub_mul _ _ _
      have hks : k * s ≤ j / s * s := Nat.mul_le_mul_right s hq1
      rw [show (j / s - k) * s + j % s = j - k * s by omega, show k + (j / s - k) = j / s by omega] at e
      rw [e]
      simp [flatS, hj]
    · rw [if_neg h]
      have : ¬ (k ≤ j / s ∧ j / s < k + m) := by
        rintro ⟨h3, h4⟩
        rw [Nat.le_div_iff_mul_le h0] at h3
        rw [Nat.div_lt_iff_lt_mul h0, Nat.add_mul] at h4
        rw [hx] at h
        exact h ⟨h3, h4⟩
      simp [flatS, hj, h2 (j / s) (j % s) hdl hml this]
  · rw [if_neg (by rw [hx]; omega), List.getElem?_eq_none (by rw [flatS_len]; omega), List.getElem?_eq_none (by rw [flatS_len]; omega)]
/-- The first k are nobody's. -/
def loB (k : Nat) : Nat → Int := fun i => if i < k then -1 else 0
def tcs (m : Nat) : List Value := (List.range (m * 2)).map fun j => if j % 2 = 0 then .int .i64 (-1) else .int .i64 0
theorem tcs_len (m : Nat) : (tcs m).length = m * 2 := by simp [tcs]
theorem tcs_one (m : Nat) : ∀ v ∈ tcs m, v.oneCell' = true := by
  intro v hv
  obtain ⟨x, _, rfl⟩ := List.mem_map.1 hv
  split <;> rfl
theorem tcs_at (m i j : Nat) (hi : i < m) (hj : j < 2) : (tcs m)[i * 2 + j]? = some (if j = 0 then .int .i64 (-1) else .int .i64 0) := by
  have h1 : i * 2 + j < m * 2 := by omega
  have h2 : (i * 2 + j) % 2 = j := by omega
  simp [tcs, h1, h2]
theorem tcs_src (m j : Nat) (v : Value) (h : (tcs m)[j]? = some v) : j < m * 2 ∧ v = tiS (loB (j / 2 + 1)) (fun _ => 0) (j / 2) (j % 2) := by
  have hl : j < m * 2 := by
    have := (List.getElem?_eq_some_iff.1 h).1
    rwa [tcs_len] at this
  refine ⟨hl, ?_⟩
  simp [tcs, hl] at h
  rw [← h]
  unfold tiS loB
  rw [if_pos (Nat.lt_succ_self _)]
def TiR (w : World) (base G k : Nat) : Prop := RowS w base 238 2 G 256 (tiS (loB k) (fun _ => 0))
theorem infoTitle : (Tryd.prog.info? 238).map (fun i => (i.zero, i.size, i.bytes)) = some (some (.agg #[.int .i64 0, .int .i64 0]), 2, 16) := by kernel_rfl
theorem infoTitleS : (Tryd.prog.info? 238).map (·.size) = some 2 := by kernel_rfl
theorem TiR.copy {w : World} {base G k : Nat} (h : TiR w base G k) (m dL dC sL sC : Nat) (a : Addr) (hm : Nat.min sL dL = m) (hk : k + m ≤ 256) (hsrc : ∀ j v, (tcs m)[j]? = some v → w.cell? (a.add j) = some v) :
    (∀ ty, (Builtin.copy_ #[157, 157] ty #[.slice (some ⟨G, k * 2, none⟩) dL dC, .slice (some a) sL sC]).run Tryd.prog w = .ok (goInt m) (w.setCells G (k * 2) (tcs m))) ∧ TiR (w.setCells G (k * 2) (tcs m)) base G (k + m) ∧ w.grownBy (w.setCells G (k * 2) (tcs m)) (some G) := by
  have hs := own_setCells (tcs m) (k * 2) _ _ h
  rw [flatS_places 2 (tiS (loB k) (fun _ => 0)) (tiS (loB (k + m)) (fun _ => 0)) 256 k m (by decide) hk (tcs m) (tcs_len m) (fun i j hi hj => by
    rw [tcs_at m i j hi hj]
    unfold tiS loB
    rw [if_pos (show k + i < k + m by omega)]) (fun i j hi hj hn => by
    unfold tiS loB
    by_cases h : i < k
    · have h2 : i < k + m := by omega
      simp [h, h2]
    · have h2 : ¬ i < k + m := by omega
      simp [h, h2])] at hs
  refine ⟨fun ty => ?_, hs⟩
  have := run_copy_cells_wide (P := Tryd.prog) w 157 157 ty 238 2 G (k * 2) dL dC a sL sC (tcs m) Tryd.underlying157 infoTitleS (by rw [hm]; exact tcs_len m) hsrc (fun j hj => by
    rw [tcs_len] at hj
    have e := h.at (k + j / 2) (j % 2) (by omega) (by omega)
    rw [show (k + j / 2) * 2 + j % 2 = k * 2 + j by omega] at e
    rw [e]; rfl) (fun j hj => h.fr _) (tcs_one m)
  rw [this, hm]
theorem TiR.below {w w' : World} {base G k : Nat} (h : TiR w base G k) (hb : Below w.heap.size w w') : TiR w' base G k := RowS.same h (hb.block G (RowS.lt h).2)
theorem titles_made (w : World) (base G : Nat) (h : w.ownsRow base 238 2 (.slice (some ⟨G, 0, none⟩) 256 256) 256 (madeCells (#[Value.int .i64 0, .int .i64 0]) (256 * 2)).toList) : TiR w base G 0 := by
  have e := flatS_made [Value.int .i64 0, .int .i64 0] 256 (by decide)
  have e2 : flatS 2 (fun _ b => [Value.int .i64 0, .int .i64 0].getD b (.int .i64 0)) 256 = flatS 2 (tiS (loB 0) (fun _ => 0)) 256 := flatS_congr 2 _ _ 256 (by decide) (fun i j _ hj => by
    rcases (show j = 0 ∨ j = 1 by omega) with rfl | rfl <;> simp [tiS, loB])
  unfold TiR RowS
  rw [← e2]
  have e3 : (madeCells [Value.int .i64 0, .int .i64 0].toArray (256 * [Value.int .i64 0, .int .i64 0].length)).toList = (madeCells (#[Value.int .i64 0, .int .i64 0]) (256 * 2)).toList := rfl
  rw [e3] at e
  rw [show (2 : Nat) = [Value.int .i64 0, .int .i64 0].length from rfl, ← e]
  exact h
set_option maxRecDepth 100000 in
set_option maxHeartbeats 2000000 in
theorem repeat_is (w : World) (g0 : Nat) (hg0 : g0 < w.heap.size) (c0 : w.cell? ⟨g0, 0, none⟩ = some (.int .i64 (-1))) (c1 : w.cell? ⟨g0, 1, none⟩ = some (.int .i64 0)) :
    Calls Tryd.prog 201 #[.slice (some ⟨g0, 0, none⟩) 1 1, .int .i64 256] w fun e w' => ∃ G, e = .returned (.slice (some ⟨G, 0, none⟩) 256 256) ∧ TiR w' w.heap.size G 256 ∧ Below w.heap.size w w' := by
  obtain ⟨i0, hi, hz0, hz1, hz2⟩ := info_parts infoTitle
  have HI := Lib.hid (⟨hi, hz0, hz1, hz2⟩ : Tryd.prog.info? 238 = some i0 ∧ i0.zero = some (.agg #[.int .i64 0, .int .i64 0]) ∧ i0.size = 2 ∧ i0.bytes = 16)
  clear hi hz0 hz1 hz2
  have HC := Lib.hid (And.intro c0 c1)
  clear c0 c1
  go_enter Tryd.func201, Tryd.ntmps201
  go_upto_region 7 with (first
    | (go_at_call 209; (with_reducible refine (mul_is _).mono ?_); rintro e w1 ⟨rfl, rfl⟩)
    | (at_make; refine wpList_make_full _ rfl _ _ 157 rfl w.heap.size 238 i0 (.agg #[.int .i64 0, .int .i64 0]) 2 Tryd.underlying157 HI.out.1 HI.out.2.1 HI.out.2.2.1 .i64 .i64 _ _ 256 rfl rfl rfl rfl ?b2 ?b3 ?b4 ?_))
  case b2 => rw [HI.out.2.2.2]; omega
  case b3 => unfold maxLen; omega
  case b4 => exact Nat.le_refl _
  intro w2 hown hgrow
  have HR := Lib.hid (titles_made w2 w.heap.size w.heap.size hown)
  have HB := Lib.hid (show Below w.heap.size w w2 from (Below.refl _ _).grown hgrow (Nat.le_refl _) (fun k hk => by cases hk))
  clear hown hgrow
  obtain ⟨G, HG⟩ : ∃ G, Hid (w.heap.size = G) := ⟨_, Lib.hid rfl⟩
  rw [HG.out] at HR ⊢
  have hcp := HR.out.copy 1 256 256 1 1 ⟨g0, 0, none⟩ (by decide) (by decide) (fun j v hj => by
    obtain ⟨hl, rfl⟩ := tcs_src 1 j v hj
    rcases (show j = 0 ∨ j = 1 by omega) with rfl | rfl
    · exact (HB.out.cell (p := ⟨g0, 0, none⟩) hg0).trans HC.out.1
    · exact (HB.out.cell (p := ⟨g0, 1, none⟩) hg0).trans HC.out.2)
  obtain ⟨hrun, hR1, hg1⟩ := hcp
  rw [Nat.zero_mul] at hrun hR1 hg1
  have HR1 := Lib.hid hR1
  have HB1 : Hid (Below G w _) := Lib.hid ((show Below G w w2 by rw [← HG.out]; exact HB.out).grown hg1 (by have := HB.out.size; have := HG.out; omega) (fun k hk => by injection hk with hk; omega))
  clear hR1 hg1
  go_wp2_with fail
  clear hrun
  generalize World.setCells w2 G 0 (tcs 1) = w3 at HR1 HB1 ⊢
  go_loopw [8] (fun i wr => ∃ k : Nat, 1 ≤ k ∧ k ≤ 256 ∧ i = .int .i64 k ∧ TiR wr G G k ∧ Below G w wr) (fun i _ => 256 - (intOf i).toNat)
  case atStart => exact ⟨1, by omega, by omega, rfl, HR1.out, HB1.out⟩
  case round =>
    obtain ⟨k, hk1, hk2, rfl, hR, hb⟩ := hrel
    have HRk := Lib.hid hR
    have HBk := Lib.hid hb
    clear hR hb
    by_cases hlt : k < 256
    · have k0 : (0 : Int) ≤ k := by omega
      obtain ⟨m, hm⟩ : ∃ m, Nat.min k (256 - k) = m := ⟨_, rfl⟩
      have hm1 : 1 ≤ m ∧ k + m ≤ 256 := by have h3 : 1 ≤ Nat.min k (256 - k) := Nat.le_min.2 ⟨by omega, by omega⟩; have h4 : Nat.min k (256 - k) ≤ 256 - k := Nat.min_le_right k (256 - k); rw [hm] at h3 h4; omega
      have HRd := Lib.hid (HRk.out.below (Below.refl wr.heap.size wr).drew)
      have hmk : m ≤ k := by rw [← hm]; exact Nat.min_le_left _ _
      have hcp := HRd.out.copy m (256 - k) (256 - k) k 256 ⟨G, 0, none⟩ hm hm1.2 (fun j v hj => by
        obtain ⟨hl, rfl⟩ := tcs_src m j v hj
        have e := RowS.at HRd.out (j / 2) (j % 2) (by omega) (by omega)
        rw [show j / 2 * 2 + j % 2 = j by omega] at e
        rw [show Addr.add ⟨G, 0, none⟩ j = ⟨G, j, none⟩ by (simp [Addr.add]; exact fun h => h.symm), e]
        unfold tiS loB
        rw [if_pos (Nat.lt_succ_self _), if_pos (show j / 2 < k by omega)])
      obtain ⟨hrun, hR1, hg1⟩ := hcp
      have HR2 := Lib.hid hR1
      have HB2 := Lib.hid ((HBk.out.drew).grown hg1 (by have := (RowS.lt HRk.out).2; simp; omega) (fun k hk => by injection hk with hk; omega))
      have hel : Tryd.prog.elem 157 = 238 := by kernel_rfl
      have ht : Tryd.prog.underlying 157 = some (.slice (Tryd.prog.elem 157)) := by rw [hel]; exact Tryd.underlying157
      have hsz : ∀ W, (sizeOf 238).run Tryd.prog W = .ok 2 W := fun W => by kernel_rfl
      have hsl : ∀ W, (Instr.sliceAt 157 (.slice (some ⟨G, 0, none⟩) 256 256) (some (.int .i64 (k : Int))) none none).run Tryd.prog W = .ok (.slice (some ⟨G, k * 2, none⟩) (256 - k) (256 - k)) W := fun W => by
        rw [run_sliceAt_slice W _ _ _ _ _ ht, run_slice_l W _ _ _ _ ht .i64 (k : Int) (by omega) (by omega), hel, hsz, Result.andThen, Int.toNat_natCast]
        unfold sliced
        rw [if_neg (by omega)]
        simp [Addr.add]
        omega
      have hsl2 : ∀ W, (Instr.sliceAt 157 (.slice (some ⟨G, 0, none⟩) 256 256) none (some (.int .i64 (k : Int))) none).run Tryd.prog W = .ok (.slice (some ⟨G, 0, none⟩) k 256) W := fun W => by
        rw [run_sliceAt_slice W _ _ _ _ _ ht, run_slice_h W _ _ _ _ ht .i64 (k : Int) (by omega) (by omega), hel, hsz, Result.andThen, Int.toNat_natCast]
        simp [sliced, Addr.add]
      clear hR1 hg1 hel ht hsz
      go_upto_region 9 with fail
      refine wp_region_noPanic ?_
      refine wp_region_held_drew (S := fun w' => True) (by kernel_rfl) trivial (fun hHeld => ?_)
      refine wpAnyH_take (i := 0) (v := ?_) (by rfl) (by kernel_rfl) (by kernel_rfl) (by kernel_rfl) (fun _ _ _ h => h) (Or.inl ⟨by kernel_rfl, ?_⟩) (by assumption) ?_; rotate_left 1; (focus (intro w hSw; (try dsimp only at hSw); simp only [List.getElem_toArray, List.getElem_cons_succ, List.getElem_cons_zero]; all_goals go_simp; all_goals (try with_reducible rfl))); (try simp only [Act.put, List.getElem_toArray, List.getElem_cons_succ, List.getElem_cons_zero, List.setIfInBounds_toArray, List.set_cons_zero, List.set_cons_succ])
      refine wpAnyH_take (i := 1) (v := ?_) (by rfl) (by kernel_rfl) (by kernel_rfl) (by kernel_rfl) (fun _ _ _ h => h) (Or.inl ⟨by kernel_rfl, ?_⟩) (by assumption) ?_; rotate_left 1; (focus (intro w hSw; (try dsimp only at hSw); simp only [List.getElem_toArray, List.getElem_cons_succ, List.getElem_cons_zero]; all_goals go_simp; all_goals (try with_reducible rfl))); (try simp only [Act.put, List.getElem_toArray, List.getElem_cons_succ, List.getElem_cons_zero, List.setIfInBounds_toArray, List.set_cons_zero, List.set_cons_succ])
      refine wpAnyH_take (i := 2) (v := ?_) (by rfl) (by kernel_rfl) (by kernel_rfl) (by kernel_rfl) (fun _ _ _ h => h) (Or.inl ⟨by kernel_rfl, ?_⟩) (by assumption) ?_; rotate_left 1; (focus (intro w hSw; (try dsimp only at hSw); simp only [List.getElem_toArray, List.getElem_cons_succ, List.getElem_cons_zero]; all_goals go_simp; all_goals (try with_reducible rfl))); (try simp only [Act.put, List.getElem_toArray, List.getElem_cons_succ, List.getElem_cons_zero, List.setIfInBounds_toArray, List.set_cons_zero, List.set_cons_succ])
      refine wpAnyH_take (i := 3) (v := ?_) (by rfl) (by kernel_rfl) (by kernel_rfl) (by kernel_rfl) (fun _ _ _ h => h) (Or.inl ⟨by kernel_rfl, ?_⟩) (by assumption) ?_; rotate_left 1; (focus (intro w hSw; (try dsimp only at hSw); simp only [List.getElem_toArray, List.getElem_cons_succ, List.getElem_cons_zero]; all_goals go_simp; all_goals (try with_reducible rfl))); (try simp only [Act.put, List.getElem_toArray, List.getElem_cons_succ, List.getElem_cons_zero, List.setIfInBounds_toArray, List.set_cons_zero, List.set_cons_succ])
      refine wpAnyH_take (i := 4) (v := ?_) (by rfl) (by kernel_rfl) (by kernel_rfl) (by kernel_rfl) (fun _ _ _ h => h) (Or.inl ⟨by kernel_rfl, ?_⟩) (by assumption) ?_; rotate_left 1; (focus (intro w hSw; (try dsimp only at hSw); simp only [List.getElem_toArray, List.getElem_cons_succ, List.getElem_cons_zero]; all_goals go_simp; all_goals (try with_reducible rfl))); (try simp only [Act.put, List.getElem_toArray, List.getElem_cons_succ, List.getElem_cons_zero, List.setIfInBounds_toArray, List.set_cons_zero, List.set_cons_succ])
      refine wpAnyH_take (i := 5) (v := ?_) (by rfl) (by kernel_rfl) (by kernel_rfl) (by kernel_rfl) (fun _ _ _ h => h) (Or.inl ⟨by kernel_rfl, ?_⟩) (by assumption) ?_; rotate_left 1; (focus (intro w hSw; (try dsimp only at hSw); simp only [List.getElem_toArray, List.getElem_cons_succ, List.getElem_cons_zero]; all_goals go_simp; all_goals (try with_reducible rfl))); (try simp only [Act.put, List.getElem_toArray, List.getElem_cons_succ, List.getElem_cons_zero, List.setIfInBounds_toArray, List.set_cons_zero, List.set_cons_succ])
      refine wpAnyH_take (i := 6) (v := ?_) (by rfl) (by kernel_rfl) (by kernel_rfl) (by kernel_rfl) (fun _ _ _ h => h) (Or.inl ⟨by kernel_rfl, ?_⟩) (by assumption) ?_; rotate_left 1; (focus (intro w hSw; (try dsimp only at hSw); simp only [List.getElem_toArray, List.getElem_cons_succ, List.getElem_cons_zero]; all_goals go_simp; all_goals (try with_reducible rfl))); (try simp only [Act.put, List.getElem_toArray, List.getElem_cons_succ, List.getElem_cons_zero, List.setIfInBounds_toArray, List.set_cons_zero, List.set_cons_succ])
      refine wpAnyH_ready (rs := [7]) (by kernel_rfl) (by simp) ?_; refine AllReadyH.cons (by rfl) (fun K hK => ?_) AllReadyH.nil; rw [if_pos (by kernel_rfl)]; simp only [List.getElem_toArray, List.getElem_cons_succ, List.getElem_cons_zero]
      go_wp2_with fail
      clear hrun hsl hsl2
      generalize World.setCells wr.drew G (k * 2) (tcs m) = w5 at HR2 HB2 ⊢
      refine hK.out _ _ trivial (fun hHeld => ?_)
      clear hK K hHeld
      (try simp only [Act.put, List.getElem_toArray, List.getElem_cons_succ, List.getElem_cons_zero, List.setIfInBounds_toArray, List.set_cons_zero, List.set_cons_succ])
      have hwr : IntKind.i64.wrap ((k : Int) + (m : Int)) = (k : Int) + (m : Int) := by rw [IntKind.wrap_i64]; omega
      refine wpAnyH_take (i := 8) (v := ?_) (by rfl) (by kernel_rfl) (by kernel_rfl) (by kernel_rfl) (fun _ _ _ h => h) (Or.inl ⟨by kernel_rfl, ?_⟩) (by assumption) ?_; rotate_left 1; (focus (intro w hSw; (try dsimp only at hSw); simp only [List.getElem_toArray, List.getElem_cons_succ, List.getElem_cons_zero]; all_goals go_simp; all_goals (try with_reducible rfl))); (try simp only [Act.put, List.getElem_toArray, List.getElem_cons_succ, List.getElem_cons_zero, List.setIfInBounds_toArray, List.set_cons_zero, List.set_cons_succ])
      refine wpAnyH_take (i := 9) (v := ?_) (by rfl) (by kernel_rfl) (by kernel_rfl) (by kernel_rfl) (fun _ _ _ h => h) (Or.inl ⟨by kernel_rfl, ?_⟩) (by assumption) ?_; rotate_left 1; (focus (intro w hSw; (try dsimp only at hSw); simp only [List.getElem_toArray, List.getElem_cons_succ, List.getElem_cons_zero]; all_goals go_simp; all_goals (try with_reducible rfl))); (try simp only [Act.put, List.getElem_toArray, List.getElem_cons_succ, List.getElem_cons_zero, List.setIfInBounds_toArray, List.set_cons_zero, List.set_cons_succ])
      refine wpAnyH_done (by kernel_rfl) ?_ _
      refine NoPanic.normal ?_
      go_wp2_with fail
      go_roundw
      case rel => exact ⟨k + m, by omega, hm1.2, by go_num, HR2.out, HB2.out⟩
      case measure => simp [intOf]; omega
    · obtain rfl : k = 256 := by omega
      go_wp2_with fail
      go_ret
      exact ⟨G, rfl, by rw [HG.out]; exact HRk.out, by rw [HG.out]; exact HBk.out⟩
set_option maxRecDepth 100000 in
theorem unowned_is (w : World) : Calls Tryd.prog 185 #[] w fun e w' => ∃ G, e = .returned (.slice (some ⟨G, 0, none⟩) 256 256) ∧ TiR w' w.heap.size G 256 ∧ Below w.heap.size w w' := by
  go_enter Tryd.func185, Tryd.ntmps185
  go_wp2_with (first
    | (go_at_call 201; (with_reducible refine (repeat_is _ w.heap.size (by simp) (by simp) (by simp)).mono ?_); rintro e w1 ⟨G, rfl, hr, hb⟩; have HR := Lib.hid hr; have HB := Lib.hid hb; clear hr hb))
  go_ret
  refine ⟨G, rfl, ?_, ((Below.refl _ _).alloc (Nat.le_refl _) _ : Below w.heap.size w _).trans (HB.out.mono (by simp))⟩
  have h := HR.out
  refine ⟨h.1, ?_⟩
  rcases h.2 with hn | ⟨g', cap, cur, e', hB, hg, rest⟩
  · exact .inl hn
  · exact .inr ⟨g', cap, cur, e', Nat.le_trans (by simp) hB, hg, rest⟩
end Go.Proofs.YtkogmhgpkacehaaDoor
