/-
  Cb, Cb2, Mx, Mn, Tr as one.
-/
import Derived.Test.YtjkbfhojjjkgnaaDoorP10
import Derived.Test.YtjkbfhojjjkgnaaDoorP9
namespace Go.Proofs.YtjkbfhojjjkgnaaDoor
open Go.ChangeShapes Go.WideShapes Go.ChangeAt Go.RowKit
set_option linter.unusedVariables false
set_option linter.unusedSimpArgs false
theorem own_take {w : World} {base E s g c n : Nat} {xs : List Value} (h : w.ownsRow base E s (.slice (some ⟨g, 0, none⟩) n c) n xs) (k : Nat) (hk : k ≤ n) : w.ownsRow base E s (.slice (some ⟨g, 0, none⟩) k c) k (xs.take (k * s)) := by
  rcases h.2 with ⟨h1, _⟩ | ⟨g', cap', cur, h1, hbg, hg, hnc, hcm, hcs, htake⟩
  · simp at h1
  · simp only [Value.slice.injEq, Option.some.injEq, Addr.mk.injEq, and_true, true_and] at h1
    obtain ⟨rfl, rfl⟩ := h1
    have hm : k * s ≤ n * s := Nat.mul_le_mul_right _ hk
    refine ⟨by rw [List.length_take, h.1]; exact Nat.min_eq_left hm, .inr ⟨g, c, cur, rfl, hbg, hg, by omega, hcm, hcs, ?_⟩⟩
    rw [← htake, List.take_take, Nat.min_eq_left hm]
theorem own_cap {w : World} {base E s g c n : Nat} {xs : List Value} (h : w.ownsRow base E s (.slice (some ⟨g, 0, none⟩) n c) n xs) : n ≤ c ∧ c ≤ maxLen := by
  rcases h.2 with ⟨h1, _⟩ | ⟨g', cap', cur, h1, hbg, hg, hnc, hcm, hcs, htake⟩
  · simp at h1
  · simp only [Value.slice.injEq, Option.some.injEq, Addr.mk.injEq, and_true, true_and] at h1
    obtain ⟨rfl, rfl⟩ := h1
    exact ⟨hnc, hcm⟩
theorem own_there {w : World} {base E s g c n : Nat} {xs : List Value} (h : w.ownsRow base E s (.slice (some ⟨g, 0, none⟩) n c) n xs) (j : Nat) (hj : j < c * s) : (w.cell? ⟨g, j, none⟩).isSome = true ∧ w.frozen? ⟨g, j, none⟩ = false := by
  refine ⟨?_, h.frozenAt j⟩
  rcases h.2 with ⟨h1, _⟩ | ⟨g', cap', cur, h1, hbg, hg, hnc, hcm, hcs, htake⟩
  · simp at h1
  · simp only [Value.slice.injEq, Option.some.injEq, Addr.mk.injEq, and_true, true_and] at h1
    obtain ⟨rfl, rfl⟩ := h1
    have hj' : j < cur.size := by rw [hcs]; exact hj
    rw [cell_of_row w g j cur _ _ hg]
    simp [hj']
theorem over_past (vs : List Value) : ∀ (xs : List Value) (o : Nat), xs.length ≤ o → over xs o vs = xs := by
  induction vs with
  | nil => intro xs o h; rfl
  | cons v vs ih => intro xs o h; unfold over; rw [List.set_eq_of_length_le h]; exact ih xs (o + 1) (by omega)
section
variable {P : Program}
theorem op_append_fits {o : Oper} {a : Act} {K : Act → World → Prop} {Q : Exit → Act → World → Prop} (w : World) (s x : Operand) (t : TypeId)
    (ho : o.op = .call { callee := .builtin .append, args := #[s, x], argTypes := #[t, t] })
    (base : Nat) (e : TypeId) (i : TypeInfo) (size : Nat) (ht : P.underlying t = some (.slice e)) (hi : P.info? e = some i) (hsize : i.size = size)
    (g n cap : Nat) (xs : List Value) (hs : a.eval s = .slice (some ⟨g, 0, none⟩) n cap) (hown : w.ownsRow base e size (.slice (some ⟨g, 0, none⟩) n cap) n xs)
    (ad : Addr) (m c : Nat) (news : List Value) (hx : a.eval x = .slice (some ad) m c) (hl : news.length = m * size) (hnews : ∀ j u, news[j]? = some u → w.cell? (ad.add j) = some u) (h1 : ∀ u ∈ news, u.oneCell' = true)
    (hroom : n + m ≤ cap)
    (h : ∀ w', w'.ownsRow base e size (.slice (some ⟨g, 0, none⟩) (n + m) cap) (n + m) (xs ++ news) → w.grownBy w' (some g) → K (a.put o.dst (.slice (some ⟨g, 0, none⟩) (n + m) cap)) w') : Oper.wp P o a w K Q := by
  obtain ⟨w', hr, h2, h3⟩ := run_append_fits (P := P) w base t o.type e i size ht hi hsize g n cap xs hown ad m c news hl hnews h1 hroom
  unfold Oper.wp execOp
  simp only [ho, resolve, invoke, builtin, Sem.run_bind, Sem.run_pure, Result.andThen_ok, List.map_toArray, List.map_cons, List.map_nil, hs, hx, hr]
  exact h w' h2 h3
end
theorem zeroWayR (w : World) : (zeroValue 196).run Tryd.prog w = .ok (.agg #[Value.int .i64 0, .int .i64 0, .int .i64 0, .int .i64 0, .int .u32 0, .int .u32 0, .int .i64 0, .int .i64 0, .bool false, .slice none 0 0]) w := by kernel_rfl
theorem zeroWay1 : (Builtin.zeroCells (Value.agg #[Value.int .i64 0, .int .i64 0, .int .i64 0, .int .i64 0, .int .u32 0, .int .u32 0, .int .i64 0, .int .i64 0, .bool false, .slice none 0 0]).cells 1).toList = (#[Value.int .i64 0, .int .i64 0, .int .i64 0, .int .i64 0, .int .u32 0, .int .u32 0, .int .i64 0, .int .i64 0, .bool false, .slice none 0 0]).toList := by kernel_rfl
theorem infoWay10 : (Tryd.prog.info? 196).map (·.size) = some 10 := by kernel_rfl
set_option maxRecDepth 100000 in
set_option maxHeartbeats 4000000 in
theorem cdelete_is {N g n c : Nat} {xs : List Value} (hn : 1 ≤ n) (hn64 : n ≤ 64) (h1c : ∀ u ∈ xs, u.oneCell' = true) (w : World) (h : w.ownsRow N 196 10 (.slice (some ⟨g, 0, none⟩) n c) n xs) :
    Calls Tryd.prog 102 #[.slice (some ⟨g, 0, none⟩) n c, .int .i64 0, .int .i64 1] w fun e w' => e = .returned (.slice (some ⟨g, 0, none⟩) (n - 1) c) ∧ w'.ownsRow N 196 10 (.slice (some ⟨g, 0, none⟩) (n - 1) c) (n - 1) (xs.drop 10) ∧ w.grownBy w' (some g) := by
  obtain ⟨i0, hi, hz0, hsz, hz2⟩ := info_parts infoWay
  have HI := Lib.hid (⟨hi, hsz⟩ : Tryd.prog.info? 196 = some i0 ∧ i0.size = 10)
  have H := Lib.hid h
  have hc := own_cap h
  have HC := Lib.hid hc
  have HN := Lib.hid (And.intro hn hn64)
  have n1 : (1 : Int) ≤ n := by omega
  have nc : (n : Int) ≤ c := by omega
  have n0 : (0 : Int) ≤ n := by omega
  have c9 : (c : Int) ≤ 9223372036854775807 := by have := hc.2; unfold maxLen at this; omega
  clear h hi hsz hz0 hz2
  go_enter Tryd.func102, Tryd.ntmps102
  go_upto_region 5 with fail
  obtain ⟨adL, hadL⟩ : ∃ adL : Addr, adL = if c = 1 then ⟨g, 0, none⟩ else ⟨g, 10, none⟩ := ⟨_, rfl⟩
  have hel : Tryd.prog.elem 188 = 196 := by kernel_rfl
  have ht : Tryd.prog.underlying 188 = some (.slice (Tryd.prog.elem 188)) := by rw [hel]; exact Tryd.underlying188
  have hsz : ∀ W, (sizeOf 196).run Tryd.prog W = .ok 10 W := fun W => by kernel_rfl
  have hsl : ∀ W, (Instr.sliceAt 188 (.slice (some ⟨g, 0, none⟩) n c) (some (.int .i64 1)) none none).run Tryd.prog W = .ok (.slice (some adL) (n - 1) (c - 1)) W := fun W => by
    rw [run_sliceAt_slice W _ _ _ _ _ ht, run_slice_l W _ _ _ _ ht .i64 1 (by omega) (by omega), hel, hsz, Result.andThen]
    unfold sliced
    rw [hadL, show ((1 : Int).toNat) = 1 from rfl]
    by_cases h : c = 1
    · rw [if_pos h, if_pos h]
    · rw [if_neg h, if_neg h]
      simp [Addr.add]
  have hs0 : ∀ W, (Instr.sliceAt 188 (.slice (some ⟨g, 0, none⟩) n c) none (some (.int .i64 0)) none).run Tryd.prog W = .ok (.slice (some ⟨g, 0, none⟩) 0 c) W := fun W => by
    rw [run_sliceAt_slice W _ _ _ _ _ ht, run_slice_h W _ _ _ _ ht .i64 0 (by omega) (by omega), hel, hsz, Result.andThen]
    unfold sliced
    simp [Addr.add]
  have HNews : Hid (∀ X, World.ownsRow X N 196 10 (.slice (some ⟨g, 0, none⟩) n c) n xs → ∀ j u, (xs.drop 10)[j]? = some u → X.cell? (adL.add j) = some u) := Lib.hid (fun X hX j u hj => by
    rw [List.getElem?_drop] at hj
    have hjl : 10 + j < n * 10 := by rw [← hX.1]; exact (List.getElem?_eq_some_iff.1 hj).1
    have hc1 : ¬ c = 1 := by have := HC.out; omega
    rw [hadL, if_neg hc1, Addr.add_mid, hX.cellAt (10 + j) hjl]
    exact hj)
  have HL : Hid ((xs.drop 10).length = (n - 1) * 10) := Lib.hid (by rw [List.length_drop, H.out.1]; omega)
  have HOne : Hid (∀ u ∈ xs.drop 10, u.oneCell' = true) := Lib.hid (fun u hu => h1c u (List.mem_of_mem_drop hu))
  clear hadL
  have HD := Lib.hid (H.out.drew)
  refine wp_region_noPanic ?_
  refine wp_region_held_drew (S := fun w' => True) (by kernel_rfl) trivial (fun hHeld => ?_)
  refine wpAnyH_take (i := 0) (v := ?_) (by rfl) (by kernel_rfl) (by kernel_rfl) (by kernel_rfl) (fun _ _ _ h => h) (Or.inl ⟨by kernel_rfl, ?_⟩) (by assumption) ?_; rotate_left 1; (focus (intro w hSw; (try dsimp only at hSw); simp only [List.getElem_toArray, List.getElem_cons_succ, List.getElem_cons_zero]; all_goals go_simp; all_goals (try with_reducible rfl))); (try simp only [Act.put, List.getElem_toArray, List.getElem_cons_succ, List.getElem_cons_zero, List.setIfInBounds_toArray, List.set_cons_zero, List.set_cons_succ])
  refine wpAnyH_take (i := 1) (v := ?_) (by rfl) (by kernel_rfl) (by kernel_rfl) (by kernel_rfl) (fun _ _ _ h => h) (Or.inl ⟨by kernel_rfl, ?_⟩) (by assumption) ?_; rotate_left 1; (focus (intro w hSw; (try dsimp only at hSw); simp only [List.getElem_toArray, List.getElem_cons_succ, List.getElem_cons_zero]; all_goals go_simp; all_goals (try with_reducible rfl))); (try simp only [Act.put, List.getElem_toArray, List.getElem_cons_succ, List.getElem_cons_zero, List.setIfInBounds_toArray, List.set_cons_zero, List.set_cons_succ])
  refine wpAnyH_take (i := 2) (v := ?_) (by rfl) (by kernel_rfl) (by kernel_rfl) (by kernel_rfl) (fun _ _ _ h => h) (Or.inl ⟨by kernel_rfl, ?_⟩) (by assumption) ?_; rotate_left 1; (focus (intro w hSw; (try dsimp only at hSw); simp only [List.getElem_toArray, List.getElem_cons_succ, List.getElem_cons_zero]; all_goals go_simp; all_goals (try with_reducible rfl))); (try simp only [Act.put, List.getElem_toArray, List.getElem_cons_succ, List.getElem_cons_zero, List.setIfInBounds_toArray, List.set_cons_zero, List.set_cons_succ])
  refine wpAnyH_take (i := 3) (v := ?_) (by rfl) (by kernel_rfl) (by kernel_rfl) (by kernel_rfl) (fun _ _ _ h => h) (Or.inl ⟨by kernel_rfl, ?_⟩) (by assumption) ?_; rotate_left 1; (focus (intro w hSw; (try dsimp only at hSw); simp only [List.getElem_toArray, List.getElem_cons_succ, List.getElem_cons_zero]; all_goals go_simp; all_goals (try with_reducible rfl))); (try simp only [Act.put, List.getElem_toArray, List.getElem_cons_succ, List.getElem_cons_zero, List.setIfInBounds_toArray, List.set_cons_zero, List.set_cons_succ])
  refine wpAnyH_take (i := 4) (v := ?_) (by rfl) (by kernel_rfl) (by kernel_rfl) (by kernel_rfl) (fun _ _ _ h => h) (Or.inl ⟨by kernel_rfl, ?_⟩) (by assumption) ?_; rotate_left 1; (focus (intro w hSw; (try dsimp only at hSw); simp only [List.getElem_toArray, List.getElem_cons_succ, List.getElem_cons_zero]; all_goals go_simp; all_goals (try with_reducible rfl))); (try simp only [Act.put, List.getElem_toArray, List.getElem_cons_succ, List.getElem_cons_zero, List.setIfInBounds_toArray, List.set_cons_zero, List.set_cons_succ])
  refine wpAnyH_take (i := 5) (v := ?_) (by rfl) (by kernel_rfl) (by kernel_rfl) (by kernel_rfl) (fun _ _ _ h => h) (Or.inl ⟨by kernel_rfl, ?_⟩) (by assumption) ?_; rotate_left 1; (focus (intro w hSw; (try dsimp only at hSw); simp only [List.getElem_toArray, List.getElem_cons_succ, List.getElem_cons_zero]; all_goals go_simp; all_goals (try with_reducible rfl))); (try simp only [Act.put, List.getElem_toArray, List.getElem_cons_succ, List.getElem_cons_zero, List.setIfInBounds_toArray, List.set_cons_zero, List.set_cons_succ])
  refine wpAnyH_ready (rs := [6]) (by kernel_rfl) (by simp) ?_; refine AllReadyH.cons (by rfl) (fun K hK => ?_) AllReadyH.nil; rw [if_pos (by kernel_rfl)]; simp only [List.getElem_toArray, List.getElem_cons_succ, List.getElem_cons_zero]
  have h00 := own_take HD.out 0 (Nat.zero_le _)
  rw [Nat.zero_mul, List.take_zero] at h00
  refine op_append_fits _ _ _ 188 (by rfl) N 196 i0 10 Tryd.underlying188 HI.out.1 HI.out.2 g 0 c [] (by rfl) h00 adL (n - 1) (c - 1) (xs.drop 10) (by rfl) HL.out (HNews.out _ HD.out) HOne.out (by have := HC.out; omega) ?_
  rw [Nat.zero_add, List.nil_append]
  intro w2 hown hg
  have H2 := Lib.hid hown
  have HG2 := Lib.hid hg
  clear hown hg h00
  refine hK.out _ _ trivial (fun hHeld => ?_)
  clear hK K
  (try simp only [Act.put, List.getElem_toArray, List.getElem_cons_succ, List.getElem_cons_zero, List.setIfInBounds_toArray, List.set_cons_zero, List.set_cons_succ])
  refine wpAnyH_take (i := 7) (v := ?_) (by rfl) (by kernel_rfl) (by kernel_rfl) (by kernel_rfl) (fun _ _ _ h => h) (Or.inl ⟨by kernel_rfl, ?_⟩) (by assumption) ?_; rotate_left 1; (focus (intro w hSw; (try dsimp only at hSw); simp only [List.getElem_toArray, List.getElem_cons_succ, List.getElem_cons_zero]; all_goals go_simp; all_goals (try with_reducible rfl))); (try simp only [Act.put, List.getElem_toArray, List.getElem_cons_succ, List.getElem_cons_zero, List.setIfInBounds_toArray, List.set_cons_zero, List.set_cons_succ])
  refine wpAnyH_done (by kernel_rfl) ?_ _
  refine NoPanic.normal ?_
  obtain ⟨m, hm⟩ : ∃ m, n - 1 = m := ⟨_, rfl⟩
  rw [hm] at H2 ⊢
  have HMn := Lib.hid hm
  have HM : Hid (n = m + 1 ∧ m + 1 ≤ c ∧ c ≤ maxLen) := Lib.hid (by have := HC.out; omega)
  clear hm hsl hs0
  have m0 : (0 : Int) ≤ m := by omega
  have m1 : (m : Int) ≤ n := by have := HM.out; omega
  have hs2 : ∀ W, (Instr.sliceAt 188 (.slice (some ⟨g, 0, none⟩) m c) (some (.int .i64 m)) (some (.int .i64 n)) none).run Tryd.prog W = .ok (.slice (some ⟨g, m * 10, none⟩) 1 (c - m)) W := fun W => by
    rw [run_sliceAt_slice W _ _ _ _ _ ht, run_slice_lh W _ _ _ _ ht .i64 .i64 m n (by omega) (by omega) (by omega), hel, hsz, Result.andThen]
    unfold sliced
    rw [if_neg (by have := HM.out; omega), show ((m : Int).toNat) = m by omega, show ((n : Int).toNat) = n by omega, show n - m = 1 by have := HM.out; omega]
    simp [Addr.add]
    exact fun h => h.symm
  have hth : ∀ j, j < 10 → (World.cell? w2 ⟨g, m * 10 + j, none⟩).isSome = true ∧ World.frozen? w2 ⟨g, m * 10 + j, none⟩ = false := fun j hj => own_there H2.out (m * 10 + j) (by have := HM.out; omega)
  have hst := own_setCells (#[Value.int .i64 0, .int .i64 0, .int .i64 0, .int .i64 0, .int .u32 0, .int .u32 0, .int .i64 0, .int .i64 0, .bool false, .slice none 0 0]).toList (m * 10) _ _ H2.out
  rw [over_past _ _ _ (by rw [H2.out.1]; exact Nat.le_refl _)] at hst
  have hrc := fun ty => run_clear_wide (P := Tryd.prog) w2 188 196 ty (.agg #[Value.int .i64 0, .int .i64 0, .int .i64 0, .int .i64 0, .int .u32 0, .int .u32 0, .int .i64 0, .int .i64 0, .bool false, .slice none 0 0]) Tryd.underlying188 zeroWayR g (m * 10) 1 (c - m) (by decide) (#[Value.int .i64 0, .int .i64 0, .int .i64 0, .int .i64 0, .int .u32 0, .int .u32 0, .int .i64 0, .int .i64 0, .bool false, .slice none 0 0]).toList zeroWay1 (fun j hj => (hth j (by simpa using hj)).1) (fun j hj => (hth j (by simpa using hj)).2) (by simp [Value.oneCell'])
  obtain ⟨w3, hw3⟩ : ∃ w3, w3 = w2.setCells g (m * 10) (#[Value.int .i64 0, .int .i64 0, .int .i64 0, .int .i64 0, .int .u32 0, .int .u32 0, .int .i64 0, .int .i64 0, .bool false, .slice none 0 0]).toList := ⟨_, rfl⟩
  rw [← hw3] at hst
  have H3 := Lib.hid hst.1
  have HG3 := Lib.hid hst.2
  have hcl : ∀ ty, (Builtin.clear_ #[188] ty #[.slice (some ⟨g, m * 10, none⟩) 1 (c - m)]).run Tryd.prog w2 = .ok (.tuple #[]) w3 := fun ty => by rw [hw3]; exact hrc ty
  clear hst hw3 hrc hth hel ht hsz
  go_wp2_with fail
  go_ret
  rw [HMn.out]
  refine ⟨rfl, H3.out, ?_⟩
  have g0 : w.grownBy w.drew (some g) := ⟨rfl, rfl, rfl, Nat.le_refl _, fun k _ _ => rfl⟩
  exact grown_chain (grown_chain g0 HG2.out) HG3.out
theorem KeepB.trans {w w1 w2 : World} {cb : Nat} {v v1 : Value} (h : KeepB w w1 cb v) (h2 : KeepB w1 w2 cb v1) (e : v1.ownBlock = v.ownBlock) : KeepB w w2 cb v :=
  ⟨Nat.le_trans h.1 h2.1, fun k hk hkc hkv => (h2.2 k (Nat.lt_of_lt_of_le hk h.1) hkc (by rw [e]; exact hkv)).trans (h.2 k hk hkc hkv)⟩
theorem KeepB.refl (w : World) (cb : Nat) (v : Value) : KeepB w w cb v := ⟨Nat.le_refl _, fun _ _ _ _ => rfl⟩
theorem KeepB.of_below {w w1 : World} {cb : Nat} {v : Value} (h : Below w.heap.size w w1) : KeepB w w1 cb v := ⟨h.size, fun k hk _ _ => h.block k hk⟩
/-- What stays when one more comes. -/
def stay (E : List EW) (full : Bool) : List EW := if full then E.tail else E
theorem ewCells_tail (E : List EW) : (ewCells E).drop 10 = ewCells E.tail := by
  cases E with
  | nil => rfl
  | cons e E => show (e.cs ++ ewCells E).drop 10 = ewCells E; exact List.drop_left' e.cs_len
theorem ewCells_one (E : List EW) : ∀ u ∈ ewCells E, u.oneCell' = true := by
  intro u hu
  obtain ⟨e, _, he⟩ := List.mem_flatMap.1 hu
  exact ew_one e u he
/-- The eldest went. -/
theorem cache_cut {w w2 : World} {N cb : Nat} {size hits : Int} {g n c : Nat} {E : List EW} (h : CacheAt w N cb size hits (.slice (some ⟨g, 0, none⟩) n c) E) (hn : E.length = n) (hown : w2.ownsRow N 196 10 (.slice (some ⟨g, 0, none⟩) (n - 1) c) (n - 1) ((ewCells E).drop 10)) (hg : w.grownBy w2 (some g)) :
    CacheAt (w2.setCell ⟨cb, 2, none⟩ (.slice (some ⟨g, 0, none⟩) (n - 1) c)) N cb size hits (.slice (some ⟨g, 0, none⟩) (n - 1) c) E.tail ∧ Below N w (w2.setCell ⟨cb, 2, none⟩ (.slice (some ⟨g, 0, none⟩) (n - 1) c)) ∧ KeepB w (w2.setCell ⟨cb, 2, none⟩ (.slice (some ⟨g, 0, none⟩) (n - 1) c)) cb (.slice (some ⟨g, 0, none⟩) n c) := by
  have hgc : g ≠ cb := fun e => h.ne (by rw [e]; rfl)
  have hcb : w2.heap[cb]? = w.heap[cb]? := hg.block cb h.cl (fun e => hgc (by injection e with e; exact e.symm))
  have hgl := h.row.lt g rfl
  have keep : ∀ k, k < w.heap.size → k ≠ cb → (Value.slice (some ⟨g, 0, none⟩) n c).ownBlock ≠ some k → (w2.setCell ⟨cb, 2, none⟩ (.slice (some ⟨g, 0, none⟩) (n - 1) c)).heap[k]? = w.heap[k]? := fun k hk hkc hkv => by
    rw [Below.heap_setCell _ _ _ _ (show k ≠ cb from hkc)]
    exact hg.block k hk (fun e => hkv e.symm)
  have hl : E.tail.length = n - 1 := by rw [List.length_tail, hn]
  have hb : Below N w w2 := (Below.refl w.heap.size w).mono (Nat.le_of_lt (Nat.lt_of_le_of_lt h.nb h.cl)) |>.grown hg (Nat.le_of_lt (Nat.lt_of_le_of_lt h.nb h.cl)) (fun x hx => by injection hx with hx; rw [← hx]; exact hgl.1)
  refine ⟨⟨h.nb, ?_, ?_, ?_, ?_, ?_, ?_, fun e => hgc (by injection e), ?_⟩, hb.setCell h.nb _, ⟨by simpa using hg.size, keep⟩⟩
  · have := hg.size; have := h.cl; simp; omega
  · rw [World.cell?_setCell_other _ _ _ _ (by simp)]; exact (World.cell?_of_block (a := ⟨cb, 0, none⟩) hcb).trans h.c0
  · rw [World.cell?_setCell_other _ _ _ _ (by simp)]; exact (World.cell?_of_block (a := ⟨cb, 1, none⟩) hcb).trans h.c1
  · exact World.cell?_setCell_same _ _ _ ((World.cell?_of_block (a := ⟨cb, 2, none⟩) hcb).trans h.c2)
  · intro j; rw [World.frozen?_setCell]; exact (World.frozen?_of_block (a := ⟨cb, j, none⟩) hcb).trans (h.fr j)
  · rw [hl]
    rw [ewCells_tail] at hown
    exact row_same' hown (fun x hx => Below.heap_setCell _ _ _ _ (show x ≠ cb from fun e => hgc (by injection hx with hx; rw [← e, ← hx])))
  · intro e he i hi
    obtain ⟨g', o, a1, a2, a3, a4, a5, a6⟩ := h.nd e (List.mem_of_mem_tail he) i hi
    exact ⟨g', o, a1, a2, by have := hg.size; simp; omega, a4, a5, (World.cell?_of_block (a := ⟨g', o + i, none⟩) (keep g' a3 a4 a5)).trans a6⟩
theorem NodesIn.keep {w w' : World} {N cb : Nat} {v v' : Value} {d : EW} (h : NodesIn w N cb v d) (hk : KeepB w w' cb v) (e : v'.ownBlock = v.ownBlock) : NodesIn w' N cb v' d := fun i hi => by
  obtain ⟨g, o, a1, a2, a3, a4, a5, a6⟩ := h i hi
  exact ⟨g, o, a1, a2, Nat.lt_of_lt_of_le a3 hk.1, a4, by rw [e]; exact a5, (World.cell?_of_block (a := ⟨g, o + i, none⟩) (hk.2 g a3 a4 a5)).trans a6⟩
set_option maxRecDepth 100000 in
set_option maxHeartbeats 8000000 in
theorem cremember_any {N cb : Nat} {size hits : Int} {v : Value} {E : List EW} (d : EW) (n0 : Nat) (full : Bool) (hn : Hid (E.length = n0)) (hlt : Hid ((n0 : Int) ≤ size ∧ 1 ≤ size)) (hful : ((n0 : Int) == size) = full) (hn64 : n0 ≤ 64) (w : World) (h : CacheAt w N cb size hits v E) (hd : NodesIn w N cb v d) (hN : N ≤ w.heap.size) :
    Calls Tryd.prog 95 #[.pointer (some ⟨cb, 0, none⟩), (Value.agg #[.int .i64 d.k0, .int .i64 d.k1, .int .i64 d.k2, .int .i64 d.k3, .int .u32 d.k4, .int .u32 d.sh, .int .i64 d.pg, .int .i64 d.at_, .bool d.ro, .slice d.na d.ids.length d.nc])] w fun e w' => e = .returned (.tuple #[]) ∧ ∃ v', CacheAt w' N cb size hits v' (stay E full ++ [d]) ∧ Below N w w' ∧ KeepB w w' cb v ∧ (v'.ownBlock = v.ownBlock ∨ ∃ g, w.heap.size ≤ g ∧ v'.ownBlock = some g) := by
  obtain ⟨i0, hi, hz0, hz1, hz2⟩ := info_parts infoWay
  have HI := Lib.hid (⟨hi, hz0, hz1, hz2⟩ : Tryd.prog.info? 196 = some i0 ∧ i0.zero = some (.agg #[.int .i64 0, .int .i64 0, .int .i64 0, .int .i64 0, .int .u32 0, .int .u32 0, .int .i64 0, .int .i64 0, .bool false, .slice none 0 0]) ∧ i0.size = 10 ∧ i0.bytes = 96)
  have H := Lib.hid h
  have HD := Lib.hid hd
  have HN := Lib.hid hN
  obtain ⟨va0, vc0, hv⟩ := h.shape
  rw [hn.out] at hv
  have HV := Lib.hid hv
  subst hv
  have n00 : (0 : Int) ≤ n0 := by omega
  clear h hd hN hi hz0 hz1 hz2
  go_enter Tryd.func95, Tryd.ntmps95
  go_upto_region 1 with fail
  obtain ⟨wB, hwB⟩ : ∃ wB, wB = w.alloc (.cells #[.int .i64 d.k0, .int .i64 d.k1, .int .i64 d.k2, .int .i64 d.k3, .int .u32 d.k4, .int .u32 d.sh, .int .i64 d.pg, .int .i64 d.at_, .bool d.ro, .slice d.na d.ids.length d.nc] 196 (0, 0)) := ⟨_, rfl⟩
  rw [← hwB]
  have HB : Hid (Below w.heap.size w wB) := Lib.hid (by rw [hwB]; exact (Below.refl _ _).alloc (Nat.le_refl _) _)
  have HW : Hid (WayAt wB w.heap.size d) := Lib.hid (by rw [hwB]; exact WayAt.new _ _ _)
  have H1 := Lib.hid (H.out.below HB.out)
  have HBX : Hid (w.heap.size ≠ cb) := Lib.hid (by have := H.out.cl; omega)
  have HOF0 : Hid ((Value.slice va0 n0 vc0).ownBlock ≠ some w.heap.size) := Lib.hid (fun e => by have := (H.out.row.lt _ e).2; omega)
  obtain ⟨bx, hbx⟩ : ∃ bx, Hid (w.heap.size = bx) := ⟨_, Lib.hid rfl⟩
  clear hwB
  rw [hbx.out] at HW HBX HOF0 ⊢
  refine wp_region_noPanic ?_
  refine wp_region_held_drew (S := fun w' => World.cell? w' ⟨cb, 0, none⟩ = some (.int .i64 size) ∧ World.cell? w' ⟨cb, 2, none⟩ = some (.slice va0 n0 vc0)) (by kernel_rfl) ⟨(H1.out.below (Below.refl _ _).drew).c0, (H1.out.below (Below.refl _ _).drew).c2⟩ (fun hHeld => ?_)
  refine wpAnyH_take (i := 0) (v := ?_) (by rfl) (by kernel_rfl) (by kernel_rfl) (by kernel_rfl) (fun _ _ _ h => h) (Or.inl ⟨by kernel_rfl, ?_⟩) (by assumption) ?_; rotate_left 1; (focus (intro w hSw; (try dsimp only at hSw); simp only [List.getElem_toArray, List.getElem_cons_succ, List.getElem_cons_zero]; all_goals go_simp; all_goals (try with_reducible rfl))); (try simp only [Act.put, List.getElem_toArray, List.getElem_cons_succ, List.getElem_cons_zero, List.setIfInBounds_toArray, List.set_cons_zero, List.set_cons_succ])
  refine wpAnyH_take (i := 1) (v := ?_) (by rfl) (by kernel_rfl) (by kernel_rfl) (by kernel_rfl) (fun _ _ _ h => h) (Or.inl ⟨by kernel_rfl, ?_⟩) (by assumption) ?_; rotate_left 1; (focus (intro w hSw; (try dsimp only at hSw); simp only [List.getElem_toArray, List.getElem_cons_succ, List.getElem_cons_zero]; all_goals go_simp; all_goals (try with_reducible rfl))); (try simp only [Act.put, List.getElem_toArray, List.getElem_cons_succ, List.getElem_cons_zero, List.setIfInBounds_toArray, List.set_cons_zero, List.set_cons_succ])
  refine wpAnyH_take (i := 2) (v := ?_) (by rfl) (by kernel_rfl) (by kernel_rfl) (by kernel_rfl) (fun _ _ _ h => h) (Or.inl ⟨by kernel_rfl, ?_⟩) (by assumption) ?_; rotate_left 1; (focus (intro w hSw; (try dsimp only at hSw); simp only [List.getElem_toArray, List.getElem_cons_succ, List.getElem_cons_zero]; all_goals go_simp; all_goals (try with_reducible rfl))); (try simp only [Act.put, List.getElem_toArray, List.getElem_cons_succ, List.getElem_cons_zero, List.setIfInBounds_toArray, List.set_cons_zero, List.set_cons_succ])
  refine wpAnyH_take (i := 3) (v := ?_) (by rfl) (by kernel_rfl) (by kernel_rfl) (by kernel_rfl) (fun _ _ _ h => h) (Or.inl ⟨by kernel_rfl, ?_⟩) (by assumption) ?_; rotate_left 1; (focus (intro w hSw; (try dsimp only at hSw); simp only [List.getElem_toArray, List.getElem_cons_succ, List.getElem_cons_zero]; all_goals go_simp; all_goals (try with_reducible rfl))); (try simp only [Act.put, List.getElem_toArray, List.getElem_cons_succ, List.getElem_cons_zero, List.setIfInBounds_toArray, List.set_cons_zero, List.set_cons_succ])
  refine wpAnyH_take (i := 4) (v := ?_) (by rfl) (by kernel_rfl) (by kernel_rfl) (by kernel_rfl) (fun _ _ _ h => h) (Or.inl ⟨by kernel_rfl, ?_⟩) (by assumption) ?_; rotate_left 1; (focus (intro w hSw; (try dsimp only at hSw); simp only [List.getElem_toArray, List.getElem_cons_succ, List.getElem_cons_zero]; all_goals go_simp; all_goals (try with_reducible rfl))); (try simp only [Act.put, List.getElem_toArray, List.getElem_cons_succ, List.getElem_cons_zero, List.setIfInBounds_toArray, List.set_cons_zero, List.set_cons_succ])
  refine wpAnyH_take (i := 5) (v := ?_) (by rfl) (by kernel_rfl) (by kernel_rfl) (by kernel_rfl) (fun _ _ _ h => h) (Or.inl ⟨by kernel_rfl, ?_⟩) (by assumption) ?_; rotate_left 1; (focus (intro w hSw; (try dsimp only at hSw); simp only [List.getElem_toArray, List.getElem_cons_succ, List.getElem_cons_zero]; all_goals go_simp; all_goals (try with_reducible rfl))); (try simp only [Act.put, List.getElem_toArray, List.getElem_cons_succ, List.getElem_cons_zero, List.setIfInBounds_toArray, List.set_cons_zero, List.set_cons_succ])
  refine wpAnyH_take (i := 6) (v := ?_) (by rfl) (by kernel_rfl) (by kernel_rfl) (by kernel_rfl) (fun _ _ _ h => h) (Or.inl ⟨by kernel_rfl, ?_⟩) (by assumption) ?_; rotate_left 1; (focus (intro w hSw; (try dsimp only at hSw); simp only [List.getElem_toArray, List.getElem_cons_succ, List.getElem_cons_zero]; all_goals go_simp; all_goals (try with_reducible rfl))); (try simp only [Act.put, List.getElem_toArray, List.getElem_cons_succ, List.getElem_cons_zero, List.setIfInBounds_toArray, List.set_cons_zero, List.set_cons_succ])
  refine wpAnyH_take (i := 7) (v := ?_) (by rfl) (by kernel_rfl) (by kernel_rfl) (by kernel_rfl) (fun _ _ _ h => h) (Or.inl ⟨by kernel_rfl, ?_⟩) (by assumption) ?_; rotate_left 1; (focus (intro w hSw; (try dsimp only at hSw); simp only [List.getElem_toArray, List.getElem_cons_succ, List.getElem_cons_zero]; all_goals go_simp; all_goals (try with_reducible rfl))); (try simp only [Act.put, List.getElem_toArray, List.getElem_cons_succ, List.getElem_cons_zero, List.setIfInBounds_toArray, List.set_cons_zero, List.set_cons_succ])
  refine wpAnyH_take (i := 8) (v := ?_) (by rfl) (by kernel_rfl) (by kernel_rfl) (by kernel_rfl) (fun _ _ _ h => h) (Or.inl ⟨by kernel_rfl, ?_⟩) (by assumption) ?_; rotate_left 1; (focus (intro w hSw; (try dsimp only at hSw); simp only [List.getElem_toArray, List.getElem_cons_succ, List.getElem_cons_zero]; all_goals go_simp; all_goals (try with_reducible rfl))); (try simp only [Act.put, List.getElem_toArray, List.getElem_cons_succ, List.getElem_cons_zero, List.setIfInBounds_toArray, List.set_cons_zero, List.set_cons_succ])
  refine wpAnyH_take (i := 9) (v := ?_) (by rfl) (by kernel_rfl) (by kernel_rfl) (by kernel_rfl) (fun _ _ _ h => h) (Or.inl ⟨by kernel_rfl, ?_⟩) (by assumption) ?_; rotate_left 1; (focus (intro w hSw; (try dsimp only at hSw); simp only [List.getElem_toArray, List.getElem_cons_succ, List.getElem_cons_zero]; all_goals go_simp; all_goals (try with_reducible rfl))); (try simp only [Act.put, List.getElem_toArray, List.getElem_cons_succ, List.getElem_cons_zero, List.setIfInBounds_toArray, List.set_cons_zero, List.set_cons_succ])
  refine wpAnyH_done (by kernel_rfl) ?_ _
  refine NoPanic.normal ?_
  have HD1 := Lib.hid (H1.out.below (Below.refl wB.heap.size wB).drew)
  have HWD := Lib.hid (HW.out.below (Below.refl wB.heap.size wB).drew)
  have HBD := Lib.hid (HB.out.drew)
  clear HB HW H1
  go_upto_if 13 with fail
  go_cut [] (fun wC => ∃ (va : Option Addr) (n vc : Nat) (E1 : List EW), Hid (E1 = stay E full) ∧ Hid (E1.length = n) ∧ n ≤ 64 ∧ CacheAt wC N cb size hits (.slice va n vc) E1 ∧ WayAt wC bx d ∧ Below N w wC ∧ KeepB w wC cb (.slice va0 n0 vc0) ∧ (Value.slice va n vc).ownBlock = (Value.slice va0 n0 vc0).ownBlock)
  case first =>
    cases full
    · go_wp2_with fail
      go_meet
      exact ⟨va0, n0, vc0, E, Lib.hid rfl, hn, hn64, HD1.out, HWD.out, HBD.out.mono HN.out, KeepB.of_below HBD.out, rfl⟩
    · have hsz : (n0 : Int) = size := by simpa using hful
      have hn1 : 1 ≤ n0 := by have := hlt.out.2; omega
      obtain ⟨g, cc, hgv⟩ := HD1.out.row1 (by rw [hn.out]; omega)
      simp only [Value.slice.injEq] at hgv
      obtain ⟨rfl, -, -⟩ := hgv
      have HRow : Hid (World.ownsRow wB.drew N 196 10 (.slice (some ⟨g, 0, none⟩) n0 vc0) n0 (ewCells E)) := Lib.hid (by have := HD1.out.row; rw [hn.out] at this; exact this)
      have q2 := HD1.out.c2
      have HSZ := Lib.hid hsz
      clear hsz hful
      go_wp2_with (first | (go_at_call 102; (with_reducible refine (cdelete_is hn1 hn64 (ewCells_one E) _ HRow.out).mono ?_); rintro e w2 ⟨rfl, hown, hg⟩; have HC2 := Lib.hid (cache_cut HD1.out hn.out hown hg); have hcb : w2.heap[cb]? = wB.drew.heap[cb]? := (hg.block cb HD1.out.cl (fun e => HD1.out.ne e.symm)); have q2 := (World.cell?_of_block (a := ⟨cb, 2, none⟩) hcb).trans HD1.out.c2; have qf := (World.frozen?_of_block (a := ⟨cb, 2, none⟩) hcb).trans (HD1.out.fr 2); clear hown hg hcb))
      go_meet
      have hk := HC2.out.2.2
      have hk0 : KeepB w _ cb (.slice (some ⟨g, 0, none⟩) n0 vc0) := (KeepB.of_below HBD.out).trans hk rfl
      exact ⟨_, _, _, E.tail, Lib.hid rfl, Lib.hid (by rw [List.length_tail, hn.out]), by omega, HC2.out.1, HWD.out.same hk.1 (hk.2 _ HWD.out.lt HBX.out HOF0.out), (HBD.out.mono HN.out).trans HC2.out.2.1, hk0, rfl⟩
  case rest =>
    obtain ⟨va, n, vc, E1, hE1, hn1, hn64', h2, hw2, hbn, hkb, hob⟩ := hcut
    have H2 := Lib.hid h2
    have HW2 := Lib.hid hw2
    have HBN := Lib.hid hbn
    have HKB := Lib.hid hkb
    have HOB := Lib.hid hob
    have HOF : Hid ((Value.slice va n vc).ownBlock ≠ some bx) := Lib.hid (by rw [hob]; exact HOF0.out)
    have HDC : Hid (NodesIn wc N cb (.slice va n vc) d) := Lib.hid (HD.out.keep hkb hob)
    have HNC : Hid (N ≤ wc.heap.size) := Lib.hid (Nat.le_trans HN.out hkb.1)
    clear h2 hw2 hbn hkb hob HD1 HWD HBD
    go_upto_region 3 with fail
    have HRow : Hid (World.ownsRow ((wc.alloc (.cells #[.int .i64 d.k0, .int .i64 d.k1, .int .i64 d.k2, .int .i64 d.k3, .int .u32 d.k4, .int .u32 d.sh, .int .i64 d.pg, .int .i64 d.at_, .bool d.ro, .slice d.na d.ids.length d.nc] 196 (0, 0))).drew) N 196 10 (.slice va n vc) n (ewCells E1)) := Lib.hid (by rw [← hn1.out]; have := (H2.out.below (((Below.refl _ _).alloc (Nat.le_refl _) _ : Below wc.heap.size wc (wc.alloc (.cells #[.int .i64 d.k0, .int .i64 d.k1, .int .i64 d.k2, .int .i64 d.k3, .int .u32 d.k4, .int .u32 d.sh, .int .i64 d.pg, .int .i64 d.at_, .bool d.ro, .slice d.na d.ids.length d.nc] 196 (0, 0)))).drew)).row; rw [← hn1.out] at this; exact this)
    have HNew : Hid (∀ j u, d.cs[j]? = some u → World.cell? ((wc.alloc (.cells #[.int .i64 d.k0, .int .i64 d.k1, .int .i64 d.k2, .int .i64 d.k3, .int .u32 d.k4, .int .u32 d.sh, .int .i64 d.pg, .int .i64 d.at_, .bool d.ro, .slice d.na d.ids.length d.nc] 196 (0, 0))).drew) (Addr.add ⟨wc.heap.size, 0, none⟩ j) = some u) := Lib.hid (fun j u hj => ew_new wc d _ j u hj)
    refine wp_region_noPanic ?_
    refine wp_region_held_drew (S := fun w' => (World.cell? w' ⟨bx, 0, none⟩ = some (.int .i64 d.k0) ∧ World.cell? w' ⟨bx, 1, none⟩ = some (.int .i64 d.k1) ∧ World.cell? w' ⟨bx, 2, none⟩ = some (.int .i64 d.k2) ∧ World.cell? w' ⟨bx, 3, none⟩ = some (.int .i64 d.k3) ∧ World.cell? w' ⟨bx, 4, none⟩ = some (.int .u32 d.k4) ∧ World.cell? w' ⟨bx, 5, none⟩ = some (.int .u32 d.sh) ∧ World.cell? w' ⟨bx, 6, none⟩ = some (.int .i64 d.pg) ∧ World.cell? w' ⟨bx, 7, none⟩ = some (.int .i64 d.at_) ∧ World.cell? w' ⟨bx, 8, none⟩ = some (.bool d.ro) ∧ World.cell? w' ⟨bx, 9, none⟩ = some (.slice d.na d.ids.length d.nc))) (by kernel_rfl) (HW2.out.below (Below.refl _ _).drew).all (fun hHeld => ?_)
    refine wpAnyH_take (i := 0) (v := ?_) (by rfl) (by kernel_rfl) (by kernel_rfl) (by kernel_rfl) (fun _ _ _ h => h) (Or.inl ⟨by kernel_rfl, ?_⟩) (by assumption) ?_; rotate_left 1; (focus (intro w hSw; (try dsimp only at hSw); simp only [List.getElem_toArray, List.getElem_cons_succ, List.getElem_cons_zero]; all_goals go_simp; all_goals (try with_reducible rfl))); (try simp only [Act.put, List.getElem_toArray, List.getElem_cons_succ, List.getElem_cons_zero, List.setIfInBounds_toArray, List.set_cons_zero, List.set_cons_succ])
    refine wpAnyH_take (i := 1) (v := ?_) (by rfl) (by kernel_rfl) (by kernel_rfl) (by kernel_rfl) (fun _ _ _ h => h) (Or.inl ⟨by kernel_rfl, ?_⟩) (by assumption) ?_; rotate_left 1; (focus (intro w hSw; (try dsimp only at hSw); simp only [List.getElem_toArray, List.getElem_cons_succ, List.getElem_cons_zero]; all_goals go_simp; all_goals (try with_reducible rfl))); (try simp only [Act.put, List.getElem_toArray, List.getElem_cons_succ, List.getElem_cons_zero, List.setIfInBounds_toArray, List.set_cons_zero, List.set_cons_succ])
    refine wpAnyH_take (i := 2) (v := ?_) (by rfl) (by kernel_rfl) (by kernel_rfl) (by kernel_rfl) (fun _ _ _ h => h) (Or.inl ⟨by kernel_rfl, ?_⟩) (by assumption) ?_; rotate_left 1; (focus (intro w hSw; (try dsimp only at hSw); simp only [List.getElem_toArray, List.getElem_cons_succ, List.getElem_cons_zero]; all_goals go_simp; all_goals (try with_reducible rfl))); (try simp only [Act.put, List.getElem_toArray, List.getElem_cons_succ, List.getElem_cons_zero, List.setIfInBounds_toArray, List.set_cons_zero, List.set_cons_succ])
    refine wpAnyH_take (i := 3) (v := ?_) (by rfl) (by kernel_rfl) (by kernel_rfl) (by kernel_rfl) (fun _ _ _ h => h) (Or.inl ⟨by kernel_rfl, ?_⟩) (by assumption) ?_; rotate_left 1; (focus (intro w hSw; (try dsimp only at hSw); simp only [List.getElem_toArray, List.getElem_cons_succ, List.getElem_cons_zero]; all_goals go_simp; all_goals (try with_reducible rfl))); (try simp only [Act.put, List.getElem_toArray, List.getElem_cons_succ, List.getElem_cons_zero, List.setIfInBounds_toArray, List.set_cons_zero, List.set_cons_succ])
    refine wpAnyH_take (i := 5) (v := ?_) (by rfl) (by kernel_rfl) (by kernel_rfl) (by kernel_rfl) (fun _ _ _ h => h) (Or.inl ⟨by kernel_rfl, ?_⟩) (by assumption) ?_; rotate_left 1; (focus (intro w hSw; (try dsimp only at hSw); simp only [List.getElem_toArray, List.getElem_cons_succ, List.getElem_cons_zero]; all_goals go_simp; all_goals (try with_reducible rfl))); (try simp only [Act.put, List.getElem_toArray, List.getElem_cons_succ, List.getElem_cons_zero, List.setIfInBounds_toArray, List.set_cons_zero, List.set_cons_succ])
    refine wpAnyH_ready (rs := [4, 6]) (by kernel_rfl) (by simp) ?_
    refine AllReadyH.cons (by rfl) (fun K hK => ?_) (AllReadyH.cons (by rfl) (fun K hK => ?_) AllReadyH.nil)
    · skip
      rw [if_pos (by kernel_rfl)]
      simp only [List.getElem_toArray, List.getElem_cons_succ, List.getElem_cons_zero]
      have q2 := (H2.out.below (Below.refl wc.heap.size wc).drew).c2
      go_wp2_with fail
      refine hK.out _ _ (HW2.out.below (Below.refl _ _).drew).all (fun hHeld => ?_)
      clear hK K q2
      (try simp only [Act.put, List.getElem_toArray, List.getElem_cons_succ, List.getElem_cons_zero, List.setIfInBounds_toArray, List.set_cons_zero, List.set_cons_succ])
      refine wpAnyH_ready (rs := [6]) (by kernel_rfl) (by simp) ?_; refine AllReadyH.cons (by rfl) (fun K hK => ?_) AllReadyH.nil; rw [if_pos (by kernel_rfl)]; simp only [List.getElem_toArray, List.getElem_cons_succ, List.getElem_cons_zero]
      go_wp2_with fail
      refine hK.out _ _ (HW2.out.below (((Below.refl _ _).alloc (Nat.le_refl _) _ : Below wc.heap.size wc _).drew)).all (fun hHeld => ?_)
      clear hK K
      (try simp only [Act.put, List.getElem_toArray, List.getElem_cons_succ, List.getElem_cons_zero, List.setIfInBounds_toArray, List.set_cons_zero, List.set_cons_succ])
      refine wpAnyH_ready (rs := [7]) (by kernel_rfl) (by simp) ?_
      refine AllReadyH.cons (by rfl) (fun K hK => ?_) AllReadyH.nil
      rw [if_pos (by kernel_rfl)]
      simp only [List.getElem_toArray, List.getElem_cons_succ, List.getElem_cons_zero]
      refine op_append_own _ _ _ 188 (by rfl) N 196 i0 _ 10 96 Tryd.underlying188 HI.out.1 HI.out.2.1 HI.out.2.2.1 HI.out.2.2.2 (by rfl) (by decide) (.slice va n vc) n (ewCells E1) (by rfl) HRow.out ⟨wc.heap.size, 0, none⟩ 1 1 d.cs (by rfl) rfl (HNew.out) (ew_one d) (by unfold maxLen; omega) (by omega) (by have := HNC.out; simp; omega) ?_
      intro v' w9 hown hgrow hloc
      obtain ⟨vb, vd, rfl⟩ := own_shape' hown
      have HOW := Lib.hid hown
      have HGR := Lib.hid hgrow
      have HLC : Hid ((Value.slice vb (n + 1) vd).ownBlock = (Value.slice va n vc).ownBlock ∨ _) := Lib.hid hloc
      have hbx : w9.heap[bx]? = wc.heap[bx]? := by
        rw [HGR.out.block _ (by have := HW2.out.lt; simp; omega) (fun e => HOF.out (by rw [← e]))]
        exact ((((Below.refl _ _).alloc (Nat.le_refl _) _ : Below wc.heap.size wc _)).drew).block _ HW2.out.lt
      have hcb : w9.heap[cb]? = wc.heap[cb]? := by
        rw [HGR.out.block _ (by have := H2.out.cl; simp; omega) (fun e => H2.out.ne (by rw [← e]))]
        exact ((((Below.refl _ _).alloc (Nat.le_refl _) _ : Below wc.heap.size wc _)).drew).block _ H2.out.cl
      have HW9 := Lib.hid (HW2.out.same (by have := HGR.out.size; simp at this; omega) hbx)
      have q2 := (World.cell?_of_block (a := ⟨cb, 2, none⟩) hcb).trans H2.out.c2
      have qf := (World.frozen?_of_block (a := ⟨cb, 2, none⟩) hcb).trans (H2.out.fr 2)
      have HCB := Lib.hid hcb
      clear hown hgrow hloc hbx hcb
      refine hK.out _ _ HW9.out.all (fun hHeld => ?_)
      clear hK K
      (try simp only [Act.put, List.getElem_toArray, List.getElem_cons_succ, List.getElem_cons_zero, List.setIfInBounds_toArray, List.set_cons_zero, List.set_cons_succ])
      refine wpAnyH_take (i := 8) (v := ?_) (by rfl) (by kernel_rfl) (by kernel_rfl) (by kernel_rfl) (fun _ _ _ h => h) (Or.inl ⟨by kernel_rfl, ?_⟩) (by assumption) ?_; rotate_left 1; (focus (intro w hSw; (try dsimp only at hSw); simp only [List.getElem_toArray, List.getElem_cons_succ, List.getElem_cons_zero]; all_goals go_simp; all_goals (try with_reducible rfl))); (try simp only [Act.put, List.getElem_toArray, List.getElem_cons_succ, List.getElem_cons_zero, List.setIfInBounds_toArray, List.set_cons_zero, List.set_cons_succ])
      refine wpAnyH_take (i := 9) (v := ?_) (by rfl) (by kernel_rfl) (by kernel_rfl) (by kernel_rfl) (fun _ _ _ h => h) (Or.inl ⟨by kernel_rfl, ?_⟩) (by assumption) ?_; rotate_left 1; (focus (intro w hSw; (try dsimp only at hSw); simp only [List.getElem_toArray, List.getElem_cons_succ, List.getElem_cons_zero]; all_goals go_simp; all_goals (try with_reducible rfl))); (try simp only [Act.put, List.getElem_toArray, List.getElem_cons_succ, List.getElem_cons_zero, List.setIfInBounds_toArray, List.set_cons_zero, List.set_cons_succ])
      refine wpAnyH_ready (rs := [10]) (by kernel_rfl) (by simp) ?_; refine AllReadyH.cons (by rfl) (fun K hK => ?_) AllReadyH.nil; rw [if_pos (by kernel_rfl)]; simp only [List.getElem_toArray, List.getElem_cons_succ, List.getElem_cons_zero]
      go_wp2_with fail
      refine hK.out _ _ (HW9.out.same (by simp) (Below.heap_setCell _ _ _ _ (show bx ≠ cb from HBX.out))).all (fun hHeld => ?_)
      clear hK K
      (try simp only [Act.put, List.getElem_toArray, List.getElem_cons_succ, List.getElem_cons_zero, List.setIfInBounds_toArray, List.set_cons_zero, List.set_cons_succ])
      refine wpAnyH_done (by kernel_rfl) ?_ _
      refine NoPanic.normal ?_
      go_wp2_with fail
      go_end0
      have P := cache_pushed hn1.out HNC.out H2.out HDC.out (Below.refl _ _) H2.out HOW.out HGR.out HLC.out
      exact ⟨rfl, .slice vb (n + 1) vd, (by rw [← hE1.out]; exact P.1), HBN.out.trans P.2.1, HKB.out.trans P.2.2 HOB.out, (HLC.out.imp (fun e => e.trans HOB.out) (fun e => ⟨_, by have := HKB.out.1; simp; omega, e⟩))⟩
    · skip
      rw [if_pos (by kernel_rfl)]
      simp only [List.getElem_toArray, List.getElem_cons_succ, List.getElem_cons_zero]
      go_wp2_with fail
      refine hK.out _ _ (HW2.out.below (((Below.refl _ _).alloc (Nat.le_refl _) _ : Below wc.heap.size wc _).drew)).all (fun hHeld => ?_)
      clear hK K
      (try simp only [Act.put, List.getElem_toArray, List.getElem_cons_succ, List.getElem_cons_zero, List.setIfInBounds_toArray, List.set_cons_zero, List.set_cons_succ])
      have q2 : ∀ o, World.cell? ((wc.alloc o).drew) ⟨cb, 2, none⟩ = _ := fun o => (H2.out.below (((Below.refl _ _).alloc (Nat.le_refl _) _ : Below wc.heap.size wc (wc.alloc o)).drew)).c2
      have q2' := q2 (.cells #[.int .i64 d.k0, .int .i64 d.k1, .int .i64 d.k2, .int .i64 d.k3, .int .u32 d.k4, .int .u32 d.sh, .int .i64 d.pg, .int .i64 d.at_, .bool d.ro, .slice d.na d.ids.length d.nc] 196 (0, 0))
      refine wpAnyH_ready (rs := [4]) (by kernel_rfl) (by simp) ?_; refine AllReadyH.cons (by rfl) (fun K hK => ?_) AllReadyH.nil; rw [if_pos (by kernel_rfl)]; simp only [List.getElem_toArray, List.getElem_cons_succ, List.getElem_cons_zero]
      go_wp2_with fail
      refine hK.out _ _ (HW2.out.below (((Below.refl _ _).alloc (Nat.le_refl _) _ : Below wc.heap.size wc _).drew)).all (fun hHeld => ?_)
      clear hK K q2 q2'
      (try simp only [Act.put, List.getElem_toArray, List.getElem_cons_succ, List.getElem_cons_zero, List.setIfInBounds_toArray, List.set_cons_zero, List.set_cons_succ])
      refine wpAnyH_ready (rs := [7]) (by kernel_rfl) (by simp) ?_
      refine AllReadyH.cons (by rfl) (fun K hK => ?_) AllReadyH.nil
      rw [if_pos (by kernel_rfl)]
      simp only [List.getElem_toArray, List.getElem_cons_succ, List.getElem_cons_zero]
      refine op_append_own _ _ _ 188 (by rfl) N 196 i0 _ 10 96 Tryd.underlying188 HI.out.1 HI.out.2.1 HI.out.2.2.1 HI.out.2.2.2 (by rfl) (by decide) (.slice va n vc) n (ewCells E1) (by rfl) HRow.out ⟨wc.heap.size, 0, none⟩ 1 1 d.cs (by rfl) rfl (HNew.out) (ew_one d) (by unfold maxLen; omega) (by omega) (by have := HNC.out; simp; omega) ?_
      intro v' w9 hown hgrow hloc
      obtain ⟨vb, vd, rfl⟩ := own_shape' hown
      have HOW := Lib.hid hown
      have HGR := Lib.hid hgrow
      have HLC : Hid ((Value.slice vb (n + 1) vd).ownBlock = (Value.slice va n vc).ownBlock ∨ _) := Lib.hid hloc
      have hbx : w9.heap[bx]? = wc.heap[bx]? := by
        rw [HGR.out.block _ (by have := HW2.out.lt; simp; omega) (fun e => HOF.out (by rw [← e]))]
        exact ((((Below.refl _ _).alloc (Nat.le_refl _) _ : Below wc.heap.size wc _)).drew).block _ HW2.out.lt
      have hcb : w9.heap[cb]? = wc.heap[cb]? := by
        rw [HGR.out.block _ (by have := H2.out.cl; simp; omega) (fun e => H2.out.ne (by rw [← e]))]
        exact ((((Below.refl _ _).alloc (Nat.le_refl _) _ : Below wc.heap.size wc _)).drew).block _ H2.out.cl
      have HW9 := Lib.hid (HW2.out.same (by have := HGR.out.size; simp at this; omega) hbx)
      have q2 := (World.cell?_of_block (a := ⟨cb, 2, none⟩) hcb).trans H2.out.c2
      have qf := (World.frozen?_of_block (a := ⟨cb, 2, none⟩) hcb).trans (H2.out.fr 2)
      have HCB := Lib.hid hcb
      clear hown hgrow hloc hbx hcb
      refine hK.out _ _ HW9.out.all (fun hHeld => ?_)
      clear hK K
      (try simp only [Act.put, List.getElem_toArray, List.getElem_cons_succ, List.getElem_cons_zero, List.setIfInBounds_toArray, List.set_cons_zero, List.set_cons_succ])
      refine wpAnyH_take (i := 8) (v := ?_) (by rfl) (by kernel_rfl) (by kernel_rfl) (by kernel_rfl) (fun _ _ _ h => h) (Or.inl ⟨by kernel_rfl, ?_⟩) (by assumption) ?_; rotate_left 1; (focus (intro w hSw; (try dsimp only at hSw); simp only [List.getElem_toArray, List.getElem_cons_succ, List.getElem_cons_zero]; all_goals go_simp; all_goals (try with_reducible rfl))); (try simp only [Act.put, List.getElem_toArray, List.getElem_cons_succ, List.getElem_cons_zero, List.setIfInBounds_toArray, List.set_cons_zero, List.set_cons_succ])
      refine wpAnyH_take (i := 9) (v := ?_) (by rfl) (by kernel_rfl) (by kernel_rfl) (by kernel_rfl) (fun _ _ _ h => h) (Or.inl ⟨by kernel_rfl, ?_⟩) (by assumption) ?_; rotate_left 1; (focus (intro w hSw; (try dsimp only at hSw); simp only [List.getElem_toArray, List.getElem_cons_succ, List.getElem_cons_zero]; all_goals go_simp; all_goals (try with_reducible rfl))); (try simp only [Act.put, List.getElem_toArray, List.getElem_cons_succ, List.getElem_cons_zero, List.setIfInBounds_toArray, List.set_cons_zero, List.set_cons_succ])
      refine wpAnyH_ready (rs := [10]) (by kernel_rfl) (by simp) ?_; refine AllReadyH.cons (by rfl) (fun K hK => ?_) AllReadyH.nil; rw [if_pos (by kernel_rfl)]; simp only [List.getElem_toArray, List.getElem_cons_succ, List.getElem_cons_zero]
      go_wp2_with fail
      refine hK.out _ _ (HW9.out.same (by simp) (Below.heap_setCell _ _ _ _ (show bx ≠ cb from HBX.out))).all (fun hHeld => ?_)
      clear hK K
      (try simp only [Act.put, List.getElem_toArray, List.getElem_cons_succ, List.getElem_cons_zero, List.setIfInBounds_toArray, List.set_cons_zero, List.set_cons_succ])
      refine wpAnyH_done (by kernel_rfl) ?_ _
      refine NoPanic.normal ?_
      go_wp2_with fail
      go_end0
      have P := cache_pushed hn1.out HNC.out H2.out HDC.out (Below.refl _ _) H2.out HOW.out HGR.out HLC.out
      exact ⟨rfl, .slice vb (n + 1) vd, (by rw [← hE1.out]; exact P.1), HBN.out.trans P.2.1, HKB.out.trans P.2.2 HOB.out, (HLC.out.imp (fun e => e.trans HOB.out) (fun e => ⟨_, by have := HKB.out.1; simp; omega, e⟩))⟩
  
end Go.Proofs.YtjkbfhojjjkgnaaDoor
namespace Go.Proofs.YtjkbfhojjjkgnaaDoor
open Go.ChangeShapes Go.WideShapes Go.ChangeAt Go.RowKit
set_option linter.unusedVariables false
set_option linter.unusedSimpArgs false
/-- What Find leaves remembered. -/
def FindOut (E E' : List EW) (full : Bool) (hits hits' k0 k1 k2 k3 k4 sh : Int) (ids : List Int) (f : Int) : Prop :=
  (∃ e, e ∈ E ∧ e.is k0 k1 k2 k3 k4 sh = true ∧ E' = E ∧ hits' = hits + 1 ∧ f = 0) ∨
  ((∀ e, e ∈ E → e.is k0 k1 k2 k3 k4 sh = false) ∧ hits' = hits ∧ ((f = 0 ∧ ∃ d : EW, d.is k0 k1 k2 k3 k4 sh = true ∧ d.ids = ids ∧ E' = stay E full ++ [d]) ∨ (¬ f = 0 ∧ E' = E)))
theorem mem_stay {E : List EW} {full : Bool} {e : EW} (h : e ∈ stay E full) : e ∈ E := by
  unfold stay at h
  cases full
  · exact h
  · exact List.mem_of_mem_tail h
theorem ways_stay {a b : Shp} {th : Nat → Bool} {vr_ : Nat → Int} {W : Nat → Nat → Value} {th2 : Nat → Bool} {vr2 : Nat → Int} {E : List EW} (full : Bool) (ok : WaysOk a b th vr_ W th2 vr2 E) : WaysOk a b th vr_ W th2 vr2 (stay E full) := fun e he => ok e (mem_stay he)
theorem stay_len {E : List EW} {full : Bool} {size : Int} (h : (E.length : Int) ≤ size ∧ 1 ≤ size) (hf : ((E.length : Int) == size) = full) : ((stay E full).length : Int) + 1 ≤ size := by
  unfold stay
  cases full
  · have : ¬ (E.length : Int) = size := by simpa using hf
    simp
    omega
  · have : (E.length : Int) = size := by simpa using hf
    simp
    omega
/-- Never more than may be. -/
theorem FindOut.room {E E' : List EW} {full : Bool} {hits hits' k0 k1 k2 k3 k4 sh f size : Int} {ids : List Int} (h : FindOut E E' full hits hits' k0 k1 k2 k3 k4 sh ids f) (hr : (E.length : Int) ≤ size ∧ 1 ≤ size) (hf : ((E.length : Int) == size) = full) : (E'.length : Int) ≤ size ∧ hits ≤ hits' ∧ hits' ≤ hits + 1 := by
  rcases h with ⟨e, _, _, rfl, rfl, _⟩ | ⟨_, rfl, ⟨_, d, _, _, rfl⟩ | ⟨_, rfl⟩⟩
  · omega
  · have := stay_len hr hf
    simp
    omega
  · omega
set_option maxRecDepth 100000 in
set_option maxHeartbeats 8000000 in
theorem cfindx_is {S : Nat} {a b : Shp} {th : Nat → Bool} {vr_ : Nat → Int} {W : Nat → Nat → Value} {th2 : Nat → Bool} {vr2 : Nat → Int} {W2 : Nat → Nat → Int} {N cb : Nat} {size hits : Int} {v : Value} {E : List EW} (k0 k1 k2 k3 k4 : Int) (ad : Nat) (had : ad ≤ 4294967295) (ids : List Int) (pg at_ : Int) (r : Bool) (f : Int) (n : Nat) (hn : Hid (E.length = n)) (full : Bool) (hroom : Hid ((n : Int) ≤ size ∧ 1 ≤ size)) (hful : Hid (((n : Int) == size) = full)) (hn64 : n ≤ 64) (hh : Hid (0 ≤ hits ∧ hits ≤ 1000000)) (hw : Hid (Way a b th vr_ W th2 vr2 k0 k1 k2 k3 k4 5 ad false ids pg at_ r f)) (ok : Hid (WaysOk a b th vr_ W th2 vr2 E)) (w : World) (h : (StAt w S a b th vr_ W th2 vr2 W2)) (ca : CacheAt w N cb size hits v E) (hN : N ≤ w.heap.size) :
    Calls Tryd.prog 78 #[.pointer (some ⟨cb, 0, none⟩), .pointer (some ⟨S, 0, none⟩), (Value.agg #[.int .i64 k0, .int .i64 k1, .int .i64 k2, .int .i64 k3, .int .u32 k4]), .int .u32 (ad : Int)] w fun e w' => e = .returned (.tuple #[.agg #[.int .i64 pg, .int .i64 at_, .bool r], .int .i64 f]) ∧ Below N w w' ∧ ∃ hits' v' E', CacheAt w' N cb size hits' v' E' ∧ WaysOk a b th vr_ W th2 vr2 E' ∧ FindOut E E' full hits hits' k0 k1 k2 k3 k4 ((ad : Int) / 32) ids f ∧ KeepB w w' cb v ∧ (v'.ownBlock = v.ownBlock ∨ ∃ g, w.heap.size ≤ g ∧ v'.ownBlock = some g) ∧ (∀ x, x < w.heap.size → NoNode E x → NoNode E' x) := by
  have H := Lib.hid h
  have HCA := Lib.hid ca
  have HN := Lib.hid hN
  obtain ⟨va, vc, hv⟩ := ca.shape
  rw [hn.out] at hv
  subst hv
  clear h ca hN
  go_enter Tryd.func78, Tryd.ntmps78
  go_upto_region 2 with fail
  obtain ⟨wB, hwB⟩ : ∃ wB, wB = ((w.alloc (.cells #[.int .i64 k0, .int .i64 k1, .int .i64 k2, .int .i64 k3, .int .u32 k4] 27 (0, 0))).alloc (.cells #[.int .i64 0, .int .i64 0, .bool false] 145 (0, 0))).alloc (.cells #[.int .i64 k0, .int .i64 k1, .int .i64 k2, .int .i64 k3, .int .u32 k4, .int .u32 ((ad : Int) / 32)] 193 (0, 0)) := ⟨_, rfl⟩
  rw [← hwB]
  have HB1 : Hid (Below w.heap.size w wB) := Lib.hid (by rw [hwB]; exact (((Below.refl _ _).alloc (Nat.le_refl _) _ : Below w.heap.size w _).alloc (by simp) _).alloc (by simp; omega) _)
  have HKR1 : Hid (KeyC wB w.heap.size k0 k1 k2 k3 k4) := Lib.hid (by rw [hwB]; exact key_new1 _ _ _ _ _ _ _ _ _)
  have HPR1 : Hid (PlC wB (w.heap.size + 1) 0 0 false) := Lib.hid (by rw [hwB]; exact PlC.new2 _ _ _ _ _ _ _)
  have HF1 : Hid (FromAt wB (w.heap.size + 1 + 1) k0 k1 k2 k3 k4 ((ad : Int) / 32)) := Lib.hid (by rw [hwB]; exact from_new _ _ _ _ _ _ _ _ _ _)
  have H1 := Lib.hid (H.out.below HB1.out)
  have HC1 := Lib.hid (HCA.out.below HB1.out)
  have c2 := HC1.out.c2
  clear hwB
  have hn64' : n ≤ 64 := by omega
  have r1 : IntKind.i64.wrap ((ad : Int) % 32) = (ad : Int) % 32 := by rw [IntKind.wrap_i64]; omega
  rcases firstE (fun e => e.is k0 k1 k2 k3 k4 ((ad : Int) / 32)) E with hno | ⟨j, d, hj, hyes, hno⟩
  · have HNO := Lib.hid hno
    clear hno
    by_cases hf : f = 0
    · subst hf
      go_upto_region 10 with (first
        | (go_at_call 92; (with_reducible refine (cindex_none k0 k1 k2 k3 k4 ((ad : Int) / 32) hn hn64' HNO _ HC1.out HF1.out).mono ?_); rintro e w2 ⟨rfl, hb⟩; have HB2 := Lib.hid (HB1.out.trans (hb.mono HB1.out.size)); have HKR2 := Lib.hid (HKR1.out.below hb); have HPR2 := Lib.hid (HPR1.out.below hb); have HF2 := Lib.hid (HF1.out.below hb); have H2 := Lib.hid (H1.out.below hb); have HC2 := Lib.hid (HC1.out.below hb); have q0 := HKR2.out.c0; have q1 := HKR2.out.c1; have q2 := HKR2.out.c2; have q3 := HKR2.out.c3; have q4 := HKR2.out.c4; clear hb c2)
        | (go_at_call 94; (with_reducible refine (pWalk_is k0 k1 k2 k3 k4 _ ids pg at_ r 0 hw _ H2.out).mono ?_); rintro e w3 ⟨rfl, hb⟩; have hb' := hb.alloc hb.size (.cells #[.int .i64 pg, .int .i64 at_, .bool r] 145 (0, 0)); have HB3 := Lib.hid (HB2.out.trans (hb'.mono HB2.out.size)); have HKR3 := Lib.hid (HKR2.out.below hb'); have HPR3 := Lib.hid (HPR2.out.below hb'); have HF3 := Lib.hid (HF2.out.below hb'); have H3 := Lib.hid (H2.out.below hb'); have HC3 := Lib.hid (HC2.out.below hb'); have HQ3 := Lib.hid (PlC.new w3 pg at_ r 145); have HZ3 := Lib.hid hb.size; have HLQ := Lib.hid (Nat.lt_of_lt_of_le HF2.out.lt hb.size); clear hb hb' q0 q1 q2 q3 q4))
      obtain ⟨qb, hqb⟩ : ∃ qb, Hid (w3.heap.size = qb) := ⟨_, Lib.hid rfl⟩
      rw [hqb.out] at HQ3 ⊢
      obtain ⟨wP, hwP⟩ : ∃ wP, wP = w3.alloc (.cells #[.int .i64 pg, .int .i64 at_, .bool r] 145 (0, 0)) := ⟨_, rfl⟩
      rw [← hwP] at HB3 HKR3 HPR3 HF3 H3 HC3 HQ3 ⊢
      clear hwP
      have HQB : Hid (w.heap.size + 1 + 1 < qb) := Lib.hid (by rw [← hqb.out]; exact HLQ.out)
      have HS3 : Hid (∀ w', KeyC w' w.heap.size k0 k1 k2 k3 k4 → FromAt w' (w.heap.size + 1 + 1) k0 k1 k2 k3 k4 ((ad : Int) / 32) → PlC w' qb pg at_ r → ((World.cell? w' ⟨w.heap.size, 0, none⟩ = some (.int .i64 k0) ∧ World.cell? w' ⟨w.heap.size, 1, none⟩ = some (.int .i64 k1) ∧ World.cell? w' ⟨w.heap.size, 2, none⟩ = some (.int .i64 k2) ∧ World.cell? w' ⟨w.heap.size, 3, none⟩ = some (.int .i64 k3) ∧ World.cell? w' ⟨w.heap.size, 4, none⟩ = some (.int .u32 k4)) ∧ (World.cell? w' ⟨w.heap.size + 1 + 1, 0, none⟩ = some (.int .i64 k0) ∧ World.cell? w' ⟨w.heap.size + 1 + 1, 1, none⟩ = some (.int .i64 k1) ∧ World.cell? w' ⟨w.heap.size + 1 + 1, 2, none⟩ = some (.int .i64 k2) ∧ World.cell? w' ⟨w.heap.size + 1 + 1, 3, none⟩ = some (.int .i64 k3) ∧ World.cell? w' ⟨w.heap.size + 1 + 1, 4, none⟩ = some (.int .u32 k4) ∧ World.cell? w' ⟨w.heap.size + 1 + 1, 5, none⟩ = some (.int .u32 ((ad : Int) / 32))) ∧ (World.cell? w' ⟨qb, 0, none⟩ = some (.int .i64 pg) ∧ World.cell? w' ⟨qb, 1, none⟩ = some (.int .i64 at_) ∧ World.cell? w' ⟨qb, 2, none⟩ = some (.bool r)))) := Lib.hid (fun w' h1 h2 h3 => ⟨⟨h1.c0, h1.c1, h1.c2, h1.c3, h1.c4⟩, ⟨h2.c0, h2.c1, h2.c2, h2.c3, h2.c4, h2.c5⟩, ⟨h3.c0, h3.c1, h3.c2⟩⟩)
      have hd := (Below.refl wP.heap.size wP).drew
      have HB4 := Lib.hid (HB3.out.trans (hd.mono HB3.out.size))
      have HKR4 := Lib.hid (HKR3.out.below hd)
      have HPR4 := Lib.hid (HPR3.out.below hd)
      have HF4 := Lib.hid (HF3.out.below hd)
      have H4 := Lib.hid (H3.out.below hd)
      have HC4 := Lib.hid (HC3.out.below hd)
      have HQ4 := Lib.hid (HQ3.out.below hd)
      refine wp_region_noPanic ?_
      refine wp_region_held_drew (S := fun w' => ((World.cell? w' ⟨w.heap.size, 0, none⟩ = some (.int .i64 k0) ∧ World.cell? w' ⟨w.heap.size, 1, none⟩ = some (.int .i64 k1) ∧ World.cell? w' ⟨w.heap.size, 2, none⟩ = some (.int .i64 k2) ∧ World.cell? w' ⟨w.heap.size, 3, none⟩ = some (.int .i64 k3) ∧ World.cell? w' ⟨w.heap.size, 4, none⟩ = some (.int .u32 k4)) ∧ (World.cell? w' ⟨w.heap.size + 1 + 1, 0, none⟩ = some (.int .i64 k0) ∧ World.cell? w' ⟨w.heap.size + 1 + 1, 1, none⟩ = some (.int .i64 k1) ∧ World.cell? w' ⟨w.heap.size + 1 + 1, 2, none⟩ = some (.int .i64 k2) ∧ World.cell? w' ⟨w.heap.size + 1 + 1, 3, none⟩ = some (.int .i64 k3) ∧ World.cell? w' ⟨w.heap.size + 1 + 1, 4, none⟩ = some (.int .u32 k4) ∧ World.cell? w' ⟨w.heap.size + 1 + 1, 5, none⟩ = some (.int .u32 ((ad : Int) / 32))) ∧ (World.cell? w' ⟨qb, 0, none⟩ = some (.int .i64 pg) ∧ World.cell? w' ⟨qb, 1, none⟩ = some (.int .i64 at_) ∧ World.cell? w' ⟨qb, 2, none⟩ = some (.bool r)))) (by kernel_rfl) (HS3.out _ HKR4.out HF4.out HQ4.out) (fun hHeld => ?_)
      clear hd
      refine wpAnyH_take (i := 0) (v := ?_) (by rfl) (by kernel_rfl) (by kernel_rfl) (by kernel_rfl) (fun _ _ _ h => h) (Or.inl ⟨by kernel_rfl, ?_⟩) (by assumption) ?_; rotate_left 1; (focus (intro w hSw; (try dsimp only at hSw); simp only [List.getElem_toArray, List.getElem_cons_succ, List.getElem_cons_zero]; all_goals go_simp; all_goals (try with_reducible rfl))); (try simp only [Act.put, List.getElem_toArray, List.getElem_cons_succ, List.getElem_cons_zero, List.setIfInBounds_toArray, List.set_cons_zero, List.set_cons_succ])
      refine wpAnyH_take (i := 1) (v := ?_) (by rfl) (by kernel_rfl) (by kernel_rfl) (by kernel_rfl) (fun _ _ _ h => h) (Or.inl ⟨by kernel_rfl, ?_⟩) (by assumption) ?_; rotate_left 1; (focus (intro w hSw; (try dsimp only at hSw); simp only [List.getElem_toArray, List.getElem_cons_succ, List.getElem_cons_zero]; all_goals go_simp; all_goals (try with_reducible rfl))); (try simp only [Act.put, List.getElem_toArray, List.getElem_cons_succ, List.getElem_cons_zero, List.setIfInBounds_toArray, List.set_cons_zero, List.set_cons_succ])
      refine wpAnyH_take (i := 2) (v := ?_) (by rfl) (by kernel_rfl) (by kernel_rfl) (by kernel_rfl) (fun _ _ _ h => h) (Or.inl ⟨by kernel_rfl, ?_⟩) (by assumption) ?_; rotate_left 1; (focus (intro w hSw; (try dsimp only at hSw); simp only [List.getElem_toArray, List.getElem_cons_succ, List.getElem_cons_zero]; all_goals go_simp; all_goals (try with_reducible rfl))); (try simp only [Act.put, List.getElem_toArray, List.getElem_cons_succ, List.getElem_cons_zero, List.setIfInBounds_toArray, List.set_cons_zero, List.set_cons_succ])
      refine wpAnyH_take (i := 3) (v := ?_) (by rfl) (by kernel_rfl) (by kernel_rfl) (by kernel_rfl) (fun _ _ _ h => h) (Or.inl ⟨by kernel_rfl, ?_⟩) (by assumption) ?_; rotate_left 1; (focus (intro w hSw; (try dsimp only at hSw); simp only [List.getElem_toArray, List.getElem_cons_succ, List.getElem_cons_zero]; all_goals go_simp; all_goals (try with_reducible rfl))); (try simp only [Act.put, List.getElem_toArray, List.getElem_cons_succ, List.getElem_cons_zero, List.setIfInBounds_toArray, List.set_cons_zero, List.set_cons_succ])
      refine wpAnyH_take (i := 4) (v := ?_) (by rfl) (by kernel_rfl) (by kernel_rfl) (by kernel_rfl) (fun _ _ _ h => h) (Or.inl ⟨by kernel_rfl, ?_⟩) (by assumption) ?_; rotate_left 1; (focus (intro w hSw; (try dsimp only at hSw); simp only [List.getElem_toArray, List.getElem_cons_succ, List.getElem_cons_zero]; all_goals go_simp; all_goals (try with_reducible rfl))); (try simp only [Act.put, List.getElem_toArray, List.getElem_cons_succ, List.getElem_cons_zero, List.setIfInBounds_toArray, List.set_cons_zero, List.set_cons_succ])
      refine wpAnyH_take (i := 5) (v := ?_) (by rfl) (by kernel_rfl) (by kernel_rfl) (by kernel_rfl) (fun _ _ _ h => h) (Or.inl ⟨by kernel_rfl, ?_⟩) (by assumption) ?_; rotate_left 1; (focus (intro w hSw; (try dsimp only at hSw); simp only [List.getElem_toArray, List.getElem_cons_succ, List.getElem_cons_zero]; all_goals go_simp; all_goals (try with_reducible rfl))); (try simp only [Act.put, List.getElem_toArray, List.getElem_cons_succ, List.getElem_cons_zero, List.setIfInBounds_toArray, List.set_cons_zero, List.set_cons_succ])
      have HIL : Hid (ids.length ≤ 100) := Lib.hid (by have := hw.out.ids_len; omega)
      refine wpAnyH_ready (rs := [6]) (by kernel_rfl) (by simp) ?_; refine AllReadyH.cons (by rfl) (fun K hK => ?_) AllReadyH.nil; rw [if_pos (by kernel_rfl)]; simp only [List.getElem_toArray, List.getElem_cons_succ, List.getElem_cons_zero]
      go_wp2_with (first
        | (go_at_call 96; (with_reducible refine (pNodes_is k0 k1 k2 k3 k4 _ ids HIL pg at_ r 0 hw _ H4.out).mono ?_); rintro e w5 ⟨vn, rfl, hr, hb⟩; obtain ⟨na, nc, rfl⟩ := own_shape' hr; have HRn := Lib.hid hr; have HB5 := Lib.hid (HB4.out.trans (hb.mono HB4.out.size)); have HKR5 := Lib.hid (HKR4.out.below hb); have HPR5 := Lib.hid (HPR4.out.below hb); have HF5 := Lib.hid (HF4.out.below hb); have HC5 := Lib.hid (HC4.out.below hb); have HQ5 := Lib.hid (HQ4.out.below hb); clear hr hb))
      refine hK.out _ _ (HS3.out _ HKR5.out HF5.out HQ5.out) (fun hHeld => ?_)
      clear hK K
      (try simp only [Act.put, List.getElem_toArray, List.getElem_cons_succ, List.getElem_cons_zero, List.setIfInBounds_toArray, List.set_cons_zero, List.set_cons_succ])
      refine wpAnyH_take (i := 7) (v := ?_) (by rfl) (by kernel_rfl) (by kernel_rfl) (by kernel_rfl) (fun _ _ _ h => h) (Or.inl ⟨by kernel_rfl, ?_⟩) (by assumption) ?_; rotate_left 1; (focus (intro w hSw; (try dsimp only at hSw); simp only [List.getElem_toArray, List.getElem_cons_succ, List.getElem_cons_zero]; all_goals go_simp; all_goals (try with_reducible rfl))); (try simp only [Act.put, List.getElem_toArray, List.getElem_cons_succ, List.getElem_cons_zero, List.setIfInBounds_toArray, List.set_cons_zero, List.set_cons_succ])
      refine wpAnyH_ready (rs := [8]) (by kernel_rfl) (by simp) ?_; refine AllReadyH.cons (by rfl) (fun K hK => ?_) AllReadyH.nil; rw [if_pos (by kernel_rfl)]; simp only [List.getElem_toArray, List.getElem_cons_succ, List.getElem_cons_zero]
      have HND : Hid (NodesIn w5 N cb (.slice va n vc) ⟨k0, k1, k2, k3, k4, (ad : Int) / 32, pg, at_, r, ids, na, nc⟩) := Lib.hid (nodes_new HRn.out (by have := HB4.out.size; have := HN.out; omega) (by have := HB4.out.size; have := HCA.out.cl; omega) (fun g e => by have := (HCA.out.row.lt g e).2; have := HB4.out.size; omega))
      have HN5 : Hid (N ≤ w5.heap.size) := Lib.hid (Nat.le_trans HN.out HB5.out.size)
      have HOw : Hid (∀ g, (Value.slice va n vc).ownBlock = some g → g < w.heap.size) := Lib.hid (fun g e => (HCA.out.row.lt g e).2)
      have HCl : Hid (cb < w.heap.size) := Lib.hid HCA.out.cl
      go_wp2_with (first
        | (go_at_call 95; (with_reducible refine (cremember_any ⟨k0, k1, k2, k3, k4, (ad : Int) / 32, pg, at_, r, ids, na, nc⟩ n full hn hroom hful.out hn64 _ HC5.out HND.out HN5.out).mono ?_); rintro e w6 ⟨rfl, v', hC6, hB6, hK6, hO6⟩; have HC6 := Lib.hid hC6; have HB6 := Lib.hid hB6; have HK6 := Lib.hid hK6; have HO6 := Lib.hid hO6; clear hC6 hB6 hK6 hO6))
      have HKR6 := Lib.hid (HKR5.out.same' HK6.out.1 (HK6.out.2 _ HKR5.out.lt (by have := HCl.out; omega) (fun e => by have := HOw.out _ e; omega)))
      have HPR6 := Lib.hid (HPR5.out.same HK6.out.1 (HK6.out.2 _ HPR5.out.lt (by have := HCl.out; omega) (fun e => by have := HOw.out _ e; omega)))
      have HF6 := Lib.hid (HF5.out.same HK6.out.1 (HK6.out.2 _ HF5.out.lt (by have := HCl.out; omega) (fun e => by have := HOw.out _ e; omega)))
      have HQ6 := Lib.hid (HQ5.out.same HK6.out.1 (HK6.out.2 _ HQ5.out.lt (by have := HCl.out; have := HQB.out; omega) (fun e => by have := HOw.out _ e; have := HQB.out; omega)))
      refine hK.out _ _ (HS3.out _ HKR6.out HF6.out HQ6.out) (fun hHeld => ?_)
      clear hK K
      (try simp only [Act.put, List.getElem_toArray, List.getElem_cons_succ, List.getElem_cons_zero, List.setIfInBounds_toArray, List.set_cons_zero, List.set_cons_succ])
      refine wpAnyH_done (by kernel_rfl) ?_ _
      refine NoPanic.normal ?_
      have a0 := HQ6.out.c0
      have a1 := HQ6.out.c1
      have a2 := HQ6.out.c2
      have p0 := HPR6.out.c0
      have p1 := HPR6.out.c1
      have p2 := HPR6.out.c2
      have pf0 := HPR6.out.fr 0
      have pf1 := HPR6.out.fr 1
      have pf2 := HPR6.out.fr 2
      go_wp2_with fail
      have t := HPR6.out.set pg at_ r
      have t0 := t.c0
      have t1 := t.c1
      have t2 := t.c2
      refine bodyPost_ret (v := .tuple #[.agg #[.int .i64 pg, .int .i64 at_, .bool r], .int .i64 0]) (by simp [results, Tryd.results78, go_sem, t0, t1, t2]) rfl ⟨rfl, ?_⟩
      have hb := set3_below ((HB5.out.mono HN.out).trans HB6.out) (show N ≤ w.heap.size + 1 by have := HN.out; omega) (.int .i64 pg) (.int .i64 at_) (.bool r)
      have hs5 := HB5.out.size
      refine ⟨hb, hits, v', _, HC6.out.put3 (w.heap.size + 1) (by have := HCl.out; omega) ?_ ?_ _ _ _, ways_more (ways_stay full ok.out) hw.out, .inr ⟨HNO.out, rfl, .inl ⟨rfl, _, by simp [EW.is], rfl, rfl⟩⟩, ⟨hb.size, fun k hk hkc hkv => ?_⟩, HO6.out.imp id (fun ⟨g, hg, e⟩ => ⟨g, by omega, e⟩), fun x hx hE e he hl g o hna => ?_⟩
      · intro e
        rcases HO6.out with e' | ⟨g, hg, e'⟩
        · rw [e'] at e; have := HOw.out _ e; omega
        · rw [e'] at e; injection e with e; have := HQB.out; have := HQ5.out.lt; omega
      · intro e he hl g o hna
        rcases List.mem_append.1 he with he | he
        · obtain ⟨g', o', b1, b2, b3, b4, b5, b6⟩ := HCA.out.nd e (mem_stay he) 0 hl
          rw [hna] at b1
          injection b1 with b1
          injection b1 with b1 b1'
          omega
        · simp at he
          subst he
          obtain ⟨g', c', e2⟩ := own_some' HRn.out hl
          have hna' : na = some ⟨g, o, none⟩ := hna
          rw [hna'] at e2
          simp only [Value.slice.injEq, Option.some.injEq, Addr.mk.injEq] at e2
          have := (HRn.out.lt g (by rw [hna']; simp [Value.ownBlock])).1
          have := HB4.out.size
          have := HQ4.out.lt
          have := HQB.out
          omega
      · rw [set_heap _ _ _ _ _ (by omega), set_heap _ _ _ _ _ (by omega), set_heap _ _ _ _ _ (by omega), HK6.out.2 k (by omega) hkc hkv]
        exact HB5.out.block k hk
      · rcases List.mem_append.1 he with he | he
        · exact hE e (mem_stay he) hl g o hna
        · simp at he
          subst he
          have hna' : na = some ⟨g, o, none⟩ := hna
          have h1 := (HRn.out.lt g (by rw [hna']; simp [Value.ownBlock])).1
          have h2 := HB4.out.size
          omega
    · go_wp2_with (first
        | (go_at_call 92; (with_reducible refine (cindex_none k0 k1 k2 k3 k4 ((ad : Int) / 32) hn hn64' HNO _ HC1.out HF1.out).mono ?_); rintro e w2 ⟨rfl, hb⟩; have HB2 := Lib.hid (HB1.out.trans (hb.mono HB1.out.size)); have HKR2 := Lib.hid (HKR1.out.below hb); have HPR2 := Lib.hid (HPR1.out.below hb); have HF2 := Lib.hid (HF1.out.below hb); have H2 := Lib.hid (H1.out.below hb); have HC2 := Lib.hid (HC1.out.below hb); have q0 := HKR2.out.c0; have q1 := HKR2.out.c1; have q2 := HKR2.out.c2; have q3 := HKR2.out.c3; have q4 := HKR2.out.c4; clear hb c2)
        | (go_at_call 94; (with_reducible refine (pWalk_is k0 k1 k2 k3 k4 _ ids pg at_ r f hw _ H2.out).mono ?_); rintro e w3 ⟨rfl, hb⟩; have hb' := hb.alloc hb.size (.cells #[.int .i64 pg, .int .i64 at_, .bool r] 145 (0, 0)); have HB3 := Lib.hid (HB2.out.trans (hb'.mono HB2.out.size)); have HKR3 := Lib.hid (HKR2.out.below hb'); have HPR3 := Lib.hid (HPR2.out.below hb'); have HF3 := Lib.hid (HF2.out.below hb'); have H3 := Lib.hid (H2.out.below hb'); have HC3 := Lib.hid (HC2.out.below hb'); have p0 := HPR3.out.c0; have p1 := HPR3.out.c1; have p2 := HPR3.out.c2; have pf0 := HPR3.out.fr 0; have pf1 := HPR3.out.fr 1; have pf2 := HPR3.out.fr 2; clear hb hb' q0 q1 q2 q3 q4))
      have t := HPR3.out.set pg at_ r
      have t0 := t.c0
      have t1 := t.c1
      have t2 := t.c2
      refine bodyPost_ret (v := .tuple #[.agg #[.int .i64 pg, .int .i64 at_, .bool r], .int .i64 f]) (by simp [results, Tryd.results78, go_sem, t0, t1, t2]) rfl ⟨rfl, ?_⟩
      have hb := set3_below HB3.out (show w.heap.size ≤ w.heap.size + 1 by omega) (.int .i64 pg) (.int .i64 at_) (.bool r)
      exact ⟨hb.mono HN.out, hits, _, E, HCA.out.below hb, ok.out, .inr ⟨HNO.out, rfl, .inr ⟨hf, rfl⟩⟩, ⟨hb.size, fun k hk _ _ => hb.block k hk⟩, .inl rfl, fun _ _ h => h⟩
  · obtain ⟨e1, e2, rfl, rfl⟩ := ways_hit ok.out hw.out (List.mem_of_getElem? hj) hyes
    have HNO : Hid (∀ (i : Nat) (e : EW), i < j → E[i]? = some e → e.is k0 k1 k2 k3 k4 ((ad : Int) / 32) = false) := Lib.hid hno
    have HJ := Lib.hid hj
    have HY : Hid (d.is k0 k1 k2 k3 k4 ((ad : Int) / 32) = true) := Lib.hid hyes
    have hjn : j < n := by
      rw [← hn.out]
      rcases Nat.lt_or_ge j E.length with h' | h'
      · exact h'
      · rw [List.getElem?_eq_none h'] at hj; cases hj
    obtain ⟨g, cc, hgv⟩ := HC1.out.row1 (by rw [hn.out]; omega)
    simp only [Value.slice.injEq] at hgv
    obtain ⟨rfl, -, -⟩ := hgv
    have hgc : ¬ g = cb := fun e => HC1.out.ne (by simp [Value.ownBlock, e])
    have HOw : Hid (g < w.heap.size) := Lib.hid (HCA.out.row.lt g (by simp [Value.ownBlock])).2
    have HCl : Hid (cb < w.heap.size) := Lib.hid HCA.out.cl
    have hpc : ¬ w.heap.size + 1 = cb := by have := HCl.out; omega
    have j0 : (0 : Int) ≤ j := by omega
    have j1 : (j : Int) < n := by omega
    have hh0 : 0 ≤ hits := hh.out.1
    have hh1 : hits ≤ 1000000 := hh.out.2
    have HE1 := Lib.hid e1
    have HE2 := Lib.hid e2
    have m0 : (0 : Int) ≤ (ad : Int) % 32 := by omega
    have m1 : (ad : Int) % 32 < 32 := by omega
    clear hno hj hyes e1 e2
    go_wp2_with (first
      | (go_at_call 92; (with_reducible refine (cindex_at k0 k1 k2 k3 k4 ((ad : Int) / 32) hn hn64' j d HJ HY HNO _ HC1.out HF1.out).mono ?_); rintro e w2 ⟨rfl, hb⟩; have HB2 := Lib.hid (HB1.out.trans (hb.mono HB1.out.size)); have HPR2 := Lib.hid (HPR1.out.below hb); have HC2 := Lib.hid (HC1.out.below hb); have q1 := HC2.out.c1; have q2 := HC2.out.c2; have qf := HC2.out.fr 1; obtain ⟨z0, z1, z2, z3, z4, z5, z6, z7, z8, z9⟩ := HC2.out.way rfl j d HJ.out; rw [HE1.out] at z6; rw [HE2.out] at z8; have p0 := HPR2.out.c0; have p1 := HPR2.out.c1; have p2 := HPR2.out.c2; have pf0 := HPR2.out.fr 0; have pf1 := HPR2.out.fr 1; have pf2 := HPR2.out.fr 2; have hpl := HPR2.out.lt; clear hb c2 z0 z1 z2 z3 z4 z5 z9))
    have HH := Lib.hid (HC2.out.hit (hits + 1))
    have t := ((HPR2.out.far1 cb 1 (by omega) (.int .i64 (hits + 1))).set pg ((ad : Int) % 32) r).below ((Below.refl _ _).alloc (Nat.le_refl _) _ : Below _ _ (World.alloc _ (.cells #[.int .i64 pg, .int .i64 ((ad : Int) % 32), .bool r] 145 (0, 0))))
    have t0 := t.c0
    have t1 := t.c1
    have t2 := t.c2
    refine bodyPost_ret (v := .tuple #[.agg #[.int .i64 pg, .int .i64 ((ad : Int) % 32), .bool r], .int .i64 0]) (by simp [results, Tryd.results78, go_sem, t0, t1, t2]) rfl ⟨rfl, ?_⟩
    have hb0 : Below N w (w2.setCell ⟨cb, 1, none⟩ (.int .i64 (hits + 1))) := (HB2.out.mono HN.out).setCell HCA.out.nb _
    have hb := (set3_below hb0 (show N ≤ w.heap.size + 1 by have := HN.out; omega) (.int .i64 pg) (.int .i64 ((ad : Int) % 32)) (.bool r)).alloc (by have := HB2.out.size; have := HN.out; simp; omega) (.cells #[.int .i64 pg, .int .i64 ((ad : Int) % 32), .bool r] 145 (0, 0))
    refine ⟨hb, hits + 1, _, E, (HH.out.put3 (w.heap.size + 1) (by omega) (fun e => by have := HOw.out; simp [Value.ownBlock] at e; omega) (fun e he hl g' o hna => ?_) _ _ _).below ((Below.refl _ _).alloc (Nat.le_refl _) _), ok.out, .inl ⟨d, List.mem_of_getElem? HJ.out, HY.out, rfl, rfl, rfl⟩, ⟨hb.size, fun k hk hkc hkv => ?_⟩, .inl rfl, fun _ _ h => h⟩
    obtain ⟨g2, o2, b1, b2, b3, b4, b5, b6⟩ := HCA.out.nd e he 0 hl
    rw [hna] at b1
    injection b1 with b1
    injection b1 with b1 b1'
    omega
    rw [((Below.refl _ _).alloc (Nat.le_refl _) _ : Below _ _ (World.alloc _ (.cells #[.int .i64 pg, .int .i64 ((ad : Int) % 32), .bool r] 145 (0, 0)))).block k (by have := HB2.out.size; simp; omega), set_heap _ _ _ _ _ (by omega), set_heap _ _ _ _ _ (by omega), set_heap _ _ _ _ _ (by omega), set_heap _ _ _ _ _ hkc]
    exact HB2.out.block k hk
end Go.Proofs.YtjkbfhojjjkgnaaDoor
namespace Go.Proofs.YtjkbfhojjjkgnaaDoor
open Go.ChangeShapes Go.WideShapes Go.ChangeAt Go.RowKit
set_option linter.unusedVariables false
set_option linter.unusedSimpArgs false
set_option maxRecDepth 100000 in
theorem mfindx_is {w0 : World} {mb S : Nat} {a b : Shp} {N cb : Nat} {size : Int} {th : Nat → Bool} {vr_ : Nat → Int} {W : Nat → Nat → Value} {th2 : Nat → Bool} {vr2 : Nat → Int} {W2 : Nat → Nat → Int} {hits : Int} {v : Value} {E : List EW} (k0 k1 k2 k3 k4 : Int) (ad : Nat) (had : ad ≤ 4294967295) (ids : List Int) (pg at_ : Int) (r : Bool) (f : Int) (hroom : Hid ((E.length : Int) ≤ size ∧ 1 ≤ size ∧ size ≤ 64)) (hh : Hid (0 ≤ hits ∧ hits ≤ 1000000)) (hw : Hid (Way a b th vr_ W th2 vr2 k0 k1 k2 k3 k4 5 ad false ids pg at_ r f)) (w : World) (h : (MemAt w0 w mb S a b N cb size th vr_ W th2 vr2 W2 hits v E)) :
    Calls Tryd.prog 58 #[.pointer (some ⟨mb, 0, none⟩), (Value.agg #[.int .i64 k0, .int .i64 k1, .int .i64 k2, .int .i64 k3, .int .u32 k4]), .int .u32 (ad : Int)] w fun e w' => e = .returned (.tuple #[.agg #[.int .i64 pg, .int .i64 at_, .bool r], .int .i64 f]) ∧ ∃ hits' v' E', MemAt w0 w' mb S a b N cb size th vr_ W th2 vr2 W2 hits' v' E' ∧ (E'.length : Int) ≤ size ∧ hits ≤ hits' ∧ hits' ≤ hits + 1 ∧ KeepB w w' cb v ∧ (v'.ownBlock = v.ownBlock ∨ ∃ g, w.heap.size ≤ g ∧ v'.ownBlock = some g) := by
  have H := Lib.hid h
  obtain ⟨full, hful⟩ : ∃ full, Hid (((E.length : Int) == size) = full) := ⟨_, Lib.hid rfl⟩
  clear h
  go_enter Tryd.func58, Tryd.ntmps58
  go_upto_region 1 with fail
  obtain ⟨wB, hwB⟩ : ∃ wB, wB = ((w.alloc (.cells #[.int .i64 k0, .int .i64 k1, .int .i64 k2, .int .i64 k3, .int .u32 k4] 27 (0, 0))).alloc (.cells #[.int .i64 0, .int .i64 0, .bool false] 145 (0, 0))).drew := ⟨_, rfl⟩
  have HBB : Hid (Below w.heap.size w wB) := Lib.hid (by rw [hwB]; exact (((Below.refl _ _).alloc (Nat.le_refl _) _ : Below w.heap.size w _).alloc (by simp) _).drew)
  have HKB : Hid (KeyC wB w.heap.size k0 k1 k2 k3 k4) := Lib.hid (by rw [hwB]; exact ((KeyC.new w k0 k1 k2 k3 k4 27).below ((Below.refl _ _).alloc (Nat.le_refl _) _)).below (Below.refl _ _).drew)
  have HPB : Hid (PlC wB (w.heap.size + 1) 0 0 false) := Lib.hid (by rw [hwB]; exact (PlC.newB w _ 0 0 false 145).below (Below.refl _ _).drew)
  have H2 := Lib.hid (H.out.below HBB.out)
  have HSz : Hid (wB.heap.size = w.heap.size + 1 + 1) := Lib.hid (by rw [hwB]; simp)
  have HS7 : Hid (∀ w', World.cell? w' ⟨mb, 0, none⟩ = some (.pointer (some ⟨S, 0, none⟩)) → World.cell? w' ⟨mb, 1, none⟩ = some (.pointer (some ⟨cb, 0, none⟩)) → KeyC w' w.heap.size k0 k1 k2 k3 k4 → (World.cell? w' ⟨mb, 0, none⟩ = some (.pointer (some ⟨S, 0, none⟩)) ∧ World.cell? w' ⟨mb, 1, none⟩ = some (.pointer (some ⟨cb, 0, none⟩)) ∧ World.cell? w' ⟨w.heap.size, 0, none⟩ = some (.int .i64 k0) ∧ World.cell? w' ⟨w.heap.size, 1, none⟩ = some (.int .i64 k1) ∧ World.cell? w' ⟨w.heap.size, 2, none⟩ = some (.int .i64 k2) ∧ World.cell? w' ⟨w.heap.size, 3, none⟩ = some (.int .i64 k3) ∧ World.cell? w' ⟨w.heap.size, 4, none⟩ = some (.int .u32 k4))) := Lib.hid (fun w' h0 h1 hk => ⟨h0, h1, hk.c0, hk.c1, hk.c2, hk.c3, hk.c4⟩)
  refine wp_region_noPanic ?_
  refine wp_region_held_drew (S := fun w' => (World.cell? w' ⟨mb, 0, none⟩ = some (.pointer (some ⟨S, 0, none⟩)) ∧ World.cell? w' ⟨mb, 1, none⟩ = some (.pointer (some ⟨cb, 0, none⟩)) ∧ World.cell? w' ⟨w.heap.size, 0, none⟩ = some (.int .i64 k0) ∧ World.cell? w' ⟨w.heap.size, 1, none⟩ = some (.int .i64 k1) ∧ World.cell? w' ⟨w.heap.size, 2, none⟩ = some (.int .i64 k2) ∧ World.cell? w' ⟨w.heap.size, 3, none⟩ = some (.int .i64 k3) ∧ World.cell? w' ⟨w.heap.size, 4, none⟩ = some (.int .u32 k4))) (by kernel_rfl) (by rw [← hwB]; exact HS7.out _ H2.out.m0 H2.out.m1 HKB.out) (fun hHeld => ?_)
  rw [← hwB] at hHeld ⊢
  clear hwB
  refine wpAnyH_take (i := 0) (v := ?_) (by rfl) (by kernel_rfl) (by kernel_rfl) (by kernel_rfl) (fun _ _ _ h => h) (Or.inl ⟨by kernel_rfl, ?_⟩) (by assumption) ?_; rotate_left 1; (focus (intro w hSw; (try dsimp only at hSw); simp only [List.getElem_toArray, List.getElem_cons_succ, List.getElem_cons_zero]; all_goals go_simp; all_goals (try with_reducible rfl))); (try simp only [Act.put, List.getElem_toArray, List.getElem_cons_succ, List.getElem_cons_zero, List.setIfInBounds_toArray, List.set_cons_zero, List.set_cons_succ])
  refine wpAnyH_take (i := 1) (v := ?_) (by rfl) (by kernel_rfl) (by kernel_rfl) (by kernel_rfl) (fun _ _ _ h => h) (Or.inl ⟨by kernel_rfl, ?_⟩) (by assumption) ?_; rotate_left 1; (focus (intro w hSw; (try dsimp only at hSw); simp only [List.getElem_toArray, List.getElem_cons_succ, List.getElem_cons_zero]; all_goals go_simp; all_goals (try with_reducible rfl))); (try simp only [Act.put, List.getElem_toArray, List.getElem_cons_succ, List.getElem_cons_zero, List.setIfInBounds_toArray, List.set_cons_zero, List.set_cons_succ])
  refine wpAnyH_take (i := 2) (v := ?_) (by rfl) (by kernel_rfl) (by kernel_rfl) (by kernel_rfl) (fun _ _ _ h => h) (Or.inl ⟨by kernel_rfl, ?_⟩) (by assumption) ?_; rotate_left 1; (focus (intro w hSw; (try dsimp only at hSw); simp only [List.getElem_toArray, List.getElem_cons_succ, List.getElem_cons_zero]; all_goals go_simp; all_goals (try with_reducible rfl))); (try simp only [Act.put, List.getElem_toArray, List.getElem_cons_succ, List.getElem_cons_zero, List.setIfInBounds_toArray, List.set_cons_zero, List.set_cons_succ])
  refine wpAnyH_take (i := 3) (v := ?_) (by rfl) (by kernel_rfl) (by kernel_rfl) (by kernel_rfl) (fun _ _ _ h => h) (Or.inl ⟨by kernel_rfl, ?_⟩) (by assumption) ?_; rotate_left 1; (focus (intro w hSw; (try dsimp only at hSw); simp only [List.getElem_toArray, List.getElem_cons_succ, List.getElem_cons_zero]; all_goals go_simp; all_goals (try with_reducible rfl))); (try simp only [Act.put, List.getElem_toArray, List.getElem_cons_succ, List.getElem_cons_zero, List.setIfInBounds_toArray, List.set_cons_zero, List.set_cons_succ])
  refine wpAnyH_take (i := 4) (v := ?_) (by rfl) (by kernel_rfl) (by kernel_rfl) (by kernel_rfl) (fun _ _ _ h => h) (Or.inl ⟨by kernel_rfl, ?_⟩) (by assumption) ?_; rotate_left 1; (focus (intro w hSw; (try dsimp only at hSw); simp only [List.getElem_toArray, List.getElem_cons_succ, List.getElem_cons_zero]; all_goals go_simp; all_goals (try with_reducible rfl))); (try simp only [Act.put, List.getElem_toArray, List.getElem_cons_succ, List.getElem_cons_zero, List.setIfInBounds_toArray, List.set_cons_zero, List.set_cons_succ])
  refine wpAnyH_take (i := 5) (v := ?_) (by rfl) (by kernel_rfl) (by kernel_rfl) (by kernel_rfl) (fun _ _ _ h => h) (Or.inl ⟨by kernel_rfl, ?_⟩) (by assumption) ?_; rotate_left 1; (focus (intro w hSw; (try dsimp only at hSw); simp only [List.getElem_toArray, List.getElem_cons_succ, List.getElem_cons_zero]; all_goals go_simp; all_goals (try with_reducible rfl))); (try simp only [Act.put, List.getElem_toArray, List.getElem_cons_succ, List.getElem_cons_zero, List.setIfInBounds_toArray, List.set_cons_zero, List.set_cons_succ])
  refine wpAnyH_take (i := 6) (v := ?_) (by rfl) (by kernel_rfl) (by kernel_rfl) (by kernel_rfl) (fun _ _ _ h => h) (Or.inl ⟨by kernel_rfl, ?_⟩) (by assumption) ?_; rotate_left 1; (focus (intro w hSw; (try dsimp only at hSw); simp only [List.getElem_toArray, List.getElem_cons_succ, List.getElem_cons_zero]; all_goals go_simp; all_goals (try with_reducible rfl))); (try simp only [Act.put, List.getElem_toArray, List.getElem_cons_succ, List.getElem_cons_zero, List.setIfInBounds_toArray, List.set_cons_zero, List.set_cons_succ])
  refine wpAnyH_take (i := 7) (v := ?_) (by rfl) (by kernel_rfl) (by kernel_rfl) (by kernel_rfl) (fun _ _ _ h => h) (Or.inl ⟨by kernel_rfl, ?_⟩) (by assumption) ?_; rotate_left 1; (focus (intro w hSw; (try dsimp only at hSw); simp only [List.getElem_toArray, List.getElem_cons_succ, List.getElem_cons_zero]; all_goals go_simp; all_goals (try with_reducible rfl))); (try simp only [Act.put, List.getElem_toArray, List.getElem_cons_succ, List.getElem_cons_zero, List.setIfInBounds_toArray, List.set_cons_zero, List.set_cons_succ])
  refine wpAnyH_take (i := 8) (v := ?_) (by rfl) (by kernel_rfl) (by kernel_rfl) (by kernel_rfl) (fun _ _ _ h => h) (Or.inl ⟨by kernel_rfl, ?_⟩) (by assumption) ?_; rotate_left 1; (focus (intro w hSw; (try dsimp only at hSw); simp only [List.getElem_toArray, List.getElem_cons_succ, List.getElem_cons_zero]; all_goals go_simp; all_goals (try with_reducible rfl))); (try simp only [Act.put, List.getElem_toArray, List.getElem_cons_succ, List.getElem_cons_zero, List.setIfInBounds_toArray, List.set_cons_zero, List.set_cons_succ])
  refine wpAnyH_take (i := 9) (v := ?_) (by rfl) (by kernel_rfl) (by kernel_rfl) (by kernel_rfl) (fun _ _ _ h => h) (Or.inl ⟨by kernel_rfl, ?_⟩) (by assumption) ?_; rotate_left 1; (focus (intro w hSw; (try dsimp only at hSw); simp only [List.getElem_toArray, List.getElem_cons_succ, List.getElem_cons_zero]; all_goals go_simp; all_goals (try with_reducible rfl))); (try simp only [Act.put, List.getElem_toArray, List.getElem_cons_succ, List.getElem_cons_zero, List.setIfInBounds_toArray, List.set_cons_zero, List.set_cons_succ])
  refine wpAnyH_ready (rs := [10]) (by kernel_rfl) (by simp) ?_; refine AllReadyH.cons (by rfl) (fun K hK => ?_) AllReadyH.nil; rw [if_pos (by kernel_rfl)]; simp only [List.getElem_toArray, List.getElem_cons_succ, List.getElem_cons_zero]
  go_wp2_with (first
    | (go_at_call 78; (with_reducible refine (cfindx_is k0 k1 k2 k3 k4 ad had ids pg at_ r f E.length (Lib.hid rfl) full (Lib.hid ⟨hroom.out.1, hroom.out.2.1⟩) hful (by have := hroom.out; omega) hh hw (Lib.hid H.out.ok) _ H2.out.sv.st H2.out.ca H2.out.nN).mono ?_); rintro e w1 ⟨rfl, hb, hits', v', E', hc, ok, ho, hk, hv, hnn⟩; have HNo := Lib.hid (hnn (w.heap.size + 1) (by rw [HSz.out]; omega) (H.out.ca.noNode _ (by omega))); have HM := Lib.hid (H2.out.found hb hc ok hk hv); have HP := Lib.hid (HPB.out.same hk.1 (hk.2 _ (by rw [HSz.out]; omega) (by have := H.out.ca.cl; omega) (fun e => by have := (H.out.ca.row.lt _ e).2; omega))); have HKK := Lib.hid (HKB.out.same' hk.1 (hk.2 _ (by rw [HSz.out]; omega) (by have := H.out.ca.cl; omega) (fun e => by have := (H.out.ca.row.lt _ e).2; omega))); have HK := Lib.hid hk; have HV := Lib.hid hv; have HG := Lib.hid (ho.room ⟨hroom.out.1, hroom.out.2.1⟩ hful.out); clear hb hc ok ho hk hv hnn))
  refine hK.out _ _ (HS7.out _ HM.out.m0 HM.out.m1 HKK.out) (fun hHeld => ?_)
  clear hK K
  (try simp only [Act.put, List.getElem_toArray, List.getElem_cons_succ, List.getElem_cons_zero, List.setIfInBounds_toArray, List.set_cons_zero, List.set_cons_succ])
  refine wpAnyH_take (i := 11) (v := ?_) (by rfl) (by kernel_rfl) (by kernel_rfl) (by kernel_rfl) (fun _ _ _ h => h) (Or.inl ⟨by kernel_rfl, ?_⟩) (by assumption) ?_; rotate_left 1; (focus (intro w hSw; (try dsimp only at hSw); simp only [List.getElem_toArray, List.getElem_cons_succ, List.getElem_cons_zero]; all_goals go_simp; all_goals (try with_reducible rfl))); (try simp only [Act.put, List.getElem_toArray, List.getElem_cons_succ, List.getElem_cons_zero, List.setIfInBounds_toArray, List.set_cons_zero, List.set_cons_succ])
  refine wpAnyH_take (i := 12) (v := ?_) (by rfl) (by kernel_rfl) (by kernel_rfl) (by kernel_rfl) (fun _ _ _ h => h) (Or.inl ⟨by kernel_rfl, ?_⟩) (by assumption) ?_; rotate_left 1; (focus (intro w hSw; (try dsimp only at hSw); simp only [List.getElem_toArray, List.getElem_cons_succ, List.getElem_cons_zero]; all_goals go_simp; all_goals (try with_reducible rfl))); (try simp only [Act.put, List.getElem_toArray, List.getElem_cons_succ, List.getElem_cons_zero, List.setIfInBounds_toArray, List.set_cons_zero, List.set_cons_succ])
  refine wpAnyH_ready (rs := [13]) (by kernel_rfl) (by simp) ?_; refine AllReadyH.cons (by rfl) (fun K hK => ?_) AllReadyH.nil; rw [if_pos (by kernel_rfl)]; simp only [List.getElem_toArray, List.getElem_cons_succ, List.getElem_cons_zero]
  have p0 := HP.out.c0
  have p1 := HP.out.c1
  have p2 := HP.out.c2
  have f0 := HP.out.fr 0
  have f1 := HP.out.fr 1
  have f2 := HP.out.fr 2
  have hx1 : cb ≠ w.heap.size + 1 := by have := H.out.ca.cl; omega
  have hx2 : mb ≠ w.heap.size + 1 := by have := H.out.ml; omega
  have hx3 : v'.ownBlock ≠ some (w.heap.size + 1) := fun e => by
    rcases HV.out with e' | ⟨g, hg, e'⟩
    · rw [e'] at e; have := (H.out.ca.row.lt _ e).2; omega
    · rw [e'] at e; injection e with e; rw [HSz.out] at hg; omega
  have HFin := Lib.hid (HM.out.put3 (w.heap.size + 1) (by have := H.out.nN; omega) hx1 hx2 hx3 HNo.out (.int .i64 pg) (.int .i64 at_) (.bool r))
  go_wp2_with fail
  refine hK.out _ _ (HS7.out _ HFin.out.m0 HFin.out.m1 (HKK.out.same' (by simp) (by rw [set_heap _ _ _ _ _ (by omega), set_heap _ _ _ _ _ (by omega), set_heap _ _ _ _ _ (by omega)]))) (fun hHeld => ?_)
  clear hK K
  (try simp only [Act.put, List.getElem_toArray, List.getElem_cons_succ, List.getElem_cons_zero, List.setIfInBounds_toArray, List.set_cons_zero, List.set_cons_succ])
  refine wpAnyH_take (i := 14) (v := ?_) (by rfl) (by kernel_rfl) (by kernel_rfl) (by kernel_rfl) (fun _ _ _ h => h) (Or.inl ⟨by kernel_rfl, ?_⟩) (by assumption) ?_; rotate_left 1; (focus (intro w hSw; (try dsimp only at hSw); simp only [List.getElem_toArray, List.getElem_cons_succ, List.getElem_cons_zero]; all_goals go_simp; all_goals (try with_reducible rfl))); (try simp only [Act.put, List.getElem_toArray, List.getElem_cons_succ, List.getElem_cons_zero, List.setIfInBounds_toArray, List.set_cons_zero, List.set_cons_succ])
  refine wpAnyH_done (by kernel_rfl) ?_ _
  refine NoPanic.normal ?_
  go_wp2_with fail
  have t := HP.out.set pg at_ r
  have t0 := t.c0
  have t1 := t.c1
  have t2 := t.c2
  refine bodyPost_ret (v := .tuple #[.agg #[.int .i64 pg, .int .i64 at_, .bool r], .int .i64 f]) (by simp [results, Tryd.results58, go_sem, t0, t1, t2]) rfl ⟨rfl, ?_⟩
  have hsz := HK.out.1
  rw [HSz.out] at hsz
  refine ⟨hits', v', E', HFin.out, HG.out.1, HG.out.2.1, HG.out.2.2, ⟨by simp; omega, fun k hk hkc hkv => ?_⟩, HV.out.imp id (fun ⟨g, hg, e⟩ => ⟨g, by rw [HSz.out] at hg; omega, e⟩)⟩
  rw [set_heap _ _ _ _ _ (by omega), set_heap _ _ _ _ _ (by omega), set_heap _ _ _ _ _ (by omega), HK.out.2 k (by rw [HSz.out]; omega) hkc hkv]
  exact HBB.out.block k hk
set_option maxRecDepth 100000 in
set_option maxHeartbeats 2000000 in
theorem mloadx_fault {w0 : World} {mb S : Nat} {a b : Shp} {N cb : Nat} {size : Int} {th : Nat → Bool} {vr_ : Nat → Int} {W : Nat → Nat → Value} {th2 : Nat → Bool} {vr2 : Nat → Int} {W2 : Nat → Nat → Int} {hits : Int} {v : Value} {E : List EW} (k0 k1 k2 k3 k4 : Int) (ad : Nat) (had : ad ≤ 4294967295) (ids : List Int) (pg at_ : Int) (r : Bool) (f : Int) (hf : (f != 0) = true) (hroom : Hid ((E.length : Int) ≤ size ∧ 1 ≤ size ∧ size ≤ 64)) (hh : Hid (0 ≤ hits ∧ hits ≤ 1000000)) (hw : Hid (Way a b th vr_ W th2 vr2 k0 k1 k2 k3 k4 5 ad false ids pg at_ r f)) (w : World) (h : (MemAt w0 w mb S a b N cb size th vr_ W th2 vr2 W2 hits v E)) :
    Calls Tryd.prog 39 #[.pointer (some ⟨mb, 0, none⟩), (Value.agg #[.int .i64 k0, .int .i64 k1, .int .i64 k2, .int .i64 k3, .int .u32 k4]), .int .u32 (ad : Int)] w fun e w' => e = .returned (.tuple #[.int .u32 0, .int .i64 f]) ∧ ∃ hits' v' E', MemAt w0 w' mb S a b N cb size th vr_ W th2 vr2 W2 hits' v' E' ∧ (E'.length : Int) ≤ size ∧ hits ≤ hits' ∧ hits' ≤ hits + 1 ∧ KeepM w w' N cb v ∧ (v'.ownBlock = v.ownBlock ∨ ∃ g, w.heap.size ≤ g ∧ v'.ownBlock = some g) := by
  have hb1 : ∀ o, Below w.heap.size w (w.alloc o) := fun o => (Below.refl _ _).alloc (Nat.le_refl _) _
  have H := Lib.hid (fun o => h.below (hb1 o))
  have HB := Lib.hid hb1
  have hf0 : ¬ f = 0 := by simpa using hf
  clear h hb1
  go_enter Tryd.func39, Tryd.ntmps39
  go_wp2_with (first
    | (go_at_call 58; (with_reducible refine (mfindx_is k0 k1 k2 k3 k4 ad had ids pg at_ r f hroom hh hw _ (H.out _)).mono ?_); rintro e w1 ⟨rfl, hits', v', E', hm, g1, g2, g3, hk, hv⟩; have HM := Lib.hid hm; have HG := Lib.hid (And.intro g1 (And.intro g2 g3)); have HK := Lib.hid hk; have HV := Lib.hid hv; clear hm g1 g2 g3 hk hv))
  go_ret2
  have hs := HK.out.1
  simp at hs
  refine ⟨rfl, hits', v', E', HM.out.below ((Below.refl _ _).alloc (Nat.le_refl _) _), HG.out.1, HG.out.2.1, HG.out.2.2, ⟨by simp; omega, fun k hkN hk hkc hkv => ?_⟩, HV.out.imp id (fun ⟨g, hg, e⟩ => ⟨g, by simp at hg; omega, e⟩)⟩
  rw [((Below.refl _ _).alloc (Nat.le_refl _) _ : Below w1.heap.size w1 _).block k (by omega), HK.out.2 k (by simp; omega) hkc hkv]
  exact (HB.out _).block k hk
set_option maxRecDepth 100000 in
set_option maxHeartbeats 4000000 in
theorem mloadx_ok {w0 : World} {mb S : Nat} {a b : Shp} {N cb : Nat} {size : Int} {th : Nat → Bool} {vr_ : Nat → Int} {W : Nat → Nat → Value} {th2 : Nat → Bool} {vr2 : Nat → Int} {W2 : Nat → Nat → Int} {hits : Int} {v : Value} {E : List EW} (k0 k1 k2 k3 k4 : Int) (ad : Nat) (had : ad ≤ 4294967295) (ids : List Int) (pg at_ : Int) (r : Bool) (i x : Nat) (hpg : Hid (pg = i ∧ at_ = x)) (hi : i < b.n) (hx : x < 32) (hti : Hid (th2 i = true)) (z : Int) (hz : Hid (W2 i x = z)) (hroom : Hid ((E.length : Int) ≤ size ∧ 1 ≤ size ∧ size ≤ 64)) (hh : Hid (0 ≤ hits ∧ hits ≤ 1000000)) (hw : Hid (Way a b th vr_ W th2 vr2 k0 k1 k2 k3 k4 5 ad false ids pg at_ r 0)) (w : World) (h : (MemAt w0 w mb S a b N cb size th vr_ W th2 vr2 W2 hits v E)) :
    Calls Tryd.prog 39 #[.pointer (some ⟨mb, 0, none⟩), (Value.agg #[.int .i64 k0, .int .i64 k1, .int .i64 k2, .int .i64 k3, .int .u32 k4]), .int .u32 (ad : Int)] w fun e w' => e = .returned (.tuple #[.int .u32 z, .int .i64 0]) ∧ ∃ hits' v' E', MemAt w0 w' mb S a b N cb size th vr_ W th2 vr2 W2 hits' v' E' ∧ (E'.length : Int) ≤ size ∧ hits ≤ hits' ∧ hits' ≤ hits + 1 ∧ KeepM w w' N cb v ∧ (v'.ownBlock = v.ownBlock ∨ ∃ g, w.heap.size ≤ g ∧ v'.ownBlock = some g) := by
  have hb1 : ∀ o, Below w.heap.size w (w.alloc o) := fun o => (Below.refl _ _).alloc (Nat.le_refl _) _
  have H := Lib.hid (fun o => h.below (hb1 o))
  have HB := Lib.hid hb1
  clear h hb1
  go_enter Tryd.func39, Tryd.ntmps39
  go_upto_region 4 with (first
    | (go_at_call 58; (with_reducible refine (mfindx_is k0 k1 k2 k3 k4 ad had ids pg at_ r 0 hroom hh hw _ (H.out _)).mono ?_); rintro e w1 ⟨rfl, hits', v', E', hm, g1, g2, g3, hk, hv⟩; have HM := Lib.hid hm; have HG := Lib.hid (And.intro g1 (And.intro g2 g3)); have HK := Lib.hid hk; have HV := Lib.hid hv; clear hm g1 g2 g3 hk hv))
  have hq := (PlC.new w1 pg at_ r 145).below (Below.refl _ _).drew
  have hm2 := (HM.out.below ((Below.refl _ _).alloc (Nat.le_refl _) _ : Below w1.heap.size w1 (w1.alloc (.cells #[.int .i64 pg, .int .i64 at_, .bool r] 145 (0, 0))))).below (Below.refl _ _).drew
  have HM2 := Lib.hid hm2
  refine wp_region_noPanic ?_
  refine wp_region_held_drew (S := fun w' => World.cell? w' ⟨mb, 0, none⟩ = some (.pointer (some ⟨S, 0, none⟩)) ∧ World.cell? w' ⟨S, 1, none⟩ = some (.pointer (some ⟨b.P, 0, none⟩)) ∧ World.cell? w' ⟨w1.heap.size, 0, none⟩ = some (.int .i64 pg) ∧ World.cell? w' ⟨w1.heap.size, 1, none⟩ = some (.int .i64 at_)) (by kernel_rfl) ⟨hm2.m0, hm2.sv.st.s1, hq.c0, hq.c1⟩ (fun hHeld => ?_)
  clear hq hm2
  refine wpAnyH_take (i := 0) (v := ?_) (by rfl) (by kernel_rfl) (by kernel_rfl) (by kernel_rfl) (fun _ _ _ h => h) (Or.inl ⟨by kernel_rfl, ?_⟩) (by assumption) ?_; rotate_left 1; (focus (intro w hSw; (try dsimp only at hSw); simp only [List.getElem_toArray, List.getElem_cons_succ, List.getElem_cons_zero]; all_goals go_simp; all_goals (try with_reducible rfl))); (try simp only [Act.put, List.getElem_toArray, List.getElem_cons_succ, List.getElem_cons_zero, List.setIfInBounds_toArray, List.set_cons_zero, List.set_cons_succ])
  refine wpAnyH_take (i := 1) (v := ?_) (by rfl) (by kernel_rfl) (by kernel_rfl) (by kernel_rfl) (fun _ _ _ h => h) (Or.inl ⟨by kernel_rfl, ?_⟩) (by assumption) ?_; rotate_left 1; (focus (intro w hSw; (try dsimp only at hSw); simp only [List.getElem_toArray, List.getElem_cons_succ, List.getElem_cons_zero]; all_goals go_simp; all_goals (try with_reducible rfl))); (try simp only [Act.put, List.getElem_toArray, List.getElem_cons_succ, List.getElem_cons_zero, List.setIfInBounds_toArray, List.set_cons_zero, List.set_cons_succ])
  refine wpAnyH_take (i := 2) (v := ?_) (by rfl) (by kernel_rfl) (by kernel_rfl) (by kernel_rfl) (fun _ _ _ h => h) (Or.inl ⟨by kernel_rfl, ?_⟩) (by assumption) ?_; rotate_left 1; (focus (intro w hSw; (try dsimp only at hSw); simp only [List.getElem_toArray, List.getElem_cons_succ, List.getElem_cons_zero]; all_goals go_simp; all_goals (try with_reducible rfl))); (try simp only [Act.put, List.getElem_toArray, List.getElem_cons_succ, List.getElem_cons_zero, List.setIfInBounds_toArray, List.set_cons_zero, List.set_cons_succ])
  refine wpAnyH_take (i := 3) (v := ?_) (by rfl) (by kernel_rfl) (by kernel_rfl) (by kernel_rfl) (fun _ _ _ h => h) (Or.inl ⟨by kernel_rfl, ?_⟩) (by assumption) ?_; rotate_left 1; (focus (intro w hSw; (try dsimp only at hSw); simp only [List.getElem_toArray, List.getElem_cons_succ, List.getElem_cons_zero]; all_goals go_simp; all_goals (try with_reducible rfl))); (try simp only [Act.put, List.getElem_toArray, List.getElem_cons_succ, List.getElem_cons_zero, List.setIfInBounds_toArray, List.set_cons_zero, List.set_cons_succ])
  refine wpAnyH_take (i := 4) (v := ?_) (by rfl) (by kernel_rfl) (by kernel_rfl) (by kernel_rfl) (fun _ _ _ h => h) (Or.inl ⟨by kernel_rfl, ?_⟩) (by assumption) ?_; rotate_left 1; (focus (intro w hSw; (try dsimp only at hSw); simp only [List.getElem_toArray, List.getElem_cons_succ, List.getElem_cons_zero]; all_goals go_simp; all_goals (try with_reducible rfl))); (try simp only [Act.put, List.getElem_toArray, List.getElem_cons_succ, List.getElem_cons_zero, List.setIfInBounds_toArray, List.set_cons_zero, List.set_cons_succ])
  refine wpAnyH_take (i := 5) (v := ?_) (by rfl) (by kernel_rfl) (by kernel_rfl) (by kernel_rfl) (fun _ _ _ h => h) (Or.inl ⟨by kernel_rfl, ?_⟩) (by assumption) ?_; rotate_left 1; (focus (intro w hSw; (try dsimp only at hSw); simp only [List.getElem_toArray, List.getElem_cons_succ, List.getElem_cons_zero]; all_goals go_simp; all_goals (try with_reducible rfl))); (try simp only [Act.put, List.getElem_toArray, List.getElem_cons_succ, List.getElem_cons_zero, List.setIfInBounds_toArray, List.set_cons_zero, List.set_cons_succ])
  refine wpAnyH_take (i := 6) (v := ?_) (by rfl) (by kernel_rfl) (by kernel_rfl) (by kernel_rfl) (fun _ _ _ h => h) (Or.inl ⟨by kernel_rfl, ?_⟩) (by assumption) ?_; rotate_left 1; (focus (intro w hSw; (try dsimp only at hSw); simp only [List.getElem_toArray, List.getElem_cons_succ, List.getElem_cons_zero]; all_goals go_simp; all_goals (try with_reducible rfl))); (try simp only [Act.put, List.getElem_toArray, List.getElem_cons_succ, List.getElem_cons_zero, List.setIfInBounds_toArray, List.set_cons_zero, List.set_cons_succ])
  refine wpAnyH_take (i := 7) (v := ?_) (by rfl) (by kernel_rfl) (by kernel_rfl) (by kernel_rfl) (fun _ _ _ h => h) (Or.inl ⟨by kernel_rfl, ?_⟩) (by assumption) ?_; rotate_left 1; (focus (intro w hSw; (try dsimp only at hSw); simp only [List.getElem_toArray, List.getElem_cons_succ, List.getElem_cons_zero]; all_goals go_simp; all_goals (try with_reducible rfl))); (try simp only [Act.put, List.getElem_toArray, List.getElem_cons_succ, List.getElem_cons_zero, List.setIfInBounds_toArray, List.set_cons_zero, List.set_cons_succ])
  refine wpAnyH_take (i := 8) (v := ?_) (by rfl) (by kernel_rfl) (by kernel_rfl) (by kernel_rfl) (fun _ _ _ h => h) (Or.inl ⟨by kernel_rfl, ?_⟩) (by assumption) ?_; rotate_left 1; (focus (intro w hSw; (try dsimp only at hSw); simp only [List.getElem_toArray, List.getElem_cons_succ, List.getElem_cons_zero]; all_goals go_simp; all_goals (try with_reducible rfl))); (try simp only [Act.put, List.getElem_toArray, List.getElem_cons_succ, List.getElem_cons_zero, List.setIfInBounds_toArray, List.set_cons_zero, List.set_cons_succ])
  refine wpAnyH_take (i := 9) (v := ?_) (by rfl) (by kernel_rfl) (by kernel_rfl) (by kernel_rfl) (fun _ _ _ h => h) (Or.inl ⟨by kernel_rfl, ?_⟩) (by assumption) ?_; rotate_left 1; (focus (intro w hSw; (try dsimp only at hSw); simp only [List.getElem_toArray, List.getElem_cons_succ, List.getElem_cons_zero]; all_goals go_simp; all_goals (try with_reducible rfl))); (try simp only [Act.put, List.getElem_toArray, List.getElem_cons_succ, List.getElem_cons_zero, List.setIfInBounds_toArray, List.set_cons_zero, List.set_cons_succ])
  refine wpAnyH_take (i := 10) (v := ?_) (by rfl) (by kernel_rfl) (by kernel_rfl) (by kernel_rfl) (fun _ _ _ h => h) (Or.inl ⟨by kernel_rfl, ?_⟩) (by assumption) ?_; rotate_left 1; (focus (intro w hSw; (try dsimp only at hSw); simp only [List.getElem_toArray, List.getElem_cons_succ, List.getElem_cons_zero]; all_goals go_simp; all_goals (try with_reducible rfl))); (try simp only [Act.put, List.getElem_toArray, List.getElem_cons_succ, List.getElem_cons_zero, List.setIfInBounds_toArray, List.set_cons_zero, List.set_cons_succ])
  refine wpAnyH_ready (rs := [11]) (by kernel_rfl) (by simp) ?_; refine AllReadyH.cons (by rfl) (fun K hK => ?_) AllReadyH.nil; rw [if_pos (by kernel_rfl)]; simp only [List.getElem_toArray, List.getElem_cons_succ, List.getElem_cons_zero]
  go_wp2_with (first
    | (go_at_call 23; (with_reducible refine (pread_at pg at_ i x (Lib.hid hpg.out.1) (Lib.hid hpg.out.2) hi hx hti z hz _ HM2.out.sv.st.pg).mono ?_); rintro e w2 ⟨rfl, rfl⟩))
  refine hK.out _ _ hHeld (fun hHeld => ?_)
  clear hK K
  (try simp only [Act.put, List.getElem_toArray, List.getElem_cons_succ, List.getElem_cons_zero, List.setIfInBounds_toArray, List.set_cons_zero, List.set_cons_succ])
  refine wpAnyH_take (i := 12) (v := ?_) (by rfl) (by kernel_rfl) (by kernel_rfl) (by kernel_rfl) (fun _ _ _ h => h) (Or.inl ⟨by kernel_rfl, ?_⟩) (by assumption) ?_; rotate_left 1; (focus (intro w hSw; (try dsimp only at hSw); simp only [List.getElem_toArray, List.getElem_cons_succ, List.getElem_cons_zero]; all_goals go_simp; all_goals (try with_reducible rfl))); (try simp only [Act.put, List.getElem_toArray, List.getElem_cons_succ, List.getElem_cons_zero, List.setIfInBounds_toArray, List.set_cons_zero, List.set_cons_succ])
  refine wpAnyH_take (i := 13) (v := ?_) (by rfl) (by kernel_rfl) (by kernel_rfl) (by kernel_rfl) (fun _ _ _ h => h) (Or.inl ⟨by kernel_rfl, ?_⟩) (by assumption) ?_; rotate_left 1; (focus (intro w hSw; (try dsimp only at hSw); simp only [List.getElem_toArray, List.getElem_cons_succ, List.getElem_cons_zero]; all_goals go_simp; all_goals (try with_reducible rfl))); (try simp only [Act.put, List.getElem_toArray, List.getElem_cons_succ, List.getElem_cons_zero, List.setIfInBounds_toArray, List.set_cons_zero, List.set_cons_succ])
  refine wpAnyH_take (i := 14) (v := ?_) (by rfl) (by kernel_rfl) (by kernel_rfl) (by kernel_rfl) (fun _ _ _ h => h) (Or.inl ⟨by kernel_rfl, ?_⟩) (by assumption) ?_; rotate_left 1; (focus (intro w hSw; (try dsimp only at hSw); simp only [List.getElem_toArray, List.getElem_cons_succ, List.getElem_cons_zero]; all_goals go_simp; all_goals (try with_reducible rfl))); (try simp only [Act.put, List.getElem_toArray, List.getElem_cons_succ, List.getElem_cons_zero, List.setIfInBounds_toArray, List.set_cons_zero, List.set_cons_succ])
  refine wpAnyH_take (i := 15) (v := ?_) (by rfl) (by kernel_rfl) (by kernel_rfl) (by kernel_rfl) (fun _ _ _ h => h) (Or.inl ⟨by kernel_rfl, ?_⟩) (by assumption) ?_; rotate_left 1; (focus (intro w hSw; (try dsimp only at hSw); simp only [List.getElem_toArray, List.getElem_cons_succ, List.getElem_cons_zero]; all_goals go_simp; all_goals (try with_reducible rfl))); (try simp only [Act.put, List.getElem_toArray, List.getElem_cons_succ, List.getElem_cons_zero, List.setIfInBounds_toArray, List.set_cons_zero, List.set_cons_succ])
  refine wpAnyH_take (i := 16) (v := ?_) (by rfl) (by kernel_rfl) (by kernel_rfl) (by kernel_rfl) (fun _ _ _ h => h) (Or.inl ⟨by kernel_rfl, ?_⟩) (by assumption) ?_; rotate_left 1; (focus (intro w hSw; (try dsimp only at hSw); simp only [List.getElem_toArray, List.getElem_cons_succ, List.getElem_cons_zero]; all_goals go_simp; all_goals (try with_reducible rfl))); (try simp only [Act.put, List.getElem_toArray, List.getElem_cons_succ, List.getElem_cons_zero, List.setIfInBounds_toArray, List.set_cons_zero, List.set_cons_succ])
  refine wpAnyH_done (by kernel_rfl) ?_ _
  refine NoPanic.normal ?_
  go_wp2_with fail
  go_ret2
  have hs := HK.out.1
  simp at hs
  refine ⟨rfl, hits', v', E', HM2.out, HG.out.1, HG.out.2.1, HG.out.2.2, ⟨by simp; omega, fun k hkN hk hkc hkv => ?_⟩, HV.out.imp id (fun ⟨g, hg, e⟩ => ⟨g, by simp at hg; omega, e⟩)⟩
  rw [(((Below.refl _ _).alloc (Nat.le_refl _) _ : Below w1.heap.size w1 _).drew).block k (by omega), HK.out.2 k (by simp; omega) hkc hkv]
  exact (HB.out _).block k hk
set_option maxRecDepth 100000 in
set_option maxHeartbeats 2000000 in
theorem msavex_fault {w0 : World} {mb S : Nat} {a b : Shp} {N cb : Nat} {size : Int} {th : Nat → Bool} {vr_ : Nat → Int} {W : Nat → Nat → Value} {th2 : Nat → Bool} {vr2 : Nat → Int} {W2 : Nat → Nat → Int} {hits : Int} {v : Value} {E : List EW} (k0 k1 k2 k3 k4 : Int) (ad : Nat) (had : ad ≤ 4294967295) (ids : List Int) (pg at_ : Int) (r : Bool) (f : Int) (hf : (f != 0) = true) (u : Int) (hroom : Hid ((E.length : Int) ≤ size ∧ 1 ≤ size ∧ size ≤ 64)) (hh : Hid (0 ≤ hits ∧ hits ≤ 1000000)) (hw : Hid (Way a b th vr_ W th2 vr2 k0 k1 k2 k3 k4 5 ad false ids pg at_ r f)) (w : World) (h : (MemAt w0 w mb S a b N cb size th vr_ W th2 vr2 W2 hits v E)) :
    Calls Tryd.prog 82 #[.pointer (some ⟨mb, 0, none⟩), (Value.agg #[.int .i64 k0, .int .i64 k1, .int .i64 k2, .int .i64 k3, .int .u32 k4]), .int .u32 (ad : Int), .int .u32 u] w fun e w' => e = .returned (.int .i64 f) ∧ ∃ hits' v' E', MemAt w0 w' mb S a b N cb size th vr_ W th2 vr2 W2 hits' v' E' ∧ (E'.length : Int) ≤ size ∧ hits ≤ hits' ∧ hits' ≤ hits + 1 ∧ KeepM w w' N cb v ∧ (v'.ownBlock = v.ownBlock ∨ ∃ g, w.heap.size ≤ g ∧ v'.ownBlock = some g) := by
  have hb1 : ∀ o, Below w.heap.size w (w.alloc o) := fun o => (Below.refl _ _).alloc (Nat.le_refl _) _
  have H := Lib.hid (fun o => h.below (hb1 o))
  have HB := Lib.hid hb1
  have hf0 : ¬ f = 0 := by simpa using hf
  clear h hb1
  go_enter Tryd.func82, Tryd.ntmps82
  go_wp2_with (first
    | (go_at_call 58; (with_reducible refine (mfindx_is k0 k1 k2 k3 k4 ad had ids pg at_ r f hroom hh hw _ (H.out _)).mono ?_); rintro e w1 ⟨rfl, hits', v', E', hm, g1, g2, g3, hk, hv⟩; have HM := Lib.hid hm; have HG := Lib.hid (And.intro g1 (And.intro g2 g3)); have HK := Lib.hid hk; have HV := Lib.hid hv; clear hm g1 g2 g3 hk hv))
  go_ret
  have hs := HK.out.1
  simp at hs
  refine ⟨rfl, hits', v', E', HM.out.below ((Below.refl _ _).alloc (Nat.le_refl _) _), HG.out.1, HG.out.2.1, HG.out.2.2, ⟨by simp; omega, fun k hkN hk hkc hkv => ?_⟩, HV.out.imp id (fun ⟨g, hg, e⟩ => ⟨g, by simp at hg; omega, e⟩)⟩
  rw [((Below.refl _ _).alloc (Nat.le_refl _) _ : Below w1.heap.size w1 _).block k (by omega), HK.out.2 k (by simp; omega) hkc hkv]
  exact (HB.out _).block k hk
set_option maxRecDepth 100000 in
set_option maxHeartbeats 4000000 in
theorem msavex_ok {w0 : World} {mb S : Nat} {a b : Shp} {N cb : Nat} {size : Int} {th : Nat → Bool} {vr_ : Nat → Int} {W : Nat → Nat → Value} {th2 : Nat → Bool} {vr2 : Nat → Int} {W2 : Nat → Nat → Int} {hits : Int} {v : Value} {E : List EW} (k0 k1 k2 k3 k4 : Int) (ad : Nat) (had : ad ≤ 4294967295) (ids : List Int) (i x : Nat) (hi : i < b.n) (hx : x < 32) (hti : Hid (th2 i = true)) (u : Int) (hroom : Hid ((E.length : Int) ≤ size ∧ 1 ≤ size ∧ size ≤ 64)) (hh : Hid (0 ≤ hits ∧ hits ≤ 1000000)) (hw : Hid (Way a b th vr_ W th2 vr2 k0 k1 k2 k3 k4 5 ad false ids i x false 0)) (w : World) (h : (MemAt w0 w mb S a b N cb size th vr_ W th2 vr2 W2 hits v E)) :
    Calls Tryd.prog 82 #[.pointer (some ⟨mb, 0, none⟩), (Value.agg #[.int .i64 k0, .int .i64 k1, .int .i64 k2, .int .i64 k3, .int .u32 k4]), .int .u32 (ad : Int), .int .u32 u] w fun e w' => e = .returned (.int .i64 0) ∧ ∃ hits' v' E', MemAt w0 w' mb S a b N cb size th vr_ W th2 vr2 (updA W2 i x u) hits' v' E' ∧ (E'.length : Int) ≤ size ∧ hits ≤ hits' ∧ hits' ≤ hits + 1 ∧ KeepM w w' N cb v ∧ (v'.ownBlock = v.ownBlock ∨ ∃ g, w.heap.size ≤ g ∧ v'.ownBlock = some g) := by
  have hb1 : ∀ o, Below w.heap.size w (w.alloc o) := fun o => (Below.refl _ _).alloc (Nat.le_refl _) _
  have H := Lib.hid (fun o => h.below (hb1 o))
  have HB := Lib.hid hb1
  clear h hb1
  go_enter Tryd.func82, Tryd.ntmps82
  go_upto_region 6 with (first
    | (go_at_call 58; (with_reducible refine (mfindx_is k0 k1 k2 k3 k4 ad had ids i x false 0 hroom hh hw _ (H.out _)).mono ?_); rintro e w1 ⟨rfl, hits', v', E', hm, g1, g2, g3, hk, hv⟩; have HM := Lib.hid hm; have HG := Lib.hid (And.intro g1 (And.intro g2 g3)); have HK := Lib.hid hk; have HV := Lib.hid hv; clear hm g1 g2 g3 hk hv))
  have hq := (PlC.new w1 i x false 145).below (Below.refl _ _).drew
  have hm2 := (HM.out.below ((Below.refl _ _).alloc (Nat.le_refl _) _ : Below w1.heap.size w1 (w1.alloc (.cells #[.int .i64 i, .int .i64 x, .bool false] 145 (0, 0))))).below (Below.refl _ _).drew
  have HM2 := Lib.hid hm2
  refine wp_region_noPanic ?_
  refine wp_region_held_drew (S := fun w' => World.cell? w' ⟨mb, 0, none⟩ = some (.pointer (some ⟨S, 0, none⟩)) ∧ World.cell? w' ⟨S, 1, none⟩ = some (.pointer (some ⟨b.P, 0, none⟩)) ∧ World.cell? w' ⟨w1.heap.size, 0, none⟩ = some (.int .i64 i) ∧ World.cell? w' ⟨w1.heap.size, 1, none⟩ = some (.int .i64 x)) (by kernel_rfl) ⟨hm2.m0, hm2.sv.st.s1, hq.c0, hq.c1⟩ (fun hHeld => ?_)
  have HQ := Lib.hid hq
  clear hq hm2
  refine wpAnyH_take (i := 0) (v := ?_) (by rfl) (by kernel_rfl) (by kernel_rfl) (by kernel_rfl) (fun _ _ _ h => h) (Or.inl ⟨by kernel_rfl, ?_⟩) (by assumption) ?_; rotate_left 1; (focus (intro w hSw; (try dsimp only at hSw); simp only [List.getElem_toArray, List.getElem_cons_succ, List.getElem_cons_zero]; all_goals go_simp; all_goals (try with_reducible rfl))); (try simp only [Act.put, List.getElem_toArray, List.getElem_cons_succ, List.getElem_cons_zero, List.setIfInBounds_toArray, List.set_cons_zero, List.set_cons_succ])
  refine wpAnyH_take (i := 1) (v := ?_) (by rfl) (by kernel_rfl) (by kernel_rfl) (by kernel_rfl) (fun _ _ _ h => h) (Or.inl ⟨by kernel_rfl, ?_⟩) (by assumption) ?_; rotate_left 1; (focus (intro w hSw; (try dsimp only at hSw); simp only [List.getElem_toArray, List.getElem_cons_succ, List.getElem_cons_zero]; all_goals go_simp; all_goals (try with_reducible rfl))); (try simp only [Act.put, List.getElem_toArray, List.getElem_cons_succ, List.getElem_cons_zero, List.setIfInBounds_toArray, List.set_cons_zero, List.set_cons_succ])
  refine wpAnyH_take (i := 2) (v := ?_) (by rfl) (by kernel_rfl) (by kernel_rfl) (by kernel_rfl) (fun _ _ _ h => h) (Or.inl ⟨by kernel_rfl, ?_⟩) (by assumption) ?_; rotate_left 1; (focus (intro w hSw; (try dsimp only at hSw); simp only [List.getElem_toArray, List.getElem_cons_succ, List.getElem_cons_zero]; all_goals go_simp; all_goals (try with_reducible rfl))); (try simp only [Act.put, List.getElem_toArray, List.getElem_cons_succ, List.getElem_cons_zero, List.setIfInBounds_toArray, List.set_cons_zero, List.set_cons_succ])
  refine wpAnyH_take (i := 3) (v := ?_) (by rfl) (by kernel_rfl) (by kernel_rfl) (by kernel_rfl) (fun _ _ _ h => h) (Or.inl ⟨by kernel_rfl, ?_⟩) (by assumption) ?_; rotate_left 1; (focus (intro w hSw; (try dsimp only at hSw); simp only [List.getElem_toArray, List.getElem_cons_succ, List.getElem_cons_zero]; all_goals go_simp; all_goals (try with_reducible rfl))); (try simp only [Act.put, List.getElem_toArray, List.getElem_cons_succ, List.getElem_cons_zero, List.setIfInBounds_toArray, List.set_cons_zero, List.set_cons_succ])
  refine wpAnyH_take (i := 4) (v := ?_) (by rfl) (by kernel_rfl) (by kernel_rfl) (by kernel_rfl) (fun _ _ _ h => h) (Or.inl ⟨by kernel_rfl, ?_⟩) (by assumption) ?_; rotate_left 1; (focus (intro w hSw; (try dsimp only at hSw); simp only [List.getElem_toArray, List.getElem_cons_succ, List.getElem_cons_zero]; all_goals go_simp; all_goals (try with_reducible rfl))); (try simp only [Act.put, List.getElem_toArray, List.getElem_cons_succ, List.getElem_cons_zero, List.setIfInBounds_toArray, List.set_cons_zero, List.set_cons_succ])
  refine wpAnyH_take (i := 5) (v := ?_) (by rfl) (by kernel_rfl) (by kernel_rfl) (by kernel_rfl) (fun _ _ _ h => h) (Or.inl ⟨by kernel_rfl, ?_⟩) (by assumption) ?_; rotate_left 1; (focus (intro w hSw; (try dsimp only at hSw); simp only [List.getElem_toArray, List.getElem_cons_succ, List.getElem_cons_zero]; all_goals go_simp; all_goals (try with_reducible rfl))); (try simp only [Act.put, List.getElem_toArray, List.getElem_cons_succ, List.getElem_cons_zero, List.setIfInBounds_toArray, List.set_cons_zero, List.set_cons_succ])
  refine wpAnyH_take (i := 6) (v := ?_) (by rfl) (by kernel_rfl) (by kernel_rfl) (by kernel_rfl) (fun _ _ _ h => h) (Or.inl ⟨by kernel_rfl, ?_⟩) (by assumption) ?_; rotate_left 1; (focus (intro w hSw; (try dsimp only at hSw); simp only [List.getElem_toArray, List.getElem_cons_succ, List.getElem_cons_zero]; all_goals go_simp; all_goals (try with_reducible rfl))); (try simp only [Act.put, List.getElem_toArray, List.getElem_cons_succ, List.getElem_cons_zero, List.setIfInBounds_toArray, List.set_cons_zero, List.set_cons_succ])
  refine wpAnyH_take (i := 7) (v := ?_) (by rfl) (by kernel_rfl) (by kernel_rfl) (by kernel_rfl) (fun _ _ _ h => h) (Or.inl ⟨by kernel_rfl, ?_⟩) (by assumption) ?_; rotate_left 1; (focus (intro w hSw; (try dsimp only at hSw); simp only [List.getElem_toArray, List.getElem_cons_succ, List.getElem_cons_zero]; all_goals go_simp; all_goals (try with_reducible rfl))); (try simp only [Act.put, List.getElem_toArray, List.getElem_cons_succ, List.getElem_cons_zero, List.setIfInBounds_toArray, List.set_cons_zero, List.set_cons_succ])
  refine wpAnyH_take (i := 8) (v := ?_) (by rfl) (by kernel_rfl) (by kernel_rfl) (by kernel_rfl) (fun _ _ _ h => h) (Or.inl ⟨by kernel_rfl, ?_⟩) (by assumption) ?_; rotate_left 1; (focus (intro w hSw; (try dsimp only at hSw); simp only [List.getElem_toArray, List.getElem_cons_succ, List.getElem_cons_zero]; all_goals go_simp; all_goals (try with_reducible rfl))); (try simp only [Act.put, List.getElem_toArray, List.getElem_cons_succ, List.getElem_cons_zero, List.setIfInBounds_toArray, List.set_cons_zero, List.set_cons_succ])
  refine wpAnyH_take (i := 9) (v := ?_) (by rfl) (by kernel_rfl) (by kernel_rfl) (by kernel_rfl) (fun _ _ _ h => h) (Or.inl ⟨by kernel_rfl, ?_⟩) (by assumption) ?_; rotate_left 1; (focus (intro w hSw; (try dsimp only at hSw); simp only [List.getElem_toArray, List.getElem_cons_succ, List.getElem_cons_zero]; all_goals go_simp; all_goals (try with_reducible rfl))); (try simp only [Act.put, List.getElem_toArray, List.getElem_cons_succ, List.getElem_cons_zero, List.setIfInBounds_toArray, List.set_cons_zero, List.set_cons_succ])
  refine wpAnyH_take (i := 10) (v := ?_) (by rfl) (by kernel_rfl) (by kernel_rfl) (by kernel_rfl) (fun _ _ _ h => h) (Or.inl ⟨by kernel_rfl, ?_⟩) (by assumption) ?_; rotate_left 1; (focus (intro w hSw; (try dsimp only at hSw); simp only [List.getElem_toArray, List.getElem_cons_succ, List.getElem_cons_zero]; all_goals go_simp; all_goals (try with_reducible rfl))); (try simp only [Act.put, List.getElem_toArray, List.getElem_cons_succ, List.getElem_cons_zero, List.setIfInBounds_toArray, List.set_cons_zero, List.set_cons_succ])
  refine wpAnyH_take (i := 11) (v := ?_) (by rfl) (by kernel_rfl) (by kernel_rfl) (by kernel_rfl) (fun _ _ _ h => h) (Or.inl ⟨by kernel_rfl, ?_⟩) (by assumption) ?_; rotate_left 1; (focus (intro w hSw; (try dsimp only at hSw); simp only [List.getElem_toArray, List.getElem_cons_succ, List.getElem_cons_zero]; all_goals go_simp; all_goals (try with_reducible rfl))); (try simp only [Act.put, List.getElem_toArray, List.getElem_cons_succ, List.getElem_cons_zero, List.setIfInBounds_toArray, List.set_cons_zero, List.set_cons_succ])
  refine wpAnyH_ready (rs := [12]) (by kernel_rfl) (by simp) ?_; refine AllReadyH.cons (by rfl) (fun K hK => ?_) AllReadyH.nil; rw [if_pos (by kernel_rfl)]; simp only [List.getElem_toArray, List.getElem_cons_succ, List.getElem_cons_zero]
  have HPl := Lib.hid HM2.out.lo.p
  go_wp2_with (first
    | (go_at_call 97; (with_reducible refine (pwrite_is i x hi hx hti u _ HM2.out.sv.st.pg).mono ?_); rintro e w2 ⟨rfl, hP, hb⟩; have HF := Lib.hid (HM2.out.page hP hb HM2.out.ok); have HPB := Lib.hid hb; clear hP hb))
  have hN1 : N ≤ w1.heap.size := HM.out.nN
  have hqq : w2.heap[w1.heap.size]? = _ := HPB.out.2.2.2.2 w1.heap.size (by simp) (by have := HPl.out; omega) (by have := HPl.out; omega)
  refine hK.out _ _ ⟨HF.out.m0, HF.out.sv.st.s1, (World.cell?_of_block (a := ⟨w1.heap.size, 0, none⟩) hqq).trans HQ.out.c0, (World.cell?_of_block (a := ⟨w1.heap.size, 1, none⟩) hqq).trans HQ.out.c1⟩ (fun hHeld => ?_)
  clear hK K
  (try simp only [Act.put, List.getElem_toArray, List.getElem_cons_succ, List.getElem_cons_zero, List.setIfInBounds_toArray, List.set_cons_zero, List.set_cons_succ])
  refine wpAnyH_done (by kernel_rfl) ?_ _
  refine NoPanic.normal ?_
  go_wp2_with fail
  go_ret
  have hs := HK.out.1
  simp at hs
  have hs2 := HPB.out.2.2.2.1
  simp at hs2
  refine ⟨rfl, hits', v', E', HF.out, HG.out.1, HG.out.2.1, HG.out.2.2, ⟨by omega, fun k hkN hk hkc hkv => ?_⟩, HV.out.imp id (fun ⟨g, hg, e⟩ => ⟨g, by simp at hg; omega, e⟩)⟩
  rw [HPB.out.2.2.2.2 k (by simp; omega) (by have := HPl.out; omega) (by have := HPl.out; omega), (((Below.refl _ _).alloc (Nat.le_refl _) _ : Below w1.heap.size w1 _).drew).block k (by omega), HK.out.2 k (by simp; omega) hkc hkv]
  exact (HB.out _).block k hk
end Go.Proofs.YtjkbfhojjjkgnaaDoor
namespace Go.Proofs.YtjkbfhojjjkgnaaDoor
open Go.ChangeShapes Go.WideShapes Go.ChangeAt Go.RowKit
set_option linter.unusedVariables false
set_option linter.unusedSimpArgs false
set_option maxRecDepth 100000 in
theorem mfindn_is {w0 : World} {mb S : Nat} {a b : Shp} {N cb : Nat} {size : Int} {th : Nat → Bool} {vr_ : Nat → Int} {W : Nat → Nat → Value} {th2 : Nat → Bool} {vr2 : Nat → Int} {W2 : Nat → Nat → Int} {hits : Int} {v : Value} {E : List EW} (k0 k1 k2 k3 k4 : Int) (ad : Nat) (had : ad ≤ 4294967295) (ids : List Int) (pg at_ : Int) (r : Bool) (f : Int) (hroom : Hid ((E.length : Int) ≤ size ∧ 1 ≤ size ∧ size ≤ 64)) (hh : Hid (0 ≤ hits ∧ hits ≤ 1000000)) (hw : Hid (Way a b th vr_ W th2 vr2 k0 k1 k2 k3 k4 5 ad false ids pg at_ r f)) (w : World) (h : (MemAt w0 w mb S a b N cb size th vr_ W th2 vr2 W2 hits v E)) :
    Calls Tryd.prog 58 #[.pointer (some ⟨mb, 0, none⟩), (Value.agg #[.int .i64 k0, .int .i64 k1, .int .i64 k2, .int .i64 k3, .int .u32 k4]), .int .u32 (ad : Int)] w fun e w' => e = .returned (.tuple #[.agg #[.int .i64 pg, .int .i64 at_, .bool r], .int .i64 f]) ∧ ∃ hits' v' E', MemAt w0 w' mb S a b N cb size th vr_ W th2 vr2 W2 hits' v' E' ∧ (E'.length : Int) ≤ size ∧ hits ≤ hits' ∧ hits' ≤ hits + 1 ∧ KeepB w w' cb v ∧ (v'.ownBlock = v.ownBlock ∨ ∃ g, w.heap.size ≤ g ∧ v'.ownBlock = some g) ∧ (∀ x, x < w.heap.size → NoNode E x → NoNode E' x) := by
  have H := Lib.hid h
  obtain ⟨full, hful⟩ : ∃ full, Hid (((E.length : Int) == size) = full) := ⟨_, Lib.hid rfl⟩
  clear h
  go_enter Tryd.func58, Tryd.ntmps58
  go_upto_region 1 with fail
  obtain ⟨wB, hwB⟩ : ∃ wB, wB = ((w.alloc (.cells #[.int .i64 k0, .int .i64 k1, .int .i64 k2, .int .i64 k3, .int .u32 k4] 27 (0, 0))).alloc (.cells #[.int .i64 0, .int .i64 0, .bool false] 145 (0, 0))).drew := ⟨_, rfl⟩
  have HBB : Hid (Below w.heap.size w wB) := Lib.hid (by rw [hwB]; exact (((Below.refl _ _).alloc (Nat.le_refl _) _ : Below w.heap.size w _).alloc (by simp) _).drew)
  have HKB : Hid (KeyC wB w.heap.size k0 k1 k2 k3 k4) := Lib.hid (by rw [hwB]; exact ((KeyC.new w k0 k1 k2 k3 k4 27).below ((Below.refl _ _).alloc (Nat.le_refl _) _)).below (Below.refl _ _).drew)
  have HPB : Hid (PlC wB (w.heap.size + 1) 0 0 false) := Lib.hid (by rw [hwB]; exact (PlC.newB w _ 0 0 false 145).below (Below.refl _ _).drew)
  have H2 := Lib.hid (H.out.below HBB.out)
  have HSz : Hid (wB.heap.size = w.heap.size + 1 + 1) := Lib.hid (by rw [hwB]; simp)
  have HS7 : Hid (∀ w', World.cell? w' ⟨mb, 0, none⟩ = some (.pointer (some ⟨S, 0, none⟩)) → World.cell? w' ⟨mb, 1, none⟩ = some (.pointer (some ⟨cb, 0, none⟩)) → KeyC w' w.heap.size k0 k1 k2 k3 k4 → (World.cell? w' ⟨mb, 0, none⟩ = some (.pointer (some ⟨S, 0, none⟩)) ∧ World.cell? w' ⟨mb, 1, none⟩ = some (.pointer (some ⟨cb, 0, none⟩)) ∧ World.cell? w' ⟨w.heap.size, 0, none⟩ = some (.int .i64 k0) ∧ World.cell? w' ⟨w.heap.size, 1, none⟩ = some (.int .i64 k1) ∧ World.cell? w' ⟨w.heap.size, 2, none⟩ = some (.int .i64 k2) ∧ World.cell? w' ⟨w.heap.size, 3, none⟩ = some (.int .i64 k3) ∧ World.cell? w' ⟨w.heap.size, 4, none⟩ = some (.int .u32 k4))) := Lib.hid (fun w' h0 h1 hk => ⟨h0, h1, hk.c0, hk.c1, hk.c2, hk.c3, hk.c4⟩)
  refine wp_region_noPanic ?_
  refine wp_region_held_drew (S := fun w' => (World.cell? w' ⟨mb, 0, none⟩ = some (.pointer (some ⟨S, 0, none⟩)) ∧ World.cell? w' ⟨mb, 1, none⟩ = some (.pointer (some ⟨cb, 0, none⟩)) ∧ World.cell? w' ⟨w.heap.size, 0, none⟩ = some (.int .i64 k0) ∧ World.cell? w' ⟨w.heap.size, 1, none⟩ = some (.int .i64 k1) ∧ World.cell? w' ⟨w.heap.size, 2, none⟩ = some (.int .i64 k2) ∧ World.cell? w' ⟨w.heap.size, 3, none⟩ = some (.int .i64 k3) ∧ World.cell? w' ⟨w.heap.size, 4, none⟩ = some (.int .u32 k4))) (by kernel_rfl) (by rw [← hwB]; exact HS7.out _ H2.out.m0 H2.out.m1 HKB.out) (fun hHeld => ?_)
  rw [← hwB] at hHeld ⊢
  clear hwB
  refine wpAnyH_take (i := 0) (v := ?_) (by rfl) (by kernel_rfl) (by kernel_rfl) (by kernel_rfl) (fun _ _ _ h => h) (Or.inl ⟨by kernel_rfl, ?_⟩) (by assumption) ?_; rotate_left 1; (focus (intro w hSw; (try dsimp only at hSw); simp only [List.getElem_toArray, List.getElem_cons_succ, List.getElem_cons_zero]; all_goals go_simp; all_goals (try with_reducible rfl))); (try simp only [Act.put, List.getElem_toArray, List.getElem_cons_succ, List.getElem_cons_zero, List.setIfInBounds_toArray, List.set_cons_zero, List.set_cons_succ])
  refine wpAnyH_take (i := 1) (v := ?_) (by rfl) (by kernel_rfl) (by kernel_rfl) (by kernel_rfl) (fun _ _ _ h => h) (Or.inl ⟨by kernel_rfl, ?_⟩) (by assumption) ?_; rotate_left 1; (focus (intro w hSw; (try dsimp only at hSw); simp only [List.getElem_toArray, List.getElem_cons_succ, List.getElem_cons_zero]; all_goals go_simp; all_goals (try with_reducible rfl))); (try simp only [Act.put, List.getElem_toArray, List.getElem_cons_succ, List.getElem_cons_zero, List.setIfInBounds_toArray, List.set_cons_zero, List.set_cons_succ])
  refine wpAnyH_take (i := 2) (v := ?_) (by rfl) (by kernel_rfl) (by kernel_rfl) (by kernel_rfl) (fun _ _ _ h => h) (Or.inl ⟨by kernel_rfl, ?_⟩) (by assumption) ?_; rotate_left 1; (focus (intro w hSw; (try dsimp only at hSw); simp only [List.getElem_toArray, List.getElem_cons_succ, List.getElem_cons_zero]; all_goals go_simp; all_goals (try with_reducible rfl))); (try simp only [Act.put, List.getElem_toArray, List.getElem_cons_succ, List.getElem_cons_zero, List.setIfInBounds_toArray, List.set_cons_zero, List.set_cons_succ])
  refine wpAnyH_take (i := 3) (v := ?_) (by rfl) (by kernel_rfl) (by kernel_rfl) (by kernel_rfl) (fun _ _ _ h => h) (Or.inl ⟨by kernel_rfl, ?_⟩) (by assumption) ?_; rotate_left 1; (focus (intro w hSw; (try dsimp only at hSw); simp only [List.getElem_toArray, List.getElem_cons_succ, List.getElem_cons_zero]; all_goals go_simp; all_goals (try with_reducible rfl))); (try simp only [Act.put, List.getElem_toArray, List.getElem_cons_succ, List.getElem_cons_zero, List.setIfInBounds_toArray, List.set_cons_zero, List.set_cons_succ])
  refine wpAnyH_take (i := 4) (v := ?_) (by rfl) (by kernel_rfl) (by kernel_rfl) (by kernel_rfl) (fun _ _ _ h => h) (Or.inl ⟨by kernel_rfl, ?_⟩) (by assumption) ?_; rotate_left 1; (focus (intro w hSw; (try dsimp only at hSw); simp only [List.getElem_toArray, List.getElem_cons_succ, List.getElem_cons_zero]; all_goals go_simp; all_goals (try with_reducible rfl))); (try simp only [Act.put, List.getElem_toArray, List.getElem_cons_succ, List.getElem_cons_zero, List.setIfInBounds_toArray, List.set_cons_zero, List.set_cons_succ])
  refine wpAnyH_take (i := 5) (v := ?_) (by rfl) (by kernel_rfl) (by kernel_rfl) (by kernel_rfl) (fun _ _ _ h => h) (Or.inl ⟨by kernel_rfl, ?_⟩) (by assumption) ?_; rotate_left 1; (focus (intro w hSw; (try dsimp only at hSw); simp only [List.getElem_toArray, List.getElem_cons_succ, List.getElem_cons_zero]; all_goals go_simp; all_goals (try with_reducible rfl))); (try simp only [Act.put, List.getElem_toArray, List.getElem_cons_succ, List.getElem_cons_zero, List.setIfInBounds_toArray, List.set_cons_zero, List.set_cons_succ])
  refine wpAnyH_take (i := 6) (v := ?_) (by rfl) (by kernel_rfl) (by kernel_rfl) (by kernel_rfl) (fun _ _ _ h => h) (Or.inl ⟨by kernel_rfl, ?_⟩) (by assumption) ?_; rotate_left 1; (focus (intro w hSw; (try dsimp only at hSw); simp only [List.getElem_toArray, List.getElem_cons_succ, List.getElem_cons_zero]; all_goals go_simp; all_goals (try with_reducible rfl))); (try simp only [Act.put, List.getElem_toArray, List.getElem_cons_succ, List.getElem_cons_zero, List.setIfInBounds_toArray, List.set_cons_zero, List.set_cons_succ])
  refine wpAnyH_take (i := 7) (v := ?_) (by rfl) (by kernel_rfl) (by kernel_rfl) (by kernel_rfl) (fun _ _ _ h => h) (Or.inl ⟨by kernel_rfl, ?_⟩) (by assumption) ?_; rotate_left 1; (focus (intro w hSw; (try dsimp only at hSw); simp only [List.getElem_toArray, List.getElem_cons_succ, List.getElem_cons_zero]; all_goals go_simp; all_goals (try with_reducible rfl))); (try simp only [Act.put, List.getElem_toArray, List.getElem_cons_succ, List.getElem_cons_zero, List.setIfInBounds_toArray, List.set_cons_zero, List.set_cons_succ])
  refine wpAnyH_take (i := 8) (v := ?_) (by rfl) (by kernel_rfl) (by kernel_rfl) (by kernel_rfl) (fun _ _ _ h => h) (Or.inl ⟨by kernel_rfl, ?_⟩) (by assumption) ?_; rotate_left 1; (focus (intro w hSw; (try dsimp only at hSw); simp only [List.getElem_toArray, List.getElem_cons_succ, List.getElem_cons_zero]; all_goals go_simp; all_goals (try with_reducible rfl))); (try simp only [Act.put, List.getElem_toArray, List.getElem_cons_succ, List.getElem_cons_zero, List.setIfInBounds_toArray, List.set_cons_zero, List.set_cons_succ])
  refine wpAnyH_take (i := 9) (v := ?_) (by rfl) (by kernel_rfl) (by kernel_rfl) (by kernel_rfl) (fun _ _ _ h => h) (Or.inl ⟨by kernel_rfl, ?_⟩) (by assumption) ?_; rotate_left 1; (focus (intro w hSw; (try dsimp only at hSw); simp only [List.getElem_toArray, List.getElem_cons_succ, List.getElem_cons_zero]; all_goals go_simp; all_goals (try with_reducible rfl))); (try simp only [Act.put, List.getElem_toArray, List.getElem_cons_succ, List.getElem_cons_zero, List.setIfInBounds_toArray, List.set_cons_zero, List.set_cons_succ])
  refine wpAnyH_ready (rs := [10]) (by kernel_rfl) (by simp) ?_; refine AllReadyH.cons (by rfl) (fun K hK => ?_) AllReadyH.nil; rw [if_pos (by kernel_rfl)]; simp only [List.getElem_toArray, List.getElem_cons_succ, List.getElem_cons_zero]
  go_wp2_with (first
    | (go_at_call 78; (with_reducible refine (cfindx_is k0 k1 k2 k3 k4 ad had ids pg at_ r f E.length (Lib.hid rfl) full (Lib.hid ⟨hroom.out.1, hroom.out.2.1⟩) hful (by have := hroom.out; omega) hh hw (Lib.hid H.out.ok) _ H2.out.sv.st H2.out.ca H2.out.nN).mono ?_); rintro e w1 ⟨rfl, hb, hits', v', E', hc, ok, ho, hk, hv, hnn⟩; have HNN := Lib.hid hnn; have HNo := Lib.hid (hnn (w.heap.size + 1) (by rw [HSz.out]; omega) (H.out.ca.noNode _ (by omega))); have HM := Lib.hid (H2.out.found hb hc ok hk hv); have HP := Lib.hid (HPB.out.same hk.1 (hk.2 _ (by rw [HSz.out]; omega) (by have := H.out.ca.cl; omega) (fun e => by have := (H.out.ca.row.lt _ e).2; omega))); have HKK := Lib.hid (HKB.out.same' hk.1 (hk.2 _ (by rw [HSz.out]; omega) (by have := H.out.ca.cl; omega) (fun e => by have := (H.out.ca.row.lt _ e).2; omega))); have HK := Lib.hid hk; have HV := Lib.hid hv; have HG := Lib.hid (ho.room ⟨hroom.out.1, hroom.out.2.1⟩ hful.out); clear hb hc ok ho hk hv hnn))
  refine hK.out _ _ (HS7.out _ HM.out.m0 HM.out.m1 HKK.out) (fun hHeld => ?_)
  clear hK K
  (try simp only [Act.put, List.getElem_toArray, List.getElem_cons_succ, List.getElem_cons_zero, List.setIfInBounds_toArray, List.set_cons_zero, List.set_cons_succ])
  refine wpAnyH_take (i := 11) (v := ?_) (by rfl) (by kernel_rfl) (by kernel_rfl) (by kernel_rfl) (fun _ _ _ h => h) (Or.inl ⟨by kernel_rfl, ?_⟩) (by assumption) ?_; rotate_left 1; (focus (intro w hSw; (try dsimp only at hSw); simp only [List.getElem_toArray, List.getElem_cons_succ, List.getElem_cons_zero]; all_goals go_simp; all_goals (try with_reducible rfl))); (try simp only [Act.put, List.getElem_toArray, List.getElem_cons_succ, List.getElem_cons_zero, List.setIfInBounds_toArray, List.set_cons_zero, List.set_cons_succ])
  refine wpAnyH_take (i := 12) (v := ?_) (by rfl) (by kernel_rfl) (by kernel_rfl) (by kernel_rfl) (fun _ _ _ h => h) (Or.inl ⟨by kernel_rfl, ?_⟩) (by assumption) ?_; rotate_left 1; (focus (intro w hSw; (try dsimp only at hSw); simp only [List.getElem_toArray, List.getElem_cons_succ, List.getElem_cons_zero]; all_goals go_simp; all_goals (try with_reducible rfl))); (try simp only [Act.put, List.getElem_toArray, List.getElem_cons_succ, List.getElem_cons_zero, List.setIfInBounds_toArray, List.set_cons_zero, List.set_cons_succ])
  refine wpAnyH_ready (rs := [13]) (by kernel_rfl) (by simp) ?_; refine AllReadyH.cons (by rfl) (fun K hK => ?_) AllReadyH.nil; rw [if_pos (by kernel_rfl)]; simp only [List.getElem_toArray, List.getElem_cons_succ, List.getElem_cons_zero]
  have p0 := HP.out.c0
  have p1 := HP.out.c1
  have p2 := HP.out.c2
  have f0 := HP.out.fr 0
  have f1 := HP.out.fr 1
  have f2 := HP.out.fr 2
  have hx1 : cb ≠ w.heap.size + 1 := by have := H.out.ca.cl; omega
  have hx2 : mb ≠ w.heap.size + 1 := by have := H.out.ml; omega
  have hx3 : v'.ownBlock ≠ some (w.heap.size + 1) := fun e => by
    rcases HV.out with e' | ⟨g, hg, e'⟩
    · rw [e'] at e; have := (H.out.ca.row.lt _ e).2; omega
    · rw [e'] at e; injection e with e; rw [HSz.out] at hg; omega
  have HFin := Lib.hid (HM.out.put3 (w.heap.size + 1) (by have := H.out.nN; omega) hx1 hx2 hx3 HNo.out (.int .i64 pg) (.int .i64 at_) (.bool r))
  go_wp2_with fail
  refine hK.out _ _ (HS7.out _ HFin.out.m0 HFin.out.m1 (HKK.out.same' (by simp) (by rw [set_heap _ _ _ _ _ (by omega), set_heap _ _ _ _ _ (by omega), set_heap _ _ _ _ _ (by omega)]))) (fun hHeld => ?_)
  clear hK K
  (try simp only [Act.put, List.getElem_toArray, List.getElem_cons_succ, List.getElem_cons_zero, List.setIfInBounds_toArray, List.set_cons_zero, List.set_cons_succ])
  refine wpAnyH_take (i := 14) (v := ?_) (by rfl) (by kernel_rfl) (by kernel_rfl) (by kernel_rfl) (fun _ _ _ h => h) (Or.inl ⟨by kernel_rfl, ?_⟩) (by assumption) ?_; rotate_left 1; (focus (intro w hSw; (try dsimp only at hSw); simp only [List.getElem_toArray, List.getElem_cons_succ, List.getElem_cons_zero]; all_goals go_simp; all_goals (try with_reducible rfl))); (try simp only [Act.put, List.getElem_toArray, List.getElem_cons_succ, List.getElem_cons_zero, List.setIfInBounds_toArray, List.set_cons_zero, List.set_cons_succ])
  refine wpAnyH_done (by kernel_rfl) ?_ _
  refine NoPanic.normal ?_
  go_wp2_with fail
  have t := HP.out.set pg at_ r
  have t0 := t.c0
  have t1 := t.c1
  have t2 := t.c2
  refine bodyPost_ret (v := .tuple #[.agg #[.int .i64 pg, .int .i64 at_, .bool r], .int .i64 f]) (by simp [results, Tryd.results58, go_sem, t0, t1, t2]) rfl ⟨rfl, ?_⟩
  have hsz := HK.out.1
  rw [HSz.out] at hsz
  refine ⟨hits', v', E', HFin.out, HG.out.1, HG.out.2.1, HG.out.2.2, ⟨by simp; omega, fun k hk hkc hkv => ?_⟩, HV.out.imp id (fun ⟨g, hg, e⟩ => ⟨g, by rw [HSz.out] at hg; omega, e⟩), fun x hx => HNN.out x (by rw [HSz.out]; omega)⟩
  rw [set_heap _ _ _ _ _ (by omega), set_heap _ _ _ _ _ (by omega), set_heap _ _ _ _ _ (by omega), HK.out.2 k (by rw [HSz.out]; omega) hkc hkv]
  exact HBB.out.block k hk
set_option maxRecDepth 100000 in
set_option maxHeartbeats 2000000 in
theorem mloadn_fault {w0 : World} {mb S : Nat} {a b : Shp} {N cb : Nat} {size : Int} {th : Nat → Bool} {vr_ : Nat → Int} {W : Nat → Nat → Value} {th2 : Nat → Bool} {vr2 : Nat → Int} {W2 : Nat → Nat → Int} {hits : Int} {v : Value} {E : List EW} (k0 k1 k2 k3 k4 : Int) (ad : Nat) (had : ad ≤ 4294967295) (ids : List Int) (pg at_ : Int) (r : Bool) (f : Int) (hf : (f != 0) = true) (hroom : Hid ((E.length : Int) ≤ size ∧ 1 ≤ size ∧ size ≤ 64)) (hh : Hid (0 ≤ hits ∧ hits ≤ 1000000)) (hw : Hid (Way a b th vr_ W th2 vr2 k0 k1 k2 k3 k4 5 ad false ids pg at_ r f)) (w : World) (h : (MemAt w0 w mb S a b N cb size th vr_ W th2 vr2 W2 hits v E)) :
    Calls Tryd.prog 39 #[.pointer (some ⟨mb, 0, none⟩), (Value.agg #[.int .i64 k0, .int .i64 k1, .int .i64 k2, .int .i64 k3, .int .u32 k4]), .int .u32 (ad : Int)] w fun e w' => e = .returned (.tuple #[.int .u32 0, .int .i64 f]) ∧ ∃ hits' v' E', MemAt w0 w' mb S a b N cb size th vr_ W th2 vr2 W2 hits' v' E' ∧ (E'.length : Int) ≤ size ∧ hits ≤ hits' ∧ hits' ≤ hits + 1 ∧ KeepM w w' N cb v ∧ (v'.ownBlock = v.ownBlock ∨ ∃ g, w.heap.size ≤ g ∧ v'.ownBlock = some g) ∧ (∀ x, x < w.heap.size → NoNode E x → NoNode E' x) := by
  have hb1 : ∀ o, Below w.heap.size w (w.alloc o) := fun o => (Below.refl _ _).alloc (Nat.le_refl _) _
  have H := Lib.hid (fun o => h.below (hb1 o))
  have HB := Lib.hid hb1
  have hf0 : ¬ f = 0 := by simpa using hf
  clear h hb1
  go_enter Tryd.func39, Tryd.ntmps39
  go_wp2_with (first
    | (go_at_call 58; (with_reducible refine (mfindn_is k0 k1 k2 k3 k4 ad had ids pg at_ r f hroom hh hw _ (H.out _)).mono ?_); rintro e w1 ⟨rfl, hits', v', E', hm, g1, g2, g3, hk, hv, hnn⟩; have HNN := Lib.hid hnn; have HM := Lib.hid hm; have HG := Lib.hid (And.intro g1 (And.intro g2 g3)); have HK := Lib.hid hk; have HV := Lib.hid hv; clear hm g1 g2 g3 hk hv hnn))
  go_ret2
  have hs := HK.out.1
  simp at hs
  refine ⟨rfl, hits', v', E', HM.out.below ((Below.refl _ _).alloc (Nat.le_refl _) _), HG.out.1, HG.out.2.1, HG.out.2.2, ⟨by simp; omega, fun k hkN hk hkc hkv => ?_⟩, HV.out.imp id (fun ⟨g, hg, e⟩ => ⟨g, by simp at hg; omega, e⟩), fun x hx => HNN.out x (by simp; omega)⟩
  rw [((Below.refl _ _).alloc (Nat.le_refl _) _ : Below w1.heap.size w1 _).block k (by omega), HK.out.2 k (by simp; omega) hkc hkv]
  exact (HB.out _).block k hk
set_option maxRecDepth 100000 in
set_option maxHeartbeats 4000000 in
theorem mloadn_ok {w0 : World} {mb S : Nat} {a b : Shp} {N cb : Nat} {size : Int} {th : Nat → Bool} {vr_ : Nat → Int} {W : Nat → Nat → Value} {th2 : Nat → Bool} {vr2 : Nat → Int} {W2 : Nat → Nat → Int} {hits : Int} {v : Value} {E : List EW} (k0 k1 k2 k3 k4 : Int) (ad : Nat) (had : ad ≤ 4294967295) (ids : List Int) (pg at_ : Int) (r : Bool) (i x : Nat) (hpg : Hid (pg = i ∧ at_ = x)) (hi : i < b.n) (hx : x < 32) (hti : Hid (th2 i = true)) (z : Int) (hz : Hid (W2 i x = z)) (hroom : Hid ((E.length : Int) ≤ size ∧ 1 ≤ size ∧ size ≤ 64)) (hh : Hid (0 ≤ hits ∧ hits ≤ 1000000)) (hw : Hid (Way a b th vr_ W th2 vr2 k0 k1 k2 k3 k4 5 ad false ids pg at_ r 0)) (w : World) (h : (MemAt w0 w mb S a b N cb size th vr_ W th2 vr2 W2 hits v E)) :
    Calls Tryd.prog 39 #[.pointer (some ⟨mb, 0, none⟩), (Value.agg #[.int .i64 k0, .int .i64 k1, .int .i64 k2, .int .i64 k3, .int .u32 k4]), .int .u32 (ad : Int)] w fun e w' => e = .returned (.tuple #[.int .u32 z, .int .i64 0]) ∧ ∃ hits' v' E', MemAt w0 w' mb S a b N cb size th vr_ W th2 vr2 W2 hits' v' E' ∧ (E'.length : Int) ≤ size ∧ hits ≤ hits' ∧ hits' ≤ hits + 1 ∧ KeepM w w' N cb v ∧ (v'.ownBlock = v.ownBlock ∨ ∃ g, w.heap.size ≤ g ∧ v'.ownBlock = some g) ∧ (∀ x, x < w.heap.size → NoNode E x → NoNode E' x) := by
  have hb1 : ∀ o, Below w.heap.size w (w.alloc o) := fun o => (Below.refl _ _).alloc (Nat.le_refl _) _
  have H := Lib.hid (fun o => h.below (hb1 o))
  have HB := Lib.hid hb1
  clear h hb1
  go_enter Tryd.func39, Tryd.ntmps39
  go_upto_region 4 with (first
    | (go_at_call 58; (with_reducible refine (mfindn_is k0 k1 k2 k3 k4 ad had ids pg at_ r 0 hroom hh hw _ (H.out _)).mono ?_); rintro e w1 ⟨rfl, hits', v', E', hm, g1, g2, g3, hk, hv, hnn⟩; have HNN := Lib.hid hnn; have HM := Lib.hid hm; have HG := Lib.hid (And.intro g1 (And.intro g2 g3)); have HK := Lib.hid hk; have HV := Lib.hid hv; clear hm g1 g2 g3 hk hv hnn))
  have hq := (PlC.new w1 pg at_ r 145).below (Below.refl _ _).drew
  have hm2 := (HM.out.below ((Below.refl _ _).alloc (Nat.le_refl _) _ : Below w1.heap.size w1 (w1.alloc (.cells #[.int .i64 pg, .int .i64 at_, .bool r] 145 (0, 0))))).below (Below.refl _ _).drew
  have HM2 := Lib.hid hm2
  refine wp_region_noPanic ?_
  refine wp_region_held_drew (S := fun w' => World.cell? w' ⟨mb, 0, none⟩ = some (.pointer (some ⟨S, 0, none⟩)) ∧ World.cell? w' ⟨S, 1, none⟩ = some (.pointer (some ⟨b.P, 0, none⟩)) ∧ World.cell? w' ⟨w1.heap.size, 0, none⟩ = some (.int .i64 pg) ∧ World.cell? w' ⟨w1.heap.size, 1, none⟩ = some (.int .i64 at_)) (by kernel_rfl) ⟨hm2.m0, hm2.sv.st.s1, hq.c0, hq.c1⟩ (fun hHeld => ?_)
  clear hq hm2
  refine wpAnyH_take (i := 0) (v := ?_) (by rfl) (by kernel_rfl) (by kernel_rfl) (by kernel_rfl) (fun _ _ _ h => h) (Or.inl ⟨by kernel_rfl, ?_⟩) (by assumption) ?_; rotate_left 1; (focus (intro w hSw; (try dsimp only at hSw); simp only [List.getElem_toArray, List.getElem_cons_succ, List.getElem_cons_zero]; all_goals go_simp; all_goals (try with_reducible rfl))); (try simp only [Act.put, List.getElem_toArray, List.getElem_cons_succ, List.getElem_cons_zero, List.setIfInBounds_toArray, List.set_cons_zero, List.set_cons_succ])
  refine wpAnyH_take (i := 1) (v := ?_) (by rfl) (by kernel_rfl) (by kernel_rfl) (by kernel_rfl) (fun _ _ _ h => h) (Or.inl ⟨by kernel_rfl, ?_⟩) (by assumption) ?_; rotate_left 1; (focus (intro w hSw; (try dsimp only at hSw); simp only [List.getElem_toArray, List.getElem_cons_succ, List.getElem_cons_zero]; all_goals go_simp; all_goals (try with_reducible rfl))); (try simp only [Act.put, List.getElem_toArray, List.getElem_cons_succ, List.getElem_cons_zero, List.setIfInBounds_toArray, List.set_cons_zero, List.set_cons_succ])
  refine wpAnyH_take (i := 2) (v := ?_) (by rfl) (by kernel_rfl) (by kernel_rfl) (by kernel_rfl) (fun _ _ _ h => h) (Or.inl ⟨by kernel_rfl, ?_⟩) (by assumption) ?_; rotate_left 1; (focus (intro w hSw; (try dsimp only at hSw); simp only [List.getElem_toArray, List.getElem_cons_succ, List.getElem_cons_zero]; all_goals go_simp; all_goals (try with_reducible rfl))); (try simp only [Act.put, List.getElem_toArray, List.getElem_cons_succ, List.getElem_cons_zero, List.setIfInBounds_toArray, List.set_cons_zero, List.set_cons_succ])
  refine wpAnyH_take (i := 3) (v := ?_) (by rfl) (by kernel_rfl) (by kernel_rfl) (by kernel_rfl) (fun _ _ _ h => h) (Or.inl ⟨by kernel_rfl, ?_⟩) (by assumption) ?_; rotate_left 1; (focus (intro w hSw; (try dsimp only at hSw); simp only [List.getElem_toArray, List.getElem_cons_succ, List.getElem_cons_zero]; all_goals go_simp; all_goals (try with_reducible rfl))); (try simp only [Act.put, List.getElem_toArray, List.getElem_cons_succ, List.getElem_cons_zero, List.setIfInBounds_toArray, List.set_cons_zero, List.set_cons_succ])
  refine wpAnyH_take (i := 4) (v := ?_) (by rfl) (by kernel_rfl) (by kernel_rfl) (by kernel_rfl) (fun _ _ _ h => h) (Or.inl ⟨by kernel_rfl, ?_⟩) (by assumption) ?_; rotate_left 1; (focus (intro w hSw; (try dsimp only at hSw); simp only [List.getElem_toArray, List.getElem_cons_succ, List.getElem_cons_zero]; all_goals go_simp; all_goals (try with_reducible rfl))); (try simp only [Act.put, List.getElem_toArray, List.getElem_cons_succ, List.getElem_cons_zero, List.setIfInBounds_toArray, List.set_cons_zero, List.set_cons_succ])
  refine wpAnyH_take (i := 5) (v := ?_) (by rfl) (by kernel_rfl) (by kernel_rfl) (by kernel_rfl) (fun _ _ _ h => h) (Or.inl ⟨by kernel_rfl, ?_⟩) (by assumption) ?_; rotate_left 1; (focus (intro w hSw; (try dsimp only at hSw); simp only [List.getElem_toArray, List.getElem_cons_succ, List.getElem_cons_zero]; all_goals go_simp; all_goals (try with_reducible rfl))); (try simp only [Act.put, List.getElem_toArray, List.getElem_cons_succ, List.getElem_cons_zero, List.setIfInBounds_toArray, List.set_cons_zero, List.set_cons_succ])
  refine wpAnyH_take (i := 6) (v := ?_) (by rfl) (by kernel_rfl) (by kernel_rfl) (by kernel_rfl) (fun _ _ _ h => h) (Or.inl ⟨by kernel_rfl, ?_⟩) (by assumption) ?_; rotate_left 1; (focus (intro w hSw; (try dsimp only at hSw); simp only [List.getElem_toArray, List.getElem_cons_succ, List.getElem_cons_zero]; all_goals go_simp; all_goals (try with_reducible rfl))); (try simp only [Act.put, List.getElem_toArray, List.getElem_cons_succ, List.getElem_cons_zero, List.setIfInBounds_toArray, List.set_cons_zero, List.set_cons_succ])
  refine wpAnyH_take (i := 7) (v := ?_) (by rfl) (by kernel_rfl) (by kernel_rfl) (by kernel_rfl) (fun _ _ _ h => h) (Or.inl ⟨by kernel_rfl, ?_⟩) (by assumption) ?_; rotate_left 1; (focus (intro w hSw; (try dsimp only at hSw); simp only [List.getElem_toArray, List.getElem_cons_succ, List.getElem_cons_zero]; all_goals go_simp; all_goals (try with_reducible rfl))); (try simp only [Act.put, List.getElem_toArray, List.getElem_cons_succ, List.getElem_cons_zero, List.setIfInBounds_toArray, List.set_cons_zero, List.set_cons_succ])
  refine wpAnyH_take (i := 8) (v := ?_) (by rfl) (by kernel_rfl) (by kernel_rfl) (by kernel_rfl) (fun _ _ _ h => h) (Or.inl ⟨by kernel_rfl, ?_⟩) (by assumption) ?_; rotate_left 1; (focus (intro w hSw; (try dsimp only at hSw); simp only [List.getElem_toArray, List.getElem_cons_succ, List.getElem_cons_zero]; all_goals go_simp; all_goals (try with_reducible rfl))); (try simp only [Act.put, List.getElem_toArray, List.getElem_cons_succ, List.getElem_cons_zero, List.setIfInBounds_toArray, List.set_cons_zero, List.set_cons_succ])
  refine wpAnyH_take (i := 9) (v := ?_) (by rfl) (by kernel_rfl) (by kernel_rfl) (by kernel_rfl) (fun _ _ _ h => h) (Or.inl ⟨by kernel_rfl, ?_⟩) (by assumption) ?_; rotate_left 1; (focus (intro w hSw; (try dsimp only at hSw); simp only [List.getElem_toArray, List.getElem_cons_succ, List.getElem_cons_zero]; all_goals go_simp; all_goals (try with_reducible rfl))); (try simp only [Act.put, List.getElem_toArray, List.getElem_cons_succ, List.getElem_cons_zero, List.setIfInBounds_toArray, List.set_cons_zero, List.set_cons_succ])
  refine wpAnyH_take (i := 10) (v := ?_) (by rfl) (by kernel_rfl) (by kernel_rfl) (by kernel_rfl) (fun _ _ _ h => h) (Or.inl ⟨by kernel_rfl, ?_⟩) (by assumption) ?_; rotate_left 1; (focus (intro w hSw; (try dsimp only at hSw); simp only [List.getElem_toArray, List.getElem_cons_succ, List.getElem_cons_zero]; all_goals go_simp; all_goals (try with_reducible rfl))); (try simp only [Act.put, List.getElem_toArray, List.getElem_cons_succ, List.getElem_cons_zero, List.setIfInBounds_toArray, List.set_cons_zero, List.set_cons_succ])
  refine wpAnyH_ready (rs := [11]) (by kernel_rfl) (by simp) ?_; refine AllReadyH.cons (by rfl) (fun K hK => ?_) AllReadyH.nil; rw [if_pos (by kernel_rfl)]; simp only [List.getElem_toArray, List.getElem_cons_succ, List.getElem_cons_zero]
  go_wp2_with (first
    | (go_at_call 23; (with_reducible refine (pread_at pg at_ i x (Lib.hid hpg.out.1) (Lib.hid hpg.out.2) hi hx hti z hz _ HM2.out.sv.st.pg).mono ?_); rintro e w2 ⟨rfl, rfl⟩))
  refine hK.out _ _ hHeld (fun hHeld => ?_)
  clear hK K
  (try simp only [Act.put, List.getElem_toArray, List.getElem_cons_succ, List.getElem_cons_zero, List.setIfInBounds_toArray, List.set_cons_zero, List.set_cons_succ])
  refine wpAnyH_take (i := 12) (v := ?_) (by rfl) (by kernel_rfl) (by kernel_rfl) (by kernel_rfl) (fun _ _ _ h => h) (Or.inl ⟨by kernel_rfl, ?_⟩) (by assumption) ?_; rotate_left 1; (focus (intro w hSw; (try dsimp only at hSw); simp only [List.getElem_toArray, List.getElem_cons_succ, List.getElem_cons_zero]; all_goals go_simp; all_goals (try with_reducible rfl))); (try simp only [Act.put, List.getElem_toArray, List.getElem_cons_succ, List.getElem_cons_zero, List.setIfInBounds_toArray, List.set_cons_zero, List.set_cons_succ])
  refine wpAnyH_take (i := 13) (v := ?_) (by rfl) (by kernel_rfl) (by kernel_rfl) (by kernel_rfl) (fun _ _ _ h => h) (Or.inl ⟨by kernel_rfl, ?_⟩) (by assumption) ?_; rotate_left 1; (focus (intro w hSw; (try dsimp only at hSw); simp only [List.getElem_toArray, List.getElem_cons_succ, List.getElem_cons_zero]; all_goals go_simp; all_goals (try with_reducible rfl))); (try simp only [Act.put, List.getElem_toArray, List.getElem_cons_succ, List.getElem_cons_zero, List.setIfInBounds_toArray, List.set_cons_zero, List.set_cons_succ])
  refine wpAnyH_take (i := 14) (v := ?_) (by rfl) (by kernel_rfl) (by kernel_rfl) (by kernel_rfl) (fun _ _ _ h => h) (Or.inl ⟨by kernel_rfl, ?_⟩) (by assumption) ?_; rotate_left 1; (focus (intro w hSw; (try dsimp only at hSw); simp only [List.getElem_toArray, List.getElem_cons_succ, List.getElem_cons_zero]; all_goals go_simp; all_goals (try with_reducible rfl))); (try simp only [Act.put, List.getElem_toArray, List.getElem_cons_succ, List.getElem_cons_zero, List.setIfInBounds_toArray, List.set_cons_zero, List.set_cons_succ])
  refine wpAnyH_take (i := 15) (v := ?_) (by rfl) (by kernel_rfl) (by kernel_rfl) (by kernel_rfl) (fun _ _ _ h => h) (Or.inl ⟨by kernel_rfl, ?_⟩) (by assumption) ?_; rotate_left 1; (focus (intro w hSw; (try dsimp only at hSw); simp only [List.getElem_toArray, List.getElem_cons_succ, List.getElem_cons_zero]; all_goals go_simp; all_goals (try with_reducible rfl))); (try simp only [Act.put, List.getElem_toArray, List.getElem_cons_succ, List.getElem_cons_zero, List.setIfInBounds_toArray, List.set_cons_zero, List.set_cons_succ])
  refine wpAnyH_take (i := 16) (v := ?_) (by rfl) (by kernel_rfl) (by kernel_rfl) (by kernel_rfl) (fun _ _ _ h => h) (Or.inl ⟨by kernel_rfl, ?_⟩) (by assumption) ?_; rotate_left 1; (focus (intro w hSw; (try dsimp only at hSw); simp only [List.getElem_toArray, List.getElem_cons_succ, List.getElem_cons_zero]; all_goals go_simp; all_goals (try with_reducible rfl))); (try simp only [Act.put, List.getElem_toArray, List.getElem_cons_succ, List.getElem_cons_zero, List.setIfInBounds_toArray, List.set_cons_zero, List.set_cons_succ])
  refine wpAnyH_done (by kernel_rfl) ?_ _
  refine NoPanic.normal ?_
  go_wp2_with fail
  go_ret2
  have hs := HK.out.1
  simp at hs
  refine ⟨rfl, hits', v', E', HM2.out, HG.out.1, HG.out.2.1, HG.out.2.2, ⟨by simp; omega, fun k hkN hk hkc hkv => ?_⟩, HV.out.imp id (fun ⟨g, hg, e⟩ => ⟨g, by simp at hg; omega, e⟩), fun x hx => HNN.out x (by simp; omega)⟩
  rw [(((Below.refl _ _).alloc (Nat.le_refl _) _ : Below w1.heap.size w1 _).drew).block k (by omega), HK.out.2 k (by simp; omega) hkc hkv]
  exact (HB.out _).block k hk
end Go.Proofs.YtjkbfhojjjkgnaaDoor
namespace Go.Proofs.YtjkbfhojjjkgnaaDoor
open Go.ChangeShapes Go.WideShapes Go.ChangeAt Go.RowKit
set_option linter.unusedVariables false
set_option linter.unusedSimpArgs false
theorem zk_list : (zs80.toArray).toList = zs80 := rfl
theorem zk_one : (zs80.toArray).all (·.oneCell') = true := by kernel_rfl
theorem infoZK : (Tryd.prog.info? 28).map (·.size) = some (zs80.toArray).size := by kernel_rfl
/-- All but a system's four rows is as it was. -/
def SBelow (S : SyS) (w w' : World) : Prop := w'.os = w.os ∧ w'.tape = w.tape ∧ w'.output = w.output ∧ w.heap.size ≤ w'.heap.size ∧ ∀ k, k < w.heap.size → k ≠ S.gN → k ≠ S.gP → k ≠ S.bN → k ≠ S.bP → w'.heap[k]? = w.heap[k]?
section
variable {w w' w1 w2 : World} {base : Nat} {S : SyS} {d : SyD}
theorem SBelow.refl (S : SyS) (w : World) : SBelow S w w := ⟨rfl, rfl, rfl, Nat.le_refl _, fun _ _ _ _ _ _ => rfl⟩
theorem SBelow.trans (h : SBelow S w w1) (h2 : SBelow S w1 w2) : SBelow S w w2 :=
  ⟨h2.1.trans h.1, h2.2.1.trans h.2.1, h2.2.2.1.trans h.2.2.1, Nat.le_trans h.2.2.2.1 h2.2.2.2.1, fun k hk a b c e => (h2.2.2.2.2 k (Nat.lt_of_lt_of_le hk h.2.2.2.1) a b c e).trans (h.2.2.2.2 k hk a b c e)⟩
theorem SBelow.of_below (h : Below w.heap.size w w') : SBelow S w w' := ⟨h.os, h.tape, h.output, h.size, fun k hk _ _ _ _ => h.block k hk⟩
theorem SBelow.of_pages (h : PBelow w w' S.gP S.bP) : SBelow S w w' := ⟨h.1, h.2.1, h.2.2.1, h.2.2.2.1, fun k hk _ b _ e => h.2.2.2.2 k hk b e⟩
theorem SBelow.of_nodes (h : PBelow w w' S.gN S.bN) : SBelow S w w' := ⟨h.1, h.2.1, h.2.2.1, h.2.2.2.1, fun k hk a _ c _ => h.2.2.2.2 k hk a c⟩
theorem SBelow.below {N : Nat} (h : SBelow S w w') (hN : N ≤ w.heap.size) (h1 : N ≤ S.gN) (h2 : N ≤ S.gP) (h3 : N ≤ S.bN) (h4 : N ≤ S.bP) : Below N w w' :=
  ⟨h.1, h.2.1, h.2.2.1, h.2.2.2.1, fun k hk => h.2.2.2.2 k (by omega) (by omega) (by omega) (by omega) (by omega)⟩
/-- Blocks behind the start were written. -/
theorem SBelow.put (h : SBelow S w w') (b : Nat) (hb : w.heap.size ≤ b) (j : Nat) (u : Value) : SBelow S w (w'.setCell ⟨b, j, none⟩ u) :=
  ⟨h.1, h.2.1, h.2.2.1, by simpa using h.2.2.2.1, fun k hk a c e f => by rw [Below.heap_setCell _ _ _ _ (show k ≠ b by omega)]; exact h.2.2.2.2 k hk a c e f⟩
theorem SBelow.put5 (h : SBelow S w w') (b : Nat) (hb : w.heap.size ≤ b) (z0 z1 z2 z3 z4 : Value) : SBelow S w (((((w'.setCell ⟨b, 0, none⟩ z0).setCell ⟨b, 1, none⟩ z1).setCell ⟨b, 2, none⟩ z2).setCell ⟨b, 3, none⟩ z3).setCell ⟨b, 4, none⟩ z4) :=
  ((((h.put b hb 0 z0).put b hb 1 z1).put b hb 2 z2).put b hb 3 z3).put b hb 4 z4
theorem SyAt.put (h : SyAt w base S d) (b : Nat) (hb : S.x ≠ b ∧ S.gN ≠ b ∧ S.gP ≠ b ∧ S.bN ≠ b ∧ S.bP ≠ b) (j : Nat) (u : Value) : SyAt (w.setCell ⟨b, j, none⟩ u) base S d := h.far (gset5 _ _ _ _) hb
/-- The nodes' places were written. -/
theorem SyAt.slotN (h : SyAt w base S d) (i o : Nat) (hi : i < S.n) (v : Value) (ho : o < 4) (lN dN : Nat → Bool) (vN oN : Nat → Int) (hv : ∀ a b, a < S.n → b < 4 → updS (slW d.lN d.dN d.vN d.oN) i o [v] a b = slW lN dN vN oN a b) :
    SyAt (w.setCell ⟨S.gN, i * 4 + o, none⟩ v) base S { d with lN := lN, dN := dN, vN := vN, oN := oN } ∧ w.grownBy (w.setCell ⟨S.gN, i * 4 + o, none⟩ v) (some S.gN) := by
  have hs := own_setCells [v] (i * 4 + o) _ _ h.ns
  rw [flatS_over 4 _ S.n i o [v] hi (by simp; omega), flatS_congr' (by decide) hv] at hs
  have hx := hs.2.block S.x h.xl (fun e => h.ne.1 (by injection e with e; exact e.symm))
  obtain ⟨n1, n2, n3, n4, n5, n6, n7, n8, n9, n10⟩ := h.ne
  exact ⟨⟨h.xb, Nat.lt_of_lt_of_le h.xl hs.2.size, (World.cell?_of_block (a := ⟨S.x, 0, none⟩) hx).trans h.f0, (World.cell?_of_block (a := ⟨S.x, 1, none⟩) hx).trans h.f1, (World.cell?_of_block (a := ⟨S.x, 6, none⟩) hx).trans h.f6, (World.cell?_of_block (a := ⟨S.x, 7, none⟩) hx).trans h.f7, hs.1, own_ne h.ps hs.2 (Ne.symm n5), own_ne h.nd hs.2 (Ne.symm n6), own_ne h.pg hs.2 (Ne.symm n7), h.ne⟩, hs.2⟩
/-- A node's keys were written. -/
theorem SyAt.keys (h : SyAt w base S d) (i o : Nat) (hi : i < S.n) (xs : List Value) (ho : o + xs.length ≤ 80) :
    SyAt (w.setCells S.bN (i * 80 + o) xs) base S { d with wN := updS d.wN i o xs } ∧ w.grownBy (w.setCells S.bN (i * 80 + o) xs) (some S.bN) := by
  have hs := own_setCells xs (i * 80 + o) _ _ h.nd
  rw [flatS_over 80 _ S.n i o xs hi ho] at hs
  have hx := hs.2.block S.x h.xl (fun e => h.ne.2.2.1 (by injection e with e; exact e.symm))
  obtain ⟨n1, n2, n3, n4, n5, n6, n7, n8, n9, n10⟩ := h.ne
  exact ⟨⟨h.xb, Nat.lt_of_lt_of_le h.xl hs.2.size, (World.cell?_of_block (a := ⟨S.x, 0, none⟩) hx).trans h.f0, (World.cell?_of_block (a := ⟨S.x, 1, none⟩) hx).trans h.f1, (World.cell?_of_block (a := ⟨S.x, 6, none⟩) hx).trans h.f6, (World.cell?_of_block (a := ⟨S.x, 7, none⟩) hx).trans h.f7, own_ne h.ns hs.2 n6, own_ne h.ps hs.2 n8, hs.1, own_ne h.pg hs.2 (Ne.symm n10), h.ne⟩, hs.2⟩
theorem SyAt.thereN (h : SyAt w base S d) (i : Nat) (hi : i < S.n) : w.there S.bN (i * 80) 80 := fun j hj => by
  rw [h.nd.cellAt (i * 80 + j) (mid_lt hi hj), flatS_at 80 _ S.n i j hi hj]
  exact ⟨rfl, h.nd.frozenAt _⟩
theorem SyAt.nkey (h : SyAt w base S d) (i j : Nat) (hi : i < S.n) (hj : j < 80) : w.cell? ⟨S.bN, i * 80 + j, none⟩ = some (d.wN i j) := by
  rw [h.nd.cellAt (i * 80 + j) (mid_lt hi hj), flatS_at 80 _ S.n i j hi hj]
end
set_option maxRecDepth 100000 in
set_option maxHeartbeats 4000000 in
theorem smakenode0 {base : Nat} {S : SyS} {d : SyD} (j : Nat) (hj : j < S.n) (hn : S.n ≤ 256) (hyes : Hid (d.lN j = false ∧ d.dN j = false)) (hno : Hid (∀ i, i < j → (!d.lN i && !d.dN i) = false)) (w : World) (h : SyAt w base S d) :
    Calls Tryd.prog 36 #[.pointer (some ⟨S.x, 0, none⟩), .slice none 0 0] w fun e w' => e = .returned (.tuple #[.int .i64 j, .int .i64 0]) ∧ SyAt w' base S { d with lN := upd d.lN j true, wN := updS d.wN j 0 zs80 } ∧ PBelow w w' S.gN S.bN := by
  have H := Lib.hid h
  have f1 := h.f0
  have j0 : (0 : Int) ≤ j := by omega
  have j1 : (j : Int) < S.n := by omega
  have dj : decide ((j : Int) < 0) = false := decide_eq_false (by omega)
  clear h
  go_enter Tryd.func36, Tryd.ntmps36
  go_wp2_with fail
  go_loopw [6] (fun z wr => z = .int .i64 0 ∧ wr = w) (fun _ _ => 0)
  case atStart => exact ⟨rfl, rfl⟩
  case round =>
    obtain ⟨rfl, rfl⟩ := hrel
    go_wp2_with (first
      | (go_at_call 54; (with_reducible refine (take_is j hj hn hyes hno _ H.out.ns).mono ?_); rintro e w1 ⟨rfl, hb⟩; have H1 := Lib.hid (H.out.below hb); have P1 := Lib.hid (PBelow.of_below (B := S.gN) (G := S.bN) hb); have g1 := H1.out.f0; have l1 := (H1.out.nslot j hj).1; have y1 := H1.out.ns.frozenAt (j * 4); have hs2 := H1.out.slotN j 0 hj (.bool true) (by decide) (upd d.lN j true) d.dN d.vN d.oN (fun a b _ _ => slW_live _ _ _ _ j true a b); rw [Nat.add_zero] at hs2; have H2 := Lib.hid hs2.1; have P2 := Lib.hid (P1.out.trans (PBelow.of (G := S.bN) hs2.2 (.inl rfl))); have g7 := H2.out.f6; have HTh := Lib.hid (H2.out.thereN j hj); clear hb f1 hs2)
      | (refine wpList_store_mid (by rfl) _ _ _ (by rfl) S.bN (j * 80) zs80.toArray (by rfl) (by rfl) HTh.out infoZK zk_one ?_; obtain ⟨w3, hw3⟩ : ∃ w3, w3 = (w1.setCell ⟨S.gN, j * 4, none⟩ (.bool true)).setCells S.bN (j * 80) (zs80.toArray).toList := ⟨_, rfl⟩; rw [← hw3]; have hs3 := H2.out.keys j 0 hj zs80 (by rw [zs80_len]; omega); rw [Nat.add_zero, ← zk_list, ← hw3] at hs3; have H3 := Lib.hid hs3.1; have P3 := Lib.hid (P2.out.trans (PBelow.of (B := S.gN) hs3.2 (.inr rfl))); clear hw3 hs3))
    go_loopw [9] (fun z wr => z = .int .i64 0 ∧ wr = w3) (fun _ _ => 0)
    case atStart => exact ⟨rfl, rfl⟩
    case round =>
      obtain ⟨rfl, rfl⟩ := hrel
      go_wp2_with fail
      go_ret2
      exact ⟨rfl, H3.out, P3.out⟩
set_option maxRecDepth 100000 in
theorem syskey_node {base : Nat} {S : SyS} {d : SyD} (k : Nat) (hk : k < S.n) (ht : Hid (d.lN k = true)) (v : Int) (hv : Hid (d.vN k = v)) (w : World) (h : SyAt w base S d) :
    Calls Tryd.prog 37 #[.pointer (some ⟨S.x, 0, none⟩), .int .i64 2, .int .i64 k] w fun e w' => e = .returned (.agg #[.int .i64 2, .int .i64 k, .int .i64 v, .int .i64 0, .int .u32 0]) ∧ Below w.heap.size w w' := by
  have H := Lib.hid (fun o => h.below ((Below.refl _ _).alloc (Nat.le_refl _) _ : Below w.heap.size w (w.alloc o)))
  have f1 : ∀ o, (w.alloc o).cell? ⟨S.x, 0, none⟩ = some (.slice (some ⟨S.gN, 0, none⟩) S.n S.cN) := fun o => (H.out o).f0
  clear h
  go_enter Tryd.func37, Tryd.ntmps37
  go_wp2_with (first
    | (go_at_call 56; (with_reducible refine (skey_in 2 k hk ht v hv _ (H.out _).ns).mono ?_); rintro e w1 ⟨rfl, hb⟩; have HB := Lib.hid (Below.trans ((Below.refl _ _).alloc (Nat.le_refl _) _) (hb.mono (by simp))); have hc := fun b o (hb0 : b < _) => hb.cell (p := ⟨b, o, none⟩) hb0; have hf := fun b o (hb0 : b < _) => hb.frozen (p := ⟨b, o, none⟩) hb0; clear hb))
  refine bodyPost_ret (v := .agg #[.int .i64 2, .int .i64 (k : Int), .int .i64 v, .int .i64 0, .int .u32 0]) (by simp [results, Tryd.results37, go_sem, hc]) rfl ⟨rfl, ?_⟩
  exact ((((HB.out.setCell (Nat.le_refl _) _).setCell (Nat.le_refl _) _).setCell (Nat.le_refl _) _).setCell (Nat.le_refl _) _).setCell (Nat.le_refl _) _
theorem syskey_node_at {base : Nat} {S : SyS} {d : SyD} (id : Int) (k : Nat) (hid : Hid (id = k)) (hk : k < S.n) (ht : Hid (d.lN k = true)) (v : Int) (hv : Hid (d.vN k = v)) (w : World) (h : SyAt w base S d) :
    Calls Tryd.prog 37 #[.pointer (some ⟨S.x, 0, none⟩), .int .i64 2, .int .i64 id] w fun e w' => e = .returned (.agg #[.int .i64 2, .int .i64 id, .int .i64 v, .int .i64 0, .int .u32 0]) ∧ Below w.heap.size w w' := by
  rw [hid.out]
  exact syskey_node k hk ht v hv w h
/-- A tree of height 1: of its first n slots each a page. -/
def tr1 (n : Nat) (wN : Nat → Nat → Value) (wP : Nat → Nat → Int) : SyD := ⟨upd (fun _ => false) 0 true, fun _ => false, fun _ => 0, fun _ => -1, ltB n, fun _ => false, fun _ => 0, fun _ => -1, wN, wP⟩
/-- The slots of a node: the first n are pages, the rest are void. -/
def Pgs (f : Nat → Value) (n : Nat) : Prop := (∀ i, i < n → KAt f i 3 i 0 0 0) ∧ ∀ i, n ≤ i → i < 16 → KAt f i 0 0 0 0 0
theorem Pgs.zero (W : Nat → Nat → Value) : Pgs (updS W 0 0 zs80 0) 0 := by
  refine ⟨fun i hi => by omega, fun i _ hi => ?_⟩
  have h : ∀ q, q < 5 → updS W 0 0 zs80 0 (i * 5 + q) = kval q 0 := fun q hq => by
    have h1 := updS_in W 0 0 zs80 (i * 5 + q) (by rw [zs80_len]; omega)
    rw [Nat.zero_add] at h1
    rw [← zc_q i q hq]
    have h2 : zs80[i * 5 + q]? = some (zc (i * 5 + q)) := by unfold zs80; rw [List.getElem?_map, List.getElem?_range (by omega)]; rfl
    rw [h2] at h1
    exact Option.some.inj h1
  exact ⟨h 0 (by decide), h 1 (by decide), h 2 (by decide), h 3 (by decide), h 4 (by decide)⟩
theorem Pgs.next {W : Nat → Nat → Value} {n : Nat} (h : Pgs (W 0) n) (hn : n < 16) : Pgs (updS W 0 (n * 5) (k5 3 n 0 0 0) 0) (n + 1) := by
  have e : updS W 0 (n * 5) (k5 3 n 0 0 0) = updV W 0 (n * 5) (k5 3 n 0 0 0) := rfl
  rw [e]
  refine ⟨fun i hi => ?_, fun i hi h16 => updV_rest W 0 n 0 i 3 n 0 0 0 (fun e => by omega) (h.2 i (by omega) h16)⟩
  by_cases hin : i = n
  · subst hin; exact updV_key W 0 i 3 i 0 0 0
  · exact updV_rest W 0 n 0 i 3 n 0 0 0 (fun e => by omega) (h.1 i (by omega))
theorem tr1_page (k : Nat) (wN : Nat → Nat → Value) (wP wP' : Nat → Nat → Int) : { tr1 k wN wP with lP := upd (ltB k) k true, wP := wP' } = tr1 (k + 1) wN wP' := by
  unfold tr1
  simp only [ltB_s]
end Go.Proofs.YtjkbfhojjjkgnaaDoor
