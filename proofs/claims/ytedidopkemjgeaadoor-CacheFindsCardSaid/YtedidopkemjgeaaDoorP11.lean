/-
  Cb, Cb2, Tr, Cf, Cv as one.
-/
import Derived.Test.YtedidopkemjgeaaDoorP10
import Derived.Test.YtedidopkemjgeaaDoorP9
namespace Go.Proofs.YtedidopkemjgeaaDoor
open Go.ChangeShapes Go.WideShapes Go.ChangeAt Go.RowKit
set_option linter.unusedVariables false
set_option linter.unusedSimpArgs false
theorem own_take {w : World} {base E s g c n : Nat} {xs : List Value} (h : w.ownsRow base E s (.slice (some ⟨g, 0, none⟩) n c) n xs) (k : Nat) (hk : k ≤ n) : w.ownsRow base E s (.slice (some ⟨g, 0, none⟩) k c) k (xs.take (k * s)) := by
  rcases h.2 with ⟨h1, _⟩ | ⟨g', cap', cur, h1, hbg, hg, hnc, hcm, hcs, htake⟩
  · simp at h1
  · simp only [Value.slice.injEq, Option.some.injEq, Addr.mk.injEq, and_true, true_and] at h1
    obtain ⟨rfl, rfl⟩ := h1
    have hm : k * s ≤ n * s := Nat.mul_le_mul_right _ hk
    refine ⟨by rw [List.length_take, h.1]; exact Nat.min_eq_left hm, .inr ⟨g, c, cur, rfl, hbg, hg, by omega, hcm, hcs, ?_⟩⟩
    rw [← htake, List.take_take, Nat.min_eq_left hm]
theorem own_cap {w : World} {base E s g c n : Nat} {xs : List Value} (h : w.ownsRow base E s (.slice (some ⟨g, 0, none⟩) n c) n xs) : n ≤ c ∧ c ≤ maxLen := by
  rcases h.2 with ⟨h1, _⟩ | ⟨g', cap', cur, h1, hbg, hg, hnc, hcm, hcs, htake⟩
  · simp at h1
  · simp only [Value.slice.injEq, Option.some.injEq, Addr.mk.injEq, and_true, true_and] at h1
    obtain ⟨rfl, rfl⟩ := h1
    exact ⟨hnc, hcm⟩
theorem own_there {w : World} {base E s g c n : Nat} {xs : List Value} (h : w.ownsRow base E s (.slice (some ⟨g, 0, none⟩) n c) n xs) (j : Nat) (hj : j < c * s) : (w.cell? ⟨g, j, none⟩).isSome = true ∧ w.frozen? ⟨g, j, none⟩ = false := by
  refine ⟨?_, h.frozenAt j⟩
  rcases h.2 with ⟨h1, _⟩ | ⟨g', cap', cur, h1, hbg, hg, hnc, hcm, hcs, htake⟩
  · simp at h1
  · simp only [Value.slice.injEq, Option.some.injEq, Addr.mk.injEq, and_true, true_and] at h1
    obtain ⟨rfl, rfl⟩ := h1
    have hj' : j < cur.size := by rw [hcs]; exact hj
    rw [cell_of_row w g j cur _ _ hg]
    simp [hj']
theorem over_past (vs : List Value) : ∀ (xs : List Value) (o : Nat), xs.length ≤ o → over xs o vs = xs := by
  induction vs with
  | nil => intro xs o h; rfl
  | cons v vs ih => intro xs o h; unfold over; rw [List.set_eq_of_length_le h]; exact ih xs (o + 1) (by omega)
section
variable {P : Program}
theorem op_append_fits {o : Oper} {a : Act} {K : Act → World → Prop} {Q : Exit → Act → World → Prop} (w : World) (s x : Operand) (t : TypeId)
    (ho : o.op = .call { callee := .builtin .append, args := #[s, x], argTypes := #[t, t] })
    (base : Nat) (e : TypeId) (i : TypeInfo) (size : Nat) (ht : P.underlying t = some (.slice e)) (hi : P.info? e = some i) (hsize : i.size = size)
    (g n cap : Nat) (xs : List Value) (hs : a.eval s = .slice (some ⟨g, 0, none⟩) n cap) (hown : w.ownsRow base e size (.slice (some ⟨g, 0, none⟩) n cap) n xs)
    (ad : Addr) (m c : Nat) (news : List Value) (hx : a.eval x = .slice (some ad) m c) (hl : news.length = m * size) (hnews : ∀ j u, news[j]? = some u → w.cell? (ad.add j) = some u) (h1 : ∀ u ∈ news, u.oneCell' = true)
    (hroom : n + m ≤ cap)
    (h : ∀ w', w'.ownsRow base e size (.slice (some ⟨g, 0, none⟩) (n + m) cap) (n + m) (xs ++ news) → w.grownBy w' (some g) → K (a.put o.dst (.slice (some ⟨g, 0, none⟩) (n + m) cap)) w') : Oper.wp P o a w K Q := by
  obtain ⟨w', hr, h2, h3⟩ := run_append_fits (P := P) w base t o.type e i size ht hi hsize g n cap xs hown ad m c news hl hnews h1 hroom
  unfold Oper.wp execOp
  simp only [ho, resolve, invoke, builtin, Sem.run_bind, Sem.run_pure, Result.andThen_ok, List.map_toArray, List.map_cons, List.map_nil, hs, hx, hr]
  exact h w' h2 h3
end
theorem zeroWayR (w : World) : (zeroValue 110).run Tryd.prog w = .ok (.agg #[Value.int .i64 0, .int .i64 0, .int .i64 0, .int .i64 0, .int .u32 0, .int .u32 0, .int .i64 0, .int .i64 0, .bool false, .slice none 0 0]) w := by kernel_rfl
theorem zeroWay1 : (Builtin.zeroCells (Value.agg #[Value.int .i64 0, .int .i64 0, .int .i64 0, .int .i64 0, .int .u32 0, .int .u32 0, .int .i64 0, .int .i64 0, .bool false, .slice none 0 0]).cells 1).toList = (#[Value.int .i64 0, .int .i64 0, .int .i64 0, .int .i64 0, .int .u32 0, .int .u32 0, .int .i64 0, .int .i64 0, .bool false, .slice none 0 0]).toList := by kernel_rfl
theorem infoWay10 : (Tryd.prog.info? 110).map (·.size) = some 10 := by kernel_rfl
set_option maxRecDepth 100000 in
set_option maxHeartbeats 4000000 in
theorem cdelete_is {N g n c : Nat} {xs : List Value} (hn : 1 ≤ n) (hn64 : n ≤ 64) (h1c : ∀ u ∈ xs, u.oneCell' = true) (w : World) (h : w.ownsRow N 110 10 (.slice (some ⟨g, 0, none⟩) n c) n xs) :
    Calls Tryd.prog 74 #[.slice (some ⟨g, 0, none⟩) n c, .int .i64 0, .int .i64 1] w fun e w' => e = .returned (.slice (some ⟨g, 0, none⟩) (n - 1) c) ∧ w'.ownsRow N 110 10 (.slice (some ⟨g, 0, none⟩) (n - 1) c) (n - 1) (xs.drop 10) ∧ w.grownBy w' (some g) := by
  obtain ⟨i0, hi, hz0, hsz, hz2⟩ := info_parts infoWay
  have HI := Lib.hid (⟨hi, hsz⟩ : Tryd.prog.info? 110 = some i0 ∧ i0.size = 10)
  have H := Lib.hid h
  have hc := own_cap h
  have HC := Lib.hid hc
  have HN := Lib.hid (And.intro hn hn64)
  have n1 : (1 : Int) ≤ n := by omega
  have nc : (n : Int) ≤ c := by omega
  have n0 : (0 : Int) ≤ n := by omega
  have c9 : (c : Int) ≤ 9223372036854775807 := by have := hc.2; unfold maxLen at this; omega
  clear h hi hsz hz0 hz2
  go_enter Tryd.func74, Tryd.ntmps74
  go_upto_region 5 with fail
  obtain ⟨adL, hadL⟩ : ∃ adL : Addr, adL = if c = 1 then ⟨g, 0, none⟩ else ⟨g, 10, none⟩ := ⟨_, rfl⟩
  have hel : Tryd.prog.elem 103 = 110 := by kernel_rfl
  have ht : Tryd.prog.underlying 103 = some (.slice (Tryd.prog.elem 103)) := by rw [hel]; exact Tryd.underlying103
  have hsz : ∀ W, (sizeOf 110).run Tryd.prog W = .ok 10 W := fun W => by kernel_rfl
  have hsl : ∀ W, (Instr.sliceAt 103 (.slice (some ⟨g, 0, none⟩) n c) (some (.int .i64 1)) none none).run Tryd.prog W = .ok (.slice (some adL) (n - 1) (c - 1)) W := fun W => by
    rw [run_sliceAt_slice W _ _ _ _ _ ht, run_slice_l W _ _ _ _ ht .i64 1 (by omega) (by omega), hel, hsz, Result.andThen]
    unfold sliced
    rw [hadL, show ((1 : Int).toNat) = 1 from rfl]
    by_cases h : c = 1
    · rw [if_pos h, if_pos h]
    · rw [if_neg h, if_neg h]
      simp [Addr.add]
  have hs0 : ∀ W, (Instr.sliceAt 103 (.slice (some ⟨g, 0, none⟩) n c) none (some (.int .i64 0)) none).run Tryd.prog W = .ok (.slice (some ⟨g, 0, none⟩) 0 c) W := fun W => by
    rw [run_sliceAt_slice W _ _ _ _ _ ht, run_slice_h W _ _ _ _ ht .i64 0 (by omega) (by omega), hel, hsz, Result.andThen]
    unfold sliced
    simp [Addr.add]
  have HNews : Hid (∀ X, World.ownsRow X N 110 10 (.slice (some ⟨g, 0, none⟩) n c) n xs → ∀ j u, (xs.drop 10)[j]? = some u → X.cell? (adL.add j) = some u) := Lib.hid (fun X hX j u hj => by
    rw [List.getElem?_drop] at hj
    have hjl : 10 + j < n * 10 := by rw [← hX.1]; exact (List.getElem?_eq_some_iff.1 hj).1
    have hc1 : ¬ c = 1 := by have := HC.out; omega
    rw [hadL, if_neg hc1, Addr.add_mid, hX.cellAt (10 + j) hjl]
    exact hj)
  have HL : Hid ((xs.drop 10).length = (n - 1) * 10) := Lib.hid (by rw [List.length_drop, H.out.1]; omega)
  have HOne : Hid (∀ u ∈ xs.drop 10, u.oneCell' = true) := Lib.hid (fun u hu => h1c u (List.mem_of_mem_drop hu))
  clear hadL
  have HD := Lib.hid (H.out.drew)
  refine wp_region_noPanic ?_
  refine wp_region_held_drew (S := fun w' => True) (by kernel_rfl) trivial (fun hHeld => ?_)
  refine wpAnyH_take (i := 0) (v := ?_) (by rfl) (by kernel_rfl) (by kernel_rfl) (by kernel_rfl) (fun _ _ _ h => h) (Or.inl ⟨by kernel_rfl, ?_⟩) (by assumption) ?_; rotate_left 1; (focus (intro w hSw; (try dsimp only at hSw); simp only [List.getElem_toArray, List.getElem_cons_succ, List.getElem_cons_zero]; all_goals go_simp; all_goals (try with_reducible rfl))); (try simp only [Act.put, List.getElem_toArray, List.getElem_cons_succ, List.getElem_cons_zero, List.setIfInBounds_toArray, List.set_cons_zero, List.set_cons_succ])
  refine wpAnyH_take (i := 1) (v := ?_) (by rfl) (by kernel_rfl) (by kernel_rfl) (by kernel_rfl) (fun _ _ _ h => h) (Or.inl ⟨by kernel_rfl, ?_⟩) (by assumption) ?_; rotate_left 1; (focus (intro w hSw; (try dsimp only at hSw); simp only [List.getElem_toArray, List.getElem_cons_succ, List.getElem_cons_zero]; all_goals go_simp; all_goals (try with_reducible rfl))); (try simp only [Act.put, List.getElem_toArray, List.getElem_cons_succ, List.getElem_cons_zero, List.setIfInBounds_toArray, List.set_cons_zero, List.set_cons_succ])
  refine wpAnyH_take (i := 2) (v := ?_) (by rfl) (by kernel_rfl) (by kernel_rfl) (by kernel_rfl) (fun _ _ _ h => h) (Or.inl ⟨by kernel_rfl, ?_⟩) (by assumption) ?_; rotate_left 1; (focus (intro w hSw; (try dsimp only at hSw); simp only [List.getElem_toArray, List.getElem_cons_succ, List.getElem_cons_zero]; all_goals go_simp; all_goals (try with_reducible rfl))); (try simp only [Act.put, List.getElem_toArray, List.getElem_cons_succ, List.getElem_cons_zero, List.setIfInBounds_toArray, List.set_cons_zero, List.set_cons_succ])
  refine wpAnyH_take (i := 3) (v := ?_) (by rfl) (by kernel_rfl) (by kernel_rfl) (by kernel_rfl) (fun _ _ _ h => h) (Or.inl ⟨by kernel_rfl, ?_⟩) (by assumption) ?_; rotate_left 1; (focus (intro w hSw; (try dsimp only at hSw); simp only [List.getElem_toArray, List.getElem_cons_succ, List.getElem_cons_zero]; all_goals go_simp; all_goals (try with_reducible rfl))); (try simp only [Act.put, List.getElem_toArray, List.getElem_cons_succ, List.getElem_cons_zero, List.setIfInBounds_toArray, List.set_cons_zero, List.set_cons_succ])
  refine wpAnyH_take (i := 4) (v := ?_) (by rfl) (by kernel_rfl) (by kernel_rfl) (by kernel_rfl) (fun _ _ _ h => h) (Or.inl ⟨by kernel_rfl, ?_⟩) (by assumption) ?_; rotate_left 1; (focus (intro w hSw; (try dsimp only at hSw); simp only [List.getElem_toArray, List.getElem_cons_succ, List.getElem_cons_zero]; all_goals go_simp; all_goals (try with_reducible rfl))); (try simp only [Act.put, List.getElem_toArray, List.getElem_cons_succ, List.getElem_cons_zero, List.setIfInBounds_toArray, List.set_cons_zero, List.set_cons_succ])
  refine wpAnyH_take (i := 5) (v := ?_) (by rfl) (by kernel_rfl) (by kernel_rfl) (by kernel_rfl) (fun _ _ _ h => h) (Or.inl ⟨by kernel_rfl, ?_⟩) (by assumption) ?_; rotate_left 1; (focus (intro w hSw; (try dsimp only at hSw); simp only [List.getElem_toArray, List.getElem_cons_succ, List.getElem_cons_zero]; all_goals go_simp; all_goals (try with_reducible rfl))); (try simp only [Act.put, List.getElem_toArray, List.getElem_cons_succ, List.getElem_cons_zero, List.setIfInBounds_toArray, List.set_cons_zero, List.set_cons_succ])
  refine wpAnyH_ready (rs := [6]) (by kernel_rfl) (by simp) ?_; refine AllReadyH.cons (by rfl) (fun K hK => ?_) AllReadyH.nil; rw [if_pos (by kernel_rfl)]; simp only [List.getElem_toArray, List.getElem_cons_succ, List.getElem_cons_zero]
  have h00 := own_take HD.out 0 (Nat.zero_le _)
  rw [Nat.zero_mul, List.take_zero] at h00
  refine op_append_fits _ _ _ 103 (by rfl) N 110 i0 10 Tryd.underlying103 HI.out.1 HI.out.2 g 0 c [] (by rfl) h00 adL (n - 1) (c - 1) (xs.drop 10) (by rfl) HL.out (HNews.out _ HD.out) HOne.out (by have := HC.out; omega) ?_
  rw [Nat.zero_add, List.nil_append]
  intro w2 hown hg
  have H2 := Lib.hid hown
  have HG2 := Lib.hid hg
  clear hown hg h00
  refine hK.out _ _ trivial (fun hHeld => ?_)
  clear hK K
  (try simp only [Act.put, List.getElem_toArray, List.getElem_cons_succ, List.getElem_cons_zero, List.setIfInBounds_toArray, List.set_cons_zero, List.set_cons_succ])
  refine wpAnyH_take (i := 7) (v := ?_) (by rfl) (by kernel_rfl) (by kernel_rfl) (by kernel_rfl) (fun _ _ _ h => h) (Or.inl ⟨by kernel_rfl, ?_⟩) (by assumption) ?_; rotate_left 1; (focus (intro w hSw; (try dsimp only at hSw); simp only [List.getElem_toArray, List.getElem_cons_succ, List.getElem_cons_zero]; all_goals go_simp; all_goals (try with_reducible rfl))); (try simp only [Act.put, List.getElem_toArray, List.getElem_cons_succ, List.getElem_cons_zero, List.setIfInBounds_toArray, List.set_cons_zero, List.set_cons_succ])
  refine wpAnyH_done (by kernel_rfl) ?_ _
  refine NoPanic.normal ?_
  obtain ⟨m, hm⟩ : ∃ m, n - 1 = m := ⟨_, rfl⟩
  rw [hm] at H2 ⊢
  have HMn := Lib.hid hm
  have HM : Hid (n = m + 1 ∧ m + 1 ≤ c ∧ c ≤ maxLen) := Lib.hid (by have := HC.out; omega)
  clear hm hsl hs0
  have m0 : (0 : Int) ≤ m := by omega
  have m1 : (m : Int) ≤ n := by have := HM.out; omega
  have hs2 : ∀ W, (Instr.sliceAt 103 (.slice (some ⟨g, 0, none⟩) m c) (some (.int .i64 m)) (some (.int .i64 n)) none).run Tryd.prog W = .ok (.slice (some ⟨g, m * 10, none⟩) 1 (c - m)) W := fun W => by
    rw [run_sliceAt_slice W _ _ _ _ _ ht, run_slice_lh W _ _ _ _ ht .i64 .i64 m n (by omega) (by omega) (by omega), hel, hsz, Result.andThen]
    unfold sliced
    rw [if_neg (by have := HM.out; omega), show ((m : Int).toNat) = m by omega, show ((n : Int).toNat) = n by omega, show n - m = 1 by have := HM.out; omega]
    simp [Addr.add]
    exact fun h => h.symm
  have hth : ∀ j, j < 10 → (World.cell? w2 ⟨g, m * 10 + j, none⟩).isSome = true ∧ World.frozen? w2 ⟨g, m * 10 + j, none⟩ = false := fun j hj => own_there H2.out (m * 10 + j) (by have := HM.out; omega)
  have hst := own_setCells (#[Value.int .i64 0, .int .i64 0, .int .i64 0, .int .i64 0, .int .u32 0, .int .u32 0, .int .i64 0, .int .i64 0, .bool false, .slice none 0 0]).toList (m * 10) _ _ H2.out
  rw [over_past _ _ _ (by rw [H2.out.1]; exact Nat.le_refl _)] at hst
  have hrc := fun ty => run_clear_wide (P := Tryd.prog) w2 103 110 ty (.agg #[Value.int .i64 0, .int .i64 0, .int .i64 0, .int .i64 0, .int .u32 0, .int .u32 0, .int .i64 0, .int .i64 0, .bool false, .slice none 0 0]) Tryd.underlying103 zeroWayR g (m * 10) 1 (c - m) (by decide) (#[Value.int .i64 0, .int .i64 0, .int .i64 0, .int .i64 0, .int .u32 0, .int .u32 0, .int .i64 0, .int .i64 0, .bool false, .slice none 0 0]).toList zeroWay1 (fun j hj => (hth j (by simpa using hj)).1) (fun j hj => (hth j (by simpa using hj)).2) (by simp [Value.oneCell'])
  obtain ⟨w3, hw3⟩ : ∃ w3, w3 = w2.setCells g (m * 10) (#[Value.int .i64 0, .int .i64 0, .int .i64 0, .int .i64 0, .int .u32 0, .int .u32 0, .int .i64 0, .int .i64 0, .bool false, .slice none 0 0]).toList := ⟨_, rfl⟩
  rw [← hw3] at hst
  have H3 := Lib.hid hst.1
  have HG3 := Lib.hid hst.2
  have hcl : ∀ ty, (Builtin.clear_ #[103] ty #[.slice (some ⟨g, m * 10, none⟩) 1 (c - m)]).run Tryd.prog w2 = .ok (.tuple #[]) w3 := fun ty => by rw [hw3]; exact hrc ty
  clear hst hw3 hrc hth hel ht hsz
  go_wp2_with fail
  go_ret
  rw [HMn.out]
  refine ⟨rfl, H3.out, ?_⟩
  have g0 : w.grownBy w.drew (some g) := ⟨rfl, rfl, rfl, Nat.le_refl _, fun k _ _ => rfl⟩
  exact grown_chain (grown_chain g0 HG2.out) HG3.out
theorem KeepB.trans {w w1 w2 : World} {cb : Nat} {v v1 : Value} (h : KeepB w w1 cb v) (h2 : KeepB w1 w2 cb v1) (e : v1.ownBlock = v.ownBlock) : KeepB w w2 cb v :=
  ⟨Nat.le_trans h.1 h2.1, fun k hk hkc hkv => (h2.2 k (Nat.lt_of_lt_of_le hk h.1) hkc (by rw [e]; exact hkv)).trans (h.2 k hk hkc hkv)⟩
theorem KeepB.refl (w : World) (cb : Nat) (v : Value) : KeepB w w cb v := ⟨Nat.le_refl _, fun _ _ _ _ => rfl⟩
theorem KeepB.of_below {w w1 : World} {cb : Nat} {v : Value} (h : Below w.heap.size w w1) : KeepB w w1 cb v := ⟨h.size, fun k hk _ _ => h.block k hk⟩
/-- What stays when one more comes. -/
def stay (E : List EW) (full : Bool) : List EW := if full then E.tail else E
theorem ewCells_tail (E : List EW) : (ewCells E).drop 10 = ewCells E.tail := by
  cases E with
  | nil => rfl
  | cons e E => show (e.cs ++ ewCells E).drop 10 = ewCells E; exact List.drop_left' e.cs_len
theorem ewCells_one (E : List EW) : ∀ u ∈ ewCells E, u.oneCell' = true := by
  intro u hu
  obtain ⟨e, _, he⟩ := List.mem_flatMap.1 hu
  exact ew_one e u he
/-- The eldest went. -/
theorem cache_cut {w w2 : World} {N cb : Nat} {size hits : Int} {g n c : Nat} {E : List EW} (h : CacheAt w N cb size hits (.slice (some ⟨g, 0, none⟩) n c) E) (hn : E.length = n) (hown : w2.ownsRow N 110 10 (.slice (some ⟨g, 0, none⟩) (n - 1) c) (n - 1) ((ewCells E).drop 10)) (hg : w.grownBy w2 (some g)) :
    CacheAt (w2.setCell ⟨cb, 2, none⟩ (.slice (some ⟨g, 0, none⟩) (n - 1) c)) N cb size hits (.slice (some ⟨g, 0, none⟩) (n - 1) c) E.tail ∧ Below N w (w2.setCell ⟨cb, 2, none⟩ (.slice (some ⟨g, 0, none⟩) (n - 1) c)) ∧ KeepB w (w2.setCell ⟨cb, 2, none⟩ (.slice (some ⟨g, 0, none⟩) (n - 1) c)) cb (.slice (some ⟨g, 0, none⟩) n c) := by
  have hgc : g ≠ cb := fun e => h.ne (by rw [e]; rfl)
  have hcb : w2.heap[cb]? = w.heap[cb]? := hg.block cb h.cl (fun e => hgc (by injection e with e; exact e.symm))
  have hgl := h.row.lt g rfl
  have keep : ∀ k, k < w.heap.size → k ≠ cb → (Value.slice (some ⟨g, 0, none⟩) n c).ownBlock ≠ some k → (w2.setCell ⟨cb, 2, none⟩ (.slice (some ⟨g, 0, none⟩) (n - 1) c)).heap[k]? = w.heap[k]? := fun k hk hkc hkv => by
    rw [Below.heap_setCell _ _ _ _ (show k ≠ cb from hkc)]
    exact hg.block k hk (fun e => hkv e.symm)
  have hl : E.tail.length = n - 1 := by rw [List.length_tail, hn]
  have hb : Below N w w2 := (Below.refl w.heap.size w).mono (Nat.le_of_lt (Nat.lt_of_le_of_lt h.nb h.cl)) |>.grown hg (Nat.le_of_lt (Nat.lt_of_le_of_lt h.nb h.cl)) (fun x hx => by injection hx with hx; rw [← hx]; exact hgl.1)
  refine ⟨⟨h.nb, ?_, ?_, ?_, ?_, ?_, ?_, fun e => hgc (by injection e), ?_⟩, hb.setCell h.nb _, ⟨by simpa using hg.size, keep⟩⟩
  · have := hg.size; have := h.cl; simp; omega
  · rw [World.cell?_setCell_other _ _ _ _ (by simp)]; exact (World.cell?_of_block (a := ⟨cb, 0, none⟩) hcb).trans h.c0
  · rw [World.cell?_setCell_other _ _ _ _ (by simp)]; exact (World.cell?_of_block (a := ⟨cb, 1, none⟩) hcb).trans h.c1
  · exact World.cell?_setCell_same _ _ _ ((World.cell?_of_block (a := ⟨cb, 2, none⟩) hcb).trans h.c2)
  · intro j; rw [World.frozen?_setCell]; exact (World.frozen?_of_block (a := ⟨cb, j, none⟩) hcb).trans (h.fr j)
  · rw [hl]
    rw [ewCells_tail] at hown
    exact row_same' hown (fun x hx => Below.heap_setCell _ _ _ _ (show x ≠ cb from fun e => hgc (by injection hx with hx; rw [← e, ← hx])))
  · intro e he i hi
    obtain ⟨g', o, a1, a2, a3, a4, a5, a6⟩ := h.nd e (List.mem_of_mem_tail he) i hi
    exact ⟨g', o, a1, a2, by have := hg.size; simp; omega, a4, a5, (World.cell?_of_block (a := ⟨g', o + i, none⟩) (keep g' a3 a4 a5)).trans a6⟩
theorem NodesIn.keep {w w' : World} {N cb : Nat} {v v' : Value} {d : EW} (h : NodesIn w N cb v d) (hk : KeepB w w' cb v) (e : v'.ownBlock = v.ownBlock) : NodesIn w' N cb v' d := fun i hi => by
  obtain ⟨g, o, a1, a2, a3, a4, a5, a6⟩ := h i hi
  exact ⟨g, o, a1, a2, Nat.lt_of_lt_of_le a3 hk.1, a4, by rw [e]; exact a5, (World.cell?_of_block (a := ⟨g, o + i, none⟩) (hk.2 g a3 a4 a5)).trans a6⟩
set_option maxRecDepth 100000 in
set_option maxHeartbeats 8000000 in
theorem cremember_any {N cb : Nat} {size hits : Int} {v : Value} {E : List EW} (d : EW) (n0 : Nat) (full : Bool) (hn : Hid (E.length = n0)) (hlt : Hid ((n0 : Int) ≤ size ∧ 1 ≤ size)) (hful : ((n0 : Int) == size) = full) (hn64 : n0 ≤ 64) (w : World) (h : CacheAt w N cb size hits v E) (hd : NodesIn w N cb v d) (hN : N ≤ w.heap.size) :
    Calls Tryd.prog 44 #[.pointer (some ⟨cb, 0, none⟩), (Value.agg #[.int .i64 d.k0, .int .i64 d.k1, .int .i64 d.k2, .int .i64 d.k3, .int .u32 d.k4, .int .u32 d.sh, .int .i64 d.pg, .int .i64 d.at_, .bool d.ro, .slice d.na d.ids.length d.nc])] w fun e w' => e = .returned (.tuple #[]) ∧ ∃ v', CacheAt w' N cb size hits v' (stay E full ++ [d]) ∧ Below N w w' ∧ KeepB w w' cb v ∧ (v'.ownBlock = v.ownBlock ∨ ∃ g, w.heap.size ≤ g ∧ v'.ownBlock = some g) := by
  obtain ⟨i0, hi, hz0, hz1, hz2⟩ := info_parts infoWay
  have HI := Lib.hid (⟨hi, hz0, hz1, hz2⟩ : Tryd.prog.info? 110 = some i0 ∧ i0.zero = some (.agg #[.int .i64 0, .int .i64 0, .int .i64 0, .int .i64 0, .int .u32 0, .int .u32 0, .int .i64 0, .int .i64 0, .bool false, .slice none 0 0]) ∧ i0.size = 10 ∧ i0.bytes = 96)
  have H := Lib.hid h
  have HD := Lib.hid hd
  have HN := Lib.hid hN
  obtain ⟨va0, vc0, hv⟩ := h.shape
  rw [hn.out] at hv
  have HV := Lib.hid hv
  subst hv
  have n00 : (0 : Int) ≤ n0 := by omega
  clear h hd hN hi hz0 hz1 hz2
  go_enter Tryd.func44, Tryd.ntmps44
  go_upto_region 1 with fail
  obtain ⟨wB, hwB⟩ : ∃ wB, wB = w.alloc (.cells #[.int .i64 d.k0, .int .i64 d.k1, .int .i64 d.k2, .int .i64 d.k3, .int .u32 d.k4, .int .u32 d.sh, .int .i64 d.pg, .int .i64 d.at_, .bool d.ro, .slice d.na d.ids.length d.nc] 110 (0, 0)) := ⟨_, rfl⟩
  rw [← hwB]
  have HB : Hid (Below w.heap.size w wB) := Lib.hid (by rw [hwB]; exact (Below.refl _ _).alloc (Nat.le_refl _) _)
  have HW : Hid (WayAt wB w.heap.size d) := Lib.hid (by rw [hwB]; exact WayAt.new _ _ _)
  have H1 := Lib.hid (H.out.below HB.out)
  have HBX : Hid (w.heap.size ≠ cb) := Lib.hid (by have := H.out.cl; omega)
  have HOF0 : Hid ((Value.slice va0 n0 vc0).ownBlock ≠ some w.heap.size) := Lib.hid (fun e => by have := (H.out.row.lt _ e).2; omega)
  obtain ⟨bx, hbx⟩ : ∃ bx, Hid (w.heap.size = bx) := ⟨_, Lib.hid rfl⟩
  clear hwB
  rw [hbx.out] at HW HBX HOF0 ⊢
  refine wp_region_noPanic ?_
  refine wp_region_held_drew (S := fun w' => World.cell? w' ⟨cb, 0, none⟩ = some (.int .i64 size) ∧ World.cell? w' ⟨cb, 2, none⟩ = some (.slice va0 n0 vc0)) (by kernel_rfl) ⟨(H1.out.below (Below.refl _ _).drew).c0, (H1.out.below (Below.refl _ _).drew).c2⟩ (fun hHeld => ?_)
  refine wpAnyH_take (i := 0) (v := ?_) (by rfl) (by kernel_rfl) (by kernel_rfl) (by kernel_rfl) (fun _ _ _ h => h) (Or.inl ⟨by kernel_rfl, ?_⟩) (by assumption) ?_; rotate_left 1; (focus (intro w hSw; (try dsimp only at hSw); simp only [List.getElem_toArray, List.getElem_cons_succ, List.getElem_cons_zero]; all_goals go_simp; all_goals (try with_reducible rfl))); (try simp only [Act.put, List.getElem_toArray, List.getElem_cons_succ, List.getElem_cons_zero, List.setIfInBounds_toArray, List.set_cons_zero, List.set_cons_succ])
  refine wpAnyH_take (i := 1) (v := ?_) (by rfl) (by kernel_rfl) (by kernel_rfl) (by kernel_rfl) (fun _ _ _ h => h) (Or.inl ⟨by kernel_rfl, ?_⟩) (by assumption) ?_; rotate_left 1; (focus (intro w hSw; (try dsimp only at hSw); simp only [List.getElem_toArray, List.getElem_cons_succ, List.getElem_cons_zero]; all_goals go_simp; all_goals (try with_reducible rfl))); (try simp only [Act.put, List.getElem_toArray, List.getElem_cons_succ, List.getElem_cons_zero, List.setIfInBounds_toArray, List.set_cons_zero, List.set_cons_succ])
  refine wpAnyH_take (i := 2) (v := ?_) (by rfl) (by kernel_rfl) (by kernel_rfl) (by kernel_rfl) (fun _ _ _ h => h) (Or.inl ⟨by kernel_rfl, ?_⟩) (by assumption) ?_; rotate_left 1; (focus (intro w hSw; (try dsimp only at hSw); simp only [List.getElem_toArray, List.getElem_cons_succ, List.getElem_cons_zero]; all_goals go_simp; all_goals (try with_reducible rfl))); (try simp only [Act.put, List.getElem_toArray, List.getElem_cons_succ, List.getElem_cons_zero, List.setIfInBounds_toArray, List.set_cons_zero, List.set_cons_succ])
  refine wpAnyH_take (i := 3) (v := ?_) (by rfl) (by kernel_rfl) (by kernel_rfl) (by kernel_rfl) (fun _ _ _ h => h) (Or.inl ⟨by kernel_rfl, ?_⟩) (by assumption) ?_; rotate_left 1; (focus (intro w hSw; (try dsimp only at hSw); simp only [List.getElem_toArray, List.getElem_cons_succ, List.getElem_cons_zero]; all_goals go_simp; all_goals (try with_reducible rfl))); (try simp only [Act.put, List.getElem_toArray, List.getElem_cons_succ, List.getElem_cons_zero, List.setIfInBounds_toArray, List.set_cons_zero, List.set_cons_succ])
  refine wpAnyH_take (i := 4) (v := ?_) (by rfl) (by kernel_rfl) (by kernel_rfl) (by kernel_rfl) (fun _ _ _ h => h) (Or.inl ⟨by kernel_rfl, ?_⟩) (by assumption) ?_; rotate_left 1; (focus (intro w hSw; (try dsimp only at hSw); simp only [List.getElem_toArray, List.getElem_cons_succ, List.getElem_cons_zero]; all_goals go_simp; all_goals (try with_reducible rfl))); (try simp only [Act.put, List.getElem_toArray, List.getElem_cons_succ, List.getElem_cons_zero, List.setIfInBounds_toArray, List.set_cons_zero, List.set_cons_succ])
  refine wpAnyH_take (i := 5) (v := ?_) (by rfl) (by kernel_rfl) (by kernel_rfl) (by kernel_rfl) (fun _ _ _ h => h) (Or.inl ⟨by kernel_rfl, ?_⟩) (by assumption) ?_; rotate_left 1; (focus (intro w hSw; (try dsimp only at hSw); simp only [List.getElem_toArray, List.getElem_cons_succ, List.getElem_cons_zero]; all_goals go_simp; all_goals (try with_reducible rfl))); (try simp only [Act.put, List.getElem_toArray, List.getElem_cons_succ, List.getElem_cons_zero, List.setIfInBounds_toArray, List.set_cons_zero, List.set_cons_succ])
  refine wpAnyH_take (i := 6) (v := ?_) (by rfl) (by kernel_rfl) (by kernel_rfl) (by kernel_rfl) (fun _ _ _ h => h) (Or.inl ⟨by kernel_rfl, ?_⟩) (by assumption) ?_; rotate_left 1; (focus (intro w hSw; (try dsimp only at hSw); simp only [List.getElem_toArray, List.getElem_cons_succ, List.getElem_cons_zero]; all_goals go_simp; all_goals (try with_reducible rfl))); (try simp only [Act.put, List.getElem_toArray, List.getElem_cons_succ, List.getElem_cons_zero, List.setIfInBounds_toArray, List.set_cons_zero, List.set_cons_succ])
  refine wpAnyH_take (i := 7) (v := ?_) (by rfl) (by kernel_rfl) (by kernel_rfl) (by kernel_rfl) (fun _ _ _ h => h) (Or.inl ⟨by kernel_rfl, ?_⟩) (by assumption) ?_; rotate_left 1; (focus (intro w hSw; (try dsimp only at hSw); simp only [List.getElem_toArray, List.getElem_cons_succ, List.getElem_cons_zero]; all_goals go_simp; all_goals (try with_reducible rfl))); (try simp only [Act.put, List.getElem_toArray, List.getElem_cons_succ, List.getElem_cons_zero, List.setIfInBounds_toArray, List.set_cons_zero, List.set_cons_succ])
  refine wpAnyH_take (i := 8) (v := ?_) (by rfl) (by kernel_rfl) (by kernel_rfl) (by kernel_rfl) (fun _ _ _ h => h) (Or.inl ⟨by kernel_rfl, ?_⟩) (by assumption) ?_; rotate_left 1; (focus (intro w hSw; (try dsimp only at hSw); simp only [List.getElem_toArray, List.getElem_cons_succ, List.getElem_cons_zero]; all_goals go_simp; all_goals (try with_reducible rfl))); (try simp only [Act.put, List.getElem_toArray, List.getElem_cons_succ, List.getElem_cons_zero, List.setIfInBounds_toArray, List.set_cons_zero, List.set_cons_succ])
  refine wpAnyH_take (i := 9) (v := ?_) (by rfl) (by kernel_rfl) (by kernel_rfl) (by kernel_rfl) (fun _ _ _ h => h) (Or.inl ⟨by kernel_rfl, ?_⟩) (by assumption) ?_; rotate_left 1; (focus (intro w hSw; (try dsimp only at hSw); simp only [List.getElem_toArray, List.getElem_cons_succ, List.getElem_cons_zero]; all_goals go_simp; all_goals (try with_reducible rfl))); (try simp only [Act.put, List.getElem_toArray, List.getElem_cons_succ, List.getElem_cons_zero, List.setIfInBounds_toArray, List.set_cons_zero, List.set_cons_succ])
  refine wpAnyH_done (by kernel_rfl) ?_ _
  refine NoPanic.normal ?_
  have HD1 := Lib.hid (H1.out.below (Below.refl wB.heap.size wB).drew)
  have HWD := Lib.hid (HW.out.below (Below.refl wB.heap.size wB).drew)
  have HBD := Lib.hid (HB.out.drew)
  clear HB HW H1
  go_upto_if 13 with fail
  go_cut [] (fun wC => ∃ (va : Option Addr) (n vc : Nat) (E1 : List EW), Hid (E1 = stay E full) ∧ Hid (E1.length = n) ∧ n ≤ 64 ∧ CacheAt wC N cb size hits (.slice va n vc) E1 ∧ WayAt wC bx d ∧ Below N w wC ∧ KeepB w wC cb (.slice va0 n0 vc0) ∧ (Value.slice va n vc).ownBlock = (Value.slice va0 n0 vc0).ownBlock)
  case first =>
    cases full
    · go_wp2_with fail
      go_meet
      exact ⟨va0, n0, vc0, E, Lib.hid rfl, hn, hn64, HD1.out, HWD.out, HBD.out.mono HN.out, KeepB.of_below HBD.out, rfl⟩
    · have hsz : (n0 : Int) = size := by simpa using hful
      have hn1 : 1 ≤ n0 := by have := hlt.out.2; omega
      obtain ⟨g, cc, hgv⟩ := HD1.out.row1 (by rw [hn.out]; omega)
      simp only [Value.slice.injEq] at hgv
      obtain ⟨rfl, -, -⟩ := hgv
      have HRow : Hid (World.ownsRow wB.drew N 110 10 (.slice (some ⟨g, 0, none⟩) n0 vc0) n0 (ewCells E)) := Lib.hid (by have := HD1.out.row; rw [hn.out] at this; exact this)
      have q2 := HD1.out.c2
      have HSZ := Lib.hid hsz
      clear hsz hful
      go_wp2_with (first | (go_at_call 74; (with_reducible refine (cdelete_is hn1 hn64 (ewCells_one E) _ HRow.out).mono ?_); rintro e w2 ⟨rfl, hown, hg⟩; have HC2 := Lib.hid (cache_cut HD1.out hn.out hown hg); have hcb : w2.heap[cb]? = wB.drew.heap[cb]? := (hg.block cb HD1.out.cl (fun e => HD1.out.ne e.symm)); have q2 := (World.cell?_of_block (a := ⟨cb, 2, none⟩) hcb).trans HD1.out.c2; have qf := (World.frozen?_of_block (a := ⟨cb, 2, none⟩) hcb).trans (HD1.out.fr 2); clear hown hg hcb))
      go_meet
      have hk := HC2.out.2.2
      have hk0 : KeepB w _ cb (.slice (some ⟨g, 0, none⟩) n0 vc0) := (KeepB.of_below HBD.out).trans hk rfl
      exact ⟨_, _, _, E.tail, Lib.hid rfl, Lib.hid (by rw [List.length_tail, hn.out]), by omega, HC2.out.1, HWD.out.same hk.1 (hk.2 _ HWD.out.lt HBX.out HOF0.out), (HBD.out.mono HN.out).trans HC2.out.2.1, hk0, rfl⟩
  case rest =>
    obtain ⟨va, n, vc, E1, hE1, hn1, hn64', h2, hw2, hbn, hkb, hob⟩ := hcut
    have H2 := Lib.hid h2
    have HW2 := Lib.hid hw2
    have HBN := Lib.hid hbn
    have HKB := Lib.hid hkb
    have HOB := Lib.hid hob
    have HOF : Hid ((Value.slice va n vc).ownBlock ≠ some bx) := Lib.hid (by rw [hob]; exact HOF0.out)
    have HDC : Hid (NodesIn wc N cb (.slice va n vc) d) := Lib.hid (HD.out.keep hkb hob)
    have HNC : Hid (N ≤ wc.heap.size) := Lib.hid (Nat.le_trans HN.out hkb.1)
    clear h2 hw2 hbn hkb hob HD1 HWD HBD
    go_upto_region 3 with fail
    have HRow : Hid (World.ownsRow ((wc.alloc (.cells #[.int .i64 d.k0, .int .i64 d.k1, .int .i64 d.k2, .int .i64 d.k3, .int .u32 d.k4, .int .u32 d.sh, .int .i64 d.pg, .int .i64 d.at_, .bool d.ro, .slice d.na d.ids.length d.nc] 110 (0, 0))).drew) N 110 10 (.slice va n vc) n (ewCells E1)) := Lib.hid (by rw [← hn1.out]; have := (H2.out.below (((Below.refl _ _).alloc (Nat.le_refl _) _ : Below wc.heap.size wc (wc.alloc (.cells #[.int .i64 d.k0, .int .i64 d.k1, .int .i64 d.k2, .int .i64 d.k3, .int .u32 d.k4, .int .u32 d.sh, .int .i64 d.pg, .int .i64 d.at_, .bool d.ro, .slice d.na d.ids.length d.nc] 110 (0, 0)))).drew)).row; rw [← hn1.out] at this; exact this)
    have HNew : Hid (∀ j u, d.cs[j]? = some u → World.cell? ((wc.alloc (.cells #[.int .i64 d.k0, .int .i64 d.k1, .int .i64 d.k2, .int .i64 d.k3, .int .u32 d.k4, .int .u32 d.sh, .int .i64 d.pg, .int .i64 d.at_, .bool d.ro, .slice d.na d.ids.length d.nc] 110 (0, 0))).drew) (Addr.add ⟨wc.heap.size, 0, none⟩ j) = some u) := Lib.hid (fun j u hj => ew_new wc d _ j u hj)
    refine wp_region_noPanic ?_
    refine wp_region_held_drew (S := fun w' => (World.cell? w' ⟨bx, 0, none⟩ = some (.int .i64 d.k0) ∧ World.cell? w' ⟨bx, 1, none⟩ = some (.int .i64 d.k1) ∧ World.cell? w' ⟨bx, 2, none⟩ = some (.int .i64 d.k2) ∧ World.cell? w' ⟨bx, 3, none⟩ = some (.int .i64 d.k3) ∧ World.cell? w' ⟨bx, 4, none⟩ = some (.int .u32 d.k4) ∧ World.cell? w' ⟨bx, 5, none⟩ = some (.int .u32 d.sh) ∧ World.cell? w' ⟨bx, 6, none⟩ = some (.int .i64 d.pg) ∧ World.cell? w' ⟨bx, 7, none⟩ = some (.int .i64 d.at_) ∧ World.cell? w' ⟨bx, 8, none⟩ = some (.bool d.ro) ∧ World.cell? w' ⟨bx, 9, none⟩ = some (.slice d.na d.ids.length d.nc))) (by kernel_rfl) (HW2.out.below (Below.refl _ _).drew).all (fun hHeld => ?_)
    refine wpAnyH_take (i := 0) (v := ?_) (by rfl) (by kernel_rfl) (by kernel_rfl) (by kernel_rfl) (fun _ _ _ h => h) (Or.inl ⟨by kernel_rfl, ?_⟩) (by assumption) ?_; rotate_left 1; (focus (intro w hSw; (try dsimp only at hSw); simp only [List.getElem_toArray, List.getElem_cons_succ, List.getElem_cons_zero]; all_goals go_simp; all_goals (try with_reducible rfl))); (try simp only [Act.put, List.getElem_toArray, List.getElem_cons_succ, List.getElem_cons_zero, List.setIfInBounds_toArray, List.set_cons_zero, List.set_cons_succ])
    refine wpAnyH_take (i := 1) (v := ?_) (by rfl) (by kernel_rfl) (by kernel_rfl) (by kernel_rfl) (fun _ _ _ h => h) (Or.inl ⟨by kernel_rfl, ?_⟩) (by assumption) ?_; rotate_left 1; (focus (intro w hSw; (try dsimp only at hSw); simp only [List.getElem_toArray, List.getElem_cons_succ, List.getElem_cons_zero]; all_goals go_simp; all_goals (try with_reducible rfl))); (try simp only [Act.put, List.getElem_toArray, List.getElem_cons_succ, List.getElem_cons_zero, List.setIfInBounds_toArray, List.set_cons_zero, List.set_cons_succ])
    refine wpAnyH_take (i := 2) (v := ?_) (by rfl) (by kernel_rfl) (by kernel_rfl) (by kernel_rfl) (fun _ _ _ h => h) (Or.inl ⟨by kernel_rfl, ?_⟩) (by assumption) ?_; rotate_left 1; (focus (intro w hSw; (try dsimp only at hSw); simp only [List.getElem_toArray, List.getElem_cons_succ, List.getElem_cons_zero]; all_goals go_simp; all_goals (try with_reducible rfl))); (try simp only [Act.put, List.getElem_toArray, List.getElem_cons_succ, List.getElem_cons_zero, List.setIfInBounds_toArray, List.set_cons_zero, List.set_cons_succ])
    refine wpAnyH_take (i := 3) (v := ?_) (by rfl) (by kernel_rfl) (by kernel_rfl) (by kernel_rfl) (fun _ _ _ h => h) (Or.inl ⟨by kernel_rfl, ?_⟩) (by assumption) ?_; rotate_left 1; (focus (intro w hSw; (try dsimp only at hSw); simp only [List.getElem_toArray, List.getElem_cons_succ, List.getElem_cons_zero]; all_goals go_simp; all_goals (try with_reducible rfl))); (try simp only [Act.put, List.getElem_toArray, List.getElem_cons_succ, List.getElem_cons_zero, List.setIfInBounds_toArray, List.set_cons_zero, List.set_cons_succ])
    refine wpAnyH_take (i := 5) (v := ?_) (by rfl) (by kernel_rfl) (by kernel_rfl) (by kernel_rfl) (fun _ _ _ h => h) (Or.inl ⟨by kernel_rfl, ?_⟩) (by assumption) ?_; rotate_left 1; (focus (intro w hSw; (try dsimp only at hSw); simp only [List.getElem_toArray, List.getElem_cons_succ, List.getElem_cons_zero]; all_goals go_simp; all_goals (try with_reducible rfl))); (try simp only [Act.put, List.getElem_toArray, List.getElem_cons_succ, List.getElem_cons_zero, List.setIfInBounds_toArray, List.set_cons_zero, List.set_cons_succ])
    refine wpAnyH_ready (rs := [4, 6]) (by kernel_rfl) (by simp) ?_
    refine AllReadyH.cons (by rfl) (fun K hK => ?_) (AllReadyH.cons (by rfl) (fun K hK => ?_) AllReadyH.nil)
    · skip
      rw [if_pos (by kernel_rfl)]
      simp only [List.getElem_toArray, List.getElem_cons_succ, List.getElem_cons_zero]
      have q2 := (H2.out.below (Below.refl wc.heap.size wc).drew).c2
      go_wp2_with fail
      refine hK.out _ _ (HW2.out.below (Below.refl _ _).drew).all (fun hHeld => ?_)
      clear hK K q2
      (try simp only [Act.put, List.getElem_toArray, List.getElem_cons_succ, List.getElem_cons_zero, List.setIfInBounds_toArray, List.set_cons_zero, List.set_cons_succ])
      refine wpAnyH_ready (rs := [6]) (by kernel_rfl) (by simp) ?_; refine AllReadyH.cons (by rfl) (fun K hK => ?_) AllReadyH.nil; rw [if_pos (by kernel_rfl)]; simp only [List.getElem_toArray, List.getElem_cons_succ, List.getElem_cons_zero]
      go_wp2_with fail
      refine hK.out _ _ (HW2.out.below (((Below.refl _ _).alloc (Nat.le_refl _) _ : Below wc.heap.size wc _).drew)).all (fun hHeld => ?_)
      clear hK K
      (try simp only [Act.put, List.getElem_toArray, List.getElem_cons_succ, List.getElem_cons_zero, List.setIfInBounds_toArray, List.set_cons_zero, List.set_cons_succ])
      refine wpAnyH_ready (rs := [7]) (by kernel_rfl) (by simp) ?_
      refine AllReadyH.cons (by rfl) (fun K hK => ?_) AllReadyH.nil
      rw [if_pos (by kernel_rfl)]
      simp only [List.getElem_toArray, List.getElem_cons_succ, List.getElem_cons_zero]
      refine op_append_own _ _ _ 103 (by rfl) N 110 i0 _ 10 96 Tryd.underlying103 HI.out.1 HI.out.2.1 HI.out.2.2.1 HI.out.2.2.2 (by rfl) (by decide) (.slice va n vc) n (ewCells E1) (by rfl) HRow.out ⟨wc.heap.size, 0, none⟩ 1 1 d.cs (by rfl) rfl (HNew.out) (ew_one d) (by unfold maxLen; omega) (by omega) (by have := HNC.out; simp; omega) ?_
      intro v' w9 hown hgrow hloc
      obtain ⟨vb, vd, rfl⟩ := own_shape' hown
      have HOW := Lib.hid hown
      have HGR := Lib.hid hgrow
      have HLC : Hid ((Value.slice vb (n + 1) vd).ownBlock = (Value.slice va n vc).ownBlock ∨ _) := Lib.hid hloc
      have hbx : w9.heap[bx]? = wc.heap[bx]? := by
        rw [HGR.out.block _ (by have := HW2.out.lt; simp; omega) (fun e => HOF.out (by rw [← e]))]
        exact ((((Below.refl _ _).alloc (Nat.le_refl _) _ : Below wc.heap.size wc _)).drew).block _ HW2.out.lt
      have hcb : w9.heap[cb]? = wc.heap[cb]? := by
        rw [HGR.out.block _ (by have := H2.out.cl; simp; omega) (fun e => H2.out.ne (by rw [← e]))]
        exact ((((Below.refl _ _).alloc (Nat.le_refl _) _ : Below wc.heap.size wc _)).drew).block _ H2.out.cl
      have HW9 := Lib.hid (HW2.out.same (by have := HGR.out.size; simp at this; omega) hbx)
      have q2 := (World.cell?_of_block (a := ⟨cb, 2, none⟩) hcb).trans H2.out.c2
      have qf := (World.frozen?_of_block (a := ⟨cb, 2, none⟩) hcb).trans (H2.out.fr 2)
      have HCB := Lib.hid hcb
      clear hown hgrow hloc hbx hcb
      refine hK.out _ _ HW9.out.all (fun hHeld => ?_)
      clear hK K
      (try simp only [Act.put, List.getElem_toArray, List.getElem_cons_succ, List.getElem_cons_zero, List.setIfInBounds_toArray, List.set_cons_zero, List.set_cons_succ])
      refine wpAnyH_take (i := 8) (v := ?_) (by rfl) (by kernel_rfl) (by kernel_rfl) (by kernel_rfl) (fun _ _ _ h => h) (Or.inl ⟨by kernel_rfl, ?_⟩) (by assumption) ?_; rotate_left 1; (focus (intro w hSw; (try dsimp only at hSw); simp only [List.getElem_toArray, List.getElem_cons_succ, List.getElem_cons_zero]; all_goals go_simp; all_goals (try with_reducible rfl))); (try simp only [Act.put, List.getElem_toArray, List.getElem_cons_succ, List.getElem_cons_zero, List.setIfInBounds_toArray, List.set_cons_zero, List.set_cons_succ])
      refine wpAnyH_take (i := 9) (v := ?_) (by rfl) (by kernel_rfl) (by kernel_rfl) (by kernel_rfl) (fun _ _ _ h => h) (Or.inl ⟨by kernel_rfl, ?_⟩) (by assumption) ?_; rotate_left 1; (focus (intro w hSw; (try dsimp only at hSw); simp only [List.getElem_toArray, List.getElem_cons_succ, List.getElem_cons_zero]; all_goals go_simp; all_goals (try with_reducible rfl))); (try simp only [Act.put, List.getElem_toArray, List.getElem_cons_succ, List.getElem_cons_zero, List.setIfInBounds_toArray, List.set_cons_zero, List.set_cons_succ])
      refine wpAnyH_ready (rs := [10]) (by kernel_rfl) (by simp) ?_; refine AllReadyH.cons (by rfl) (fun K hK => ?_) AllReadyH.nil; rw [if_pos (by kernel_rfl)]; simp only [List.getElem_toArray, List.getElem_cons_succ, List.getElem_cons_zero]
      go_wp2_with fail
      refine hK.out _ _ (HW9.out.same (by simp) (Below.heap_setCell _ _ _ _ (show bx ≠ cb from HBX.out))).all (fun hHeld => ?_)
      clear hK K
      (try simp only [Act.put, List.getElem_toArray, List.getElem_cons_succ, List.getElem_cons_zero, List.setIfInBounds_toArray, List.set_cons_zero, List.set_cons_succ])
      refine wpAnyH_done (by kernel_rfl) ?_ _
      refine NoPanic.normal ?_
      go_wp2_with fail
      go_end0
      have P := cache_pushed hn1.out HNC.out H2.out HDC.out (Below.refl _ _) H2.out HOW.out HGR.out HLC.out
      exact ⟨rfl, .slice vb (n + 1) vd, (by rw [← hE1.out]; exact P.1), HBN.out.trans P.2.1, HKB.out.trans P.2.2 HOB.out, (HLC.out.imp (fun e => e.trans HOB.out) (fun e => ⟨_, by have := HKB.out.1; simp; omega, e⟩))⟩
    · skip
      rw [if_pos (by kernel_rfl)]
      simp only [List.getElem_toArray, List.getElem_cons_succ, List.getElem_cons_zero]
      go_wp2_with fail
      refine hK.out _ _ (HW2.out.below (((Below.refl _ _).alloc (Nat.le_refl _) _ : Below wc.heap.size wc _).drew)).all (fun hHeld => ?_)
      clear hK K
      (try simp only [Act.put, List.getElem_toArray, List.getElem_cons_succ, List.getElem_cons_zero, List.setIfInBounds_toArray, List.set_cons_zero, List.set_cons_succ])
      have q2 : ∀ o, World.cell? ((wc.alloc o).drew) ⟨cb, 2, none⟩ = _ := fun o => (H2.out.below (((Below.refl _ _).alloc (Nat.le_refl _) _ : Below wc.heap.size wc (wc.alloc o)).drew)).c2
      have q2' := q2 (.cells #[.int .i64 d.k0, .int .i64 d.k1, .int .i64 d.k2, .int .i64 d.k3, .int .u32 d.k4, .int .u32 d.sh, .int .i64 d.pg, .int .i64 d.at_, .bool d.ro, .slice d.na d.ids.length d.nc] 110 (0, 0))
      refine wpAnyH_ready (rs := [4]) (by kernel_rfl) (by simp) ?_; refine AllReadyH.cons (by rfl) (fun K hK => ?_) AllReadyH.nil; rw [if_pos (by kernel_rfl)]; simp only [List.getElem_toArray, List.getElem_cons_succ, List.getElem_cons_zero]
      go_wp2_with fail
      refine hK.out _ _ (HW2.out.below (((Below.refl _ _).alloc (Nat.le_refl _) _ : Below wc.heap.size wc _).drew)).all (fun hHeld => ?_)
      clear hK K q2 q2'
      (try simp only [Act.put, List.getElem_toArray, List.getElem_cons_succ, List.getElem_cons_zero, List.setIfInBounds_toArray, List.set_cons_zero, List.set_cons_succ])
      refine wpAnyH_ready (rs := [7]) (by kernel_rfl) (by simp) ?_
      refine AllReadyH.cons (by rfl) (fun K hK => ?_) AllReadyH.nil
      rw [if_pos (by kernel_rfl)]
      simp only [List.getElem_toArray, List.getElem_cons_succ, List.getElem_cons_zero]
      refine op_append_own _ _ _ 103 (by rfl) N 110 i0 _ 10 96 Tryd.underlying103 HI.out.1 HI.out.2.1 HI.out.2.2.1 HI.out.2.2.2 (by rfl) (by decide) (.slice va n vc) n (ewCells E1) (by rfl) HRow.out ⟨wc.heap.size, 0, none⟩ 1 1 d.cs (by rfl) rfl (HNew.out) (ew_one d) (by unfold maxLen; omega) (by omega) (by have := HNC.out; simp; omega) ?_
      intro v' w9 hown hgrow hloc
      obtain ⟨vb, vd, rfl⟩ := own_shape' hown
      have HOW := Lib.hid hown
      have HGR := Lib.hid hgrow
      have HLC : Hid ((Value.slice vb (n + 1) vd).ownBlock = (Value.slice va n vc).ownBlock ∨ _) := Lib.hid hloc
      have hbx : w9.heap[bx]? = wc.heap[bx]? := by
        rw [HGR.out.block _ (by have := HW2.out.lt; simp; omega) (fun e => HOF.out (by rw [← e]))]
        exact ((((Below.refl _ _).alloc (Nat.le_refl _) _ : Below wc.heap.size wc _)).drew).block _ HW2.out.lt
      have hcb : w9.heap[cb]? = wc.heap[cb]? := by
        rw [HGR.out.block _ (by have := H2.out.cl; simp; omega) (fun e => H2.out.ne (by rw [← e]))]
        exact ((((Below.refl _ _).alloc (Nat.le_refl _) _ : Below wc.heap.size wc _)).drew).block _ H2.out.cl
      have HW9 := Lib.hid (HW2.out.same (by have := HGR.out.size; simp at this; omega) hbx)
      have q2 := (World.cell?_of_block (a := ⟨cb, 2, none⟩) hcb).trans H2.out.c2
      have qf := (World.frozen?_of_block (a := ⟨cb, 2, none⟩) hcb).trans (H2.out.fr 2)
      have HCB := Lib.hid hcb
      clear hown hgrow hloc hbx hcb
      refine hK.out _ _ HW9.out.all (fun hHeld => ?_)
      clear hK K
      (try simp only [Act.put, List.getElem_toArray, List.getElem_cons_succ, List.getElem_cons_zero, List.setIfInBounds_toArray, List.set_cons_zero, List.set_cons_succ])
      refine wpAnyH_take (i := 8) (v := ?_) (by rfl) (by kernel_rfl) (by kernel_rfl) (by kernel_rfl) (fun _ _ _ h => h) (Or.inl ⟨by kernel_rfl, ?_⟩) (by assumption) ?_; rotate_left 1; (focus (intro w hSw; (try dsimp only at hSw); simp only [List.getElem_toArray, List.getElem_cons_succ, List.getElem_cons_zero]; all_goals go_simp; all_goals (try with_reducible rfl))); (try simp only [Act.put, List.getElem_toArray, List.getElem_cons_succ, List.getElem_cons_zero, List.setIfInBounds_toArray, List.set_cons_zero, List.set_cons_succ])
      refine wpAnyH_take (i := 9) (v := ?_) (by rfl) (by kernel_rfl) (by kernel_rfl) (by kernel_rfl) (fun _ _ _ h => h) (Or.inl ⟨by kernel_rfl, ?_⟩) (by assumption) ?_; rotate_left 1; (focus (intro w hSw; (try dsimp only at hSw); simp only [List.getElem_toArray, List.getElem_cons_succ, List.getElem_cons_zero]; all_goals go_simp; all_goals (try with_reducible rfl))); (try simp only [Act.put, List.getElem_toArray, List.getElem_cons_succ, List.getElem_cons_zero, List.setIfInBounds_toArray, List.set_cons_zero, List.set_cons_succ])
      refine wpAnyH_ready (rs := [10]) (by kernel_rfl) (by simp) ?_; refine AllReadyH.cons (by rfl) (fun K hK => ?_) AllReadyH.nil; rw [if_pos (by kernel_rfl)]; simp only [List.getElem_toArray, List.getElem_cons_succ, List.getElem_cons_zero]
      go_wp2_with fail
      refine hK.out _ _ (HW9.out.same (by simp) (Below.heap_setCell _ _ _ _ (show bx ≠ cb from HBX.out))).all (fun hHeld => ?_)
      clear hK K
      (try simp only [Act.put, List.getElem_toArray, List.getElem_cons_succ, List.getElem_cons_zero, List.setIfInBounds_toArray, List.set_cons_zero, List.set_cons_succ])
      refine wpAnyH_done (by kernel_rfl) ?_ _
      refine NoPanic.normal ?_
      go_wp2_with fail
      go_end0
      have P := cache_pushed hn1.out HNC.out H2.out HDC.out (Below.refl _ _) H2.out HOW.out HGR.out HLC.out
      exact ⟨rfl, .slice vb (n + 1) vd, (by rw [← hE1.out]; exact P.1), HBN.out.trans P.2.1, HKB.out.trans P.2.2 HOB.out, (HLC.out.imp (fun e => e.trans HOB.out) (fun e => ⟨_, by have := HKB.out.1; simp; omega, e⟩))⟩
  
end Go.Proofs.YtedidopkemjgeaaDoor
namespace Go.Proofs.YtedidopkemjgeaaDoor
open Go.ChangeShapes Go.WideShapes Go.ChangeAt Go.RowKit
set_option linter.unusedVariables false
set_option linter.unusedSimpArgs false
/-- What Find leaves remembered. -/
def FindOut (E E' : List EW) (full : Bool) (hits hits' k0 k1 k2 k3 k4 sh : Int) (ids : List Int) (f : Int) : Prop :=
  (∃ e, e ∈ E ∧ e.is k0 k1 k2 k3 k4 sh = true ∧ E' = E ∧ hits' = hits + 1 ∧ f = 0) ∨
  ((∀ e, e ∈ E → e.is k0 k1 k2 k3 k4 sh = false) ∧ hits' = hits ∧ ((f = 0 ∧ ∃ d : EW, d.is k0 k1 k2 k3 k4 sh = true ∧ d.ids = ids ∧ E' = stay E full ++ [d]) ∨ (¬ f = 0 ∧ E' = E)))
theorem mem_stay {E : List EW} {full : Bool} {e : EW} (h : e ∈ stay E full) : e ∈ E := by
  unfold stay at h
  cases full
  · exact h
  · exact List.mem_of_mem_tail h
theorem ways_stay {a b : Shp} {th : Nat → Bool} {vr_ : Nat → Int} {W : Nat → Nat → Value} {th2 : Nat → Bool} {vr2 : Nat → Int} {E : List EW} (full : Bool) (ok : WaysOk a b th vr_ W th2 vr2 E) : WaysOk a b th vr_ W th2 vr2 (stay E full) := fun e he => ok e (mem_stay he)
theorem stay_len {E : List EW} {full : Bool} {size : Int} (h : (E.length : Int) ≤ size ∧ 1 ≤ size) (hf : ((E.length : Int) == size) = full) : ((stay E full).length : Int) + 1 ≤ size := by
  unfold stay
  cases full
  · have : ¬ (E.length : Int) = size := by simpa using hf
    simp
    omega
  · have : (E.length : Int) = size := by simpa using hf
    simp
    omega
/-- Never more than may be. -/
theorem FindOut.room {E E' : List EW} {full : Bool} {hits hits' k0 k1 k2 k3 k4 sh f size : Int} {ids : List Int} (h : FindOut E E' full hits hits' k0 k1 k2 k3 k4 sh ids f) (hr : (E.length : Int) ≤ size ∧ 1 ≤ size) (hf : ((E.length : Int) == size) = full) : (E'.length : Int) ≤ size ∧ hits ≤ hits' ∧ hits' ≤ hits + 1 := by
  rcases h with ⟨e, _, _, rfl, rfl, _⟩ | ⟨_, rfl, ⟨_, d, _, _, rfl⟩ | ⟨_, rfl⟩⟩
  · omega
  · have := stay_len hr hf
    simp
    omega
  · omega
set_option maxRecDepth 100000 in
set_option maxHeartbeats 8000000 in
theorem cfindx_is {S : Nat} {a b : Shp} {th : Nat → Bool} {vr_ : Nat → Int} {W : Nat → Nat → Value} {th2 : Nat → Bool} {vr2 : Nat → Int} {W2 : Nat → Nat → Int} {N cb : Nat} {size hits : Int} {v : Value} {E : List EW} (k0 k1 k2 k3 k4 : Int) (ad : Nat) (had : ad ≤ 4294967295) (ids : List Int) (pg at_ : Int) (r : Bool) (f : Int) (n : Nat) (hn : Hid (E.length = n)) (full : Bool) (hroom : Hid ((n : Int) ≤ size ∧ 1 ≤ size)) (hful : Hid (((n : Int) == size) = full)) (hn64 : n ≤ 64) (hh : Hid (0 ≤ hits ∧ hits ≤ 1000000)) (hw : Hid (Way a b th vr_ W th2 vr2 k0 k1 k2 k3 k4 5 ad false ids pg at_ r f)) (ok : Hid (WaysOk a b th vr_ W th2 vr2 E)) (w : World) (h : (StAt w S a b th vr_ W th2 vr2 W2)) (ca : CacheAt w N cb size hits v E) (hN : N ≤ w.heap.size) :
    Calls Tryd.prog 16 #[.pointer (some ⟨cb, 0, none⟩), .pointer (some ⟨S, 0, none⟩), (Value.agg #[.int .i64 k0, .int .i64 k1, .int .i64 k2, .int .i64 k3, .int .u32 k4]), .int .u32 (ad : Int)] w fun e w' => e = .returned (.tuple #[.agg #[.int .i64 pg, .int .i64 at_, .bool r], .int .i64 f]) ∧ Below N w w' ∧ ∃ hits' v' E', CacheAt w' N cb size hits' v' E' ∧ WaysOk a b th vr_ W th2 vr2 E' ∧ FindOut E E' full hits hits' k0 k1 k2 k3 k4 ((ad : Int) / 32) ids f ∧ KeepB w w' cb v ∧ (v'.ownBlock = v.ownBlock ∨ ∃ g, w.heap.size ≤ g ∧ v'.ownBlock = some g) ∧ (∀ x, x < w.heap.size → NoNode E x → NoNode E' x) := by
  have H := Lib.hid h
  have HCA := Lib.hid ca
  have HN := Lib.hid hN
  obtain ⟨va, vc, hv⟩ := ca.shape
  rw [hn.out] at hv
  subst hv
  clear h ca hN
  go_enter Tryd.func16, Tryd.ntmps16
  go_upto_region 2 with fail
  obtain ⟨wB, hwB⟩ : ∃ wB, wB = ((w.alloc (.cells #[.int .i64 k0, .int .i64 k1, .int .i64 k2, .int .i64 k3, .int .u32 k4] 29 (0, 0))).alloc (.cells #[.int .i64 0, .int .i64 0, .bool false] 40 (0, 0))).alloc (.cells #[.int .i64 k0, .int .i64 k1, .int .i64 k2, .int .i64 k3, .int .u32 k4, .int .u32 ((ad : Int) / 32)] 107 (0, 0)) := ⟨_, rfl⟩
  rw [← hwB]
  have HB1 : Hid (Below w.heap.size w wB) := Lib.hid (by rw [hwB]; exact (((Below.refl _ _).alloc (Nat.le_refl _) _ : Below w.heap.size w _).alloc (by simp) _).alloc (by simp; omega) _)
  have HKR1 : Hid (KeyC wB w.heap.size k0 k1 k2 k3 k4) := Lib.hid (by rw [hwB]; exact key_new1 _ _ _ _ _ _ _ _ _)
  have HPR1 : Hid (PlC wB (w.heap.size + 1) 0 0 false) := Lib.hid (by rw [hwB]; exact PlC.new2 _ _ _ _ _ _ _)
  have HF1 : Hid (FromAt wB (w.heap.size + 1 + 1) k0 k1 k2 k3 k4 ((ad : Int) / 32)) := Lib.hid (by rw [hwB]; exact from_new _ _ _ _ _ _ _ _ _ _)
  have H1 := Lib.hid (H.out.below HB1.out)
  have HC1 := Lib.hid (HCA.out.below HB1.out)
  have c2 := HC1.out.c2
  clear hwB
  have hn64' : n ≤ 64 := by omega
  have r1 : IntKind.i64.wrap ((ad : Int) % 32) = (ad : Int) % 32 := by rw [IntKind.wrap_i64]; omega
  rcases firstE (fun e => e.is k0 k1 k2 k3 k4 ((ad : Int) / 32)) E with hno | ⟨j, d, hj, hyes, hno⟩
  · have HNO := Lib.hid hno
    clear hno
    by_cases hf : f = 0
    · subst hf
      go_upto_region 10 with (first
        | (go_at_call 42; (with_reducible refine (cindex_none k0 k1 k2 k3 k4 ((ad : Int) / 32) hn hn64' HNO _ HC1.out HF1.out).mono ?_); rintro e w2 ⟨rfl, hb⟩; have HB2 := Lib.hid (HB1.out.trans (hb.mono HB1.out.size)); have HKR2 := Lib.hid (HKR1.out.below hb); have HPR2 := Lib.hid (HPR1.out.below hb); have HF2 := Lib.hid (HF1.out.below hb); have H2 := Lib.hid (H1.out.below hb); have HC2 := Lib.hid (HC1.out.below hb); have q0 := HKR2.out.c0; have q1 := HKR2.out.c1; have q2 := HKR2.out.c2; have q3 := HKR2.out.c3; have q4 := HKR2.out.c4; clear hb c2)
        | (go_at_call 17; (with_reducible refine (pWalk_is k0 k1 k2 k3 k4 _ ids pg at_ r 0 hw _ H2.out).mono ?_); rintro e w3 ⟨rfl, hb⟩; have hb' := hb.alloc hb.size (.cells #[.int .i64 pg, .int .i64 at_, .bool r] 40 (0, 0)); have HB3 := Lib.hid (HB2.out.trans (hb'.mono HB2.out.size)); have HKR3 := Lib.hid (HKR2.out.below hb'); have HPR3 := Lib.hid (HPR2.out.below hb'); have HF3 := Lib.hid (HF2.out.below hb'); have H3 := Lib.hid (H2.out.below hb'); have HC3 := Lib.hid (HC2.out.below hb'); have HQ3 := Lib.hid (PlC.new w3 pg at_ r 40); have HZ3 := Lib.hid hb.size; have HLQ := Lib.hid (Nat.lt_of_lt_of_le HF2.out.lt hb.size); clear hb hb' q0 q1 q2 q3 q4))
      obtain ⟨qb, hqb⟩ : ∃ qb, Hid (w3.heap.size = qb) := ⟨_, Lib.hid rfl⟩
      rw [hqb.out] at HQ3 ⊢
      obtain ⟨wP, hwP⟩ : ∃ wP, wP = w3.alloc (.cells #[.int .i64 pg, .int .i64 at_, .bool r] 40 (0, 0)) := ⟨_, rfl⟩
      rw [← hwP] at HB3 HKR3 HPR3 HF3 H3 HC3 HQ3 ⊢
      clear hwP
      have HQB : Hid (w.heap.size + 1 + 1 < qb) := Lib.hid (by rw [← hqb.out]; exact HLQ.out)
      have HS3 : Hid (∀ w', KeyC w' w.heap.size k0 k1 k2 k3 k4 → FromAt w' (w.heap.size + 1 + 1) k0 k1 k2 k3 k4 ((ad : Int) / 32) → PlC w' qb pg at_ r → ((World.cell? w' ⟨w.heap.size, 0, none⟩ = some (.int .i64 k0) ∧ World.cell? w' ⟨w.heap.size, 1, none⟩ = some (.int .i64 k1) ∧ World.cell? w' ⟨w.heap.size, 2, none⟩ = some (.int .i64 k2) ∧ World.cell? w' ⟨w.heap.size, 3, none⟩ = some (.int .i64 k3) ∧ World.cell? w' ⟨w.heap.size, 4, none⟩ = some (.int .u32 k4)) ∧ (World.cell? w' ⟨w.heap.size + 1 + 1, 0, none⟩ = some (.int .i64 k0) ∧ World.cell? w' ⟨w.heap.size + 1 + 1, 1, none⟩ = some (.int .i64 k1) ∧ World.cell? w' ⟨w.heap.size + 1 + 1, 2, none⟩ = some (.int .i64 k2) ∧ World.cell? w' ⟨w.heap.size + 1 + 1, 3, none⟩ = some (.int .i64 k3) ∧ World.cell? w' ⟨w.heap.size + 1 + 1, 4, none⟩ = some (.int .u32 k4) ∧ World.cell? w' ⟨w.heap.size + 1 + 1, 5, none⟩ = some (.int .u32 ((ad : Int) / 32))) ∧ (World.cell? w' ⟨qb, 0, none⟩ = some (.int .i64 pg) ∧ World.cell? w' ⟨qb, 1, none⟩ = some (.int .i64 at_) ∧ World.cell? w' ⟨qb, 2, none⟩ = some (.bool r)))) := Lib.hid (fun w' h1 h2 h3 => ⟨⟨h1.c0, h1.c1, h1.c2, h1.c3, h1.c4⟩, ⟨h2.c0, h2.c1, h2.c2, h2.c3, h2.c4, h2.c5⟩, ⟨h3.c0, h3.c1, h3.c2⟩⟩)
      have hd := (Below.refl wP.heap.size wP).drew
      have HB4 := Lib.hid (HB3.out.trans (hd.mono HB3.out.size))
      have HKR4 := Lib.hid (HKR3.out.below hd)
      have HPR4 := Lib.hid (HPR3.out.below hd)
      have HF4 := Lib.hid (HF3.out.below hd)
      have H4 := Lib.hid (H3.out.below hd)
      have HC4 := Lib.hid (HC3.out.below hd)
      have HQ4 := Lib.hid (HQ3.out.below hd)
      refine wp_region_noPanic ?_
      refine wp_region_held_drew (S := fun w' => ((World.cell? w' ⟨w.heap.size, 0, none⟩ = some (.int .i64 k0) ∧ World.cell? w' ⟨w.heap.size, 1, none⟩ = some (.int .i64 k1) ∧ World.cell? w' ⟨w.heap.size, 2, none⟩ = some (.int .i64 k2) ∧ World.cell? w' ⟨w.heap.size, 3, none⟩ = some (.int .i64 k3) ∧ World.cell? w' ⟨w.heap.size, 4, none⟩ = some (.int .u32 k4)) ∧ (World.cell? w' ⟨w.heap.size + 1 + 1, 0, none⟩ = some (.int .i64 k0) ∧ World.cell? w' ⟨w.heap.size + 1 + 1, 1, none⟩ = some (.int .i64 k1) ∧ World.cell? w' ⟨w.heap.size + 1 + 1, 2, none⟩ = some (.int .i64 k2) ∧ World.cell? w' ⟨w.heap.size + 1 + 1, 3, none⟩ = some (.int .i64 k3) ∧ World.cell? w' ⟨w.heap.size + 1 + 1, 4, none⟩ = some (.int .u32 k4) ∧ World.cell? w' ⟨w.heap.size + 1 + 1, 5, none⟩ = some (.int .u32 ((ad : Int) / 32))) ∧ (World.cell? w' ⟨qb, 0, none⟩ = some (.int .i64 pg) ∧ World.cell? w' ⟨qb, 1, none⟩ = some (.int .i64 at_) ∧ World.cell? w' ⟨qb, 2, none⟩ = some (.bool r)))) (by kernel_rfl) (HS3.out _ HKR4.out HF4.out HQ4.out) (fun hHeld => ?_)
      clear hd
      refine wpAnyH_take (i := 0) (v := ?_) (by rfl) (by kernel_rfl) (by kernel_rfl) (by kernel_rfl) (fun _ _ _ h => h) (Or.inl ⟨by kernel_rfl, ?_⟩) (by assumption) ?_; rotate_left 1; (focus (intro w hSw; (try dsimp only at hSw); simp only [List.getElem_toArray, List.getElem_cons_succ, List.getElem_cons_zero]; all_goals go_simp; all_goals (try with_reducible rfl))); (try simp only [Act.put, List.getElem_toArray, List.getElem_cons_succ, List.getElem_cons_zero, List.setIfInBounds_toArray, List.set_cons_zero, List.set_cons_succ])
      refine wpAnyH_take (i := 1) (v := ?_) (by rfl) (by kernel_rfl) (by kernel_rfl) (by kernel_rfl) (fun _ _ _ h => h) (Or.inl ⟨by kernel_rfl, ?_⟩) (by assumption) ?_; rotate_left 1; (focus (intro w hSw; (try dsimp only at hSw); simp only [List.getElem_toArray, List.getElem_cons_succ, List.getElem_cons_zero]; all_goals go_simp; all_goals (try with_reducible rfl))); (try simp only [Act.put, List.getElem_toArray, List.getElem_cons_succ, List.getElem_cons_zero, List.setIfInBounds_toArray, List.set_cons_zero, List.set_cons_succ])
      refine wpAnyH_take (i := 2) (v := ?_) (by rfl) (by kernel_rfl) (by kernel_rfl) (by kernel_rfl) (fun _ _ _ h => h) (Or.inl ⟨by kernel_rfl, ?_⟩) (by assumption) ?_; rotate_left 1; (focus (intro w hSw; (try dsimp only at hSw); simp only [List.getElem_toArray, List.getElem_cons_succ, List.getElem_cons_zero]; all_goals go_simp; all_goals (try with_reducible rfl))); (try simp only [Act.put, List.getElem_toArray, List.getElem_cons_succ, List.getElem_cons_zero, List.setIfInBounds_toArray, List.set_cons_zero, List.set_cons_succ])
      refine wpAnyH_take (i := 3) (v := ?_) (by rfl) (by kernel_rfl) (by kernel_rfl) (by kernel_rfl) (fun _ _ _ h => h) (Or.inl ⟨by kernel_rfl, ?_⟩) (by assumption) ?_; rotate_left 1; (focus (intro w hSw; (try dsimp only at hSw); simp only [List.getElem_toArray, List.getElem_cons_succ, List.getElem_cons_zero]; all_goals go_simp; all_goals (try with_reducible rfl))); (try simp only [Act.put, List.getElem_toArray, List.getElem_cons_succ, List.getElem_cons_zero, List.setIfInBounds_toArray, List.set_cons_zero, List.set_cons_succ])
      refine wpAnyH_take (i := 4) (v := ?_) (by rfl) (by kernel_rfl) (by kernel_rfl) (by kernel_rfl) (fun _ _ _ h => h) (Or.inl ⟨by kernel_rfl, ?_⟩) (by assumption) ?_; rotate_left 1; (focus (intro w hSw; (try dsimp only at hSw); simp only [List.getElem_toArray, List.getElem_cons_succ, List.getElem_cons_zero]; all_goals go_simp; all_goals (try with_reducible rfl))); (try simp only [Act.put, List.getElem_toArray, List.getElem_cons_succ, List.getElem_cons_zero, List.setIfInBounds_toArray, List.set_cons_zero, List.set_cons_succ])
      refine wpAnyH_take (i := 5) (v := ?_) (by rfl) (by kernel_rfl) (by kernel_rfl) (by kernel_rfl) (fun _ _ _ h => h) (Or.inl ⟨by kernel_rfl, ?_⟩) (by assumption) ?_; rotate_left 1; (focus (intro w hSw; (try dsimp only at hSw); simp only [List.getElem_toArray, List.getElem_cons_succ, List.getElem_cons_zero]; all_goals go_simp; all_goals (try with_reducible rfl))); (try simp only [Act.put, List.getElem_toArray, List.getElem_cons_succ, List.getElem_cons_zero, List.setIfInBounds_toArray, List.set_cons_zero, List.set_cons_succ])
      have HIL : Hid (ids.length ≤ 100) := Lib.hid (by have := hw.out.ids_len; omega)
      refine wpAnyH_ready (rs := [6]) (by kernel_rfl) (by simp) ?_; refine AllReadyH.cons (by rfl) (fun K hK => ?_) AllReadyH.nil; rw [if_pos (by kernel_rfl)]; simp only [List.getElem_toArray, List.getElem_cons_succ, List.getElem_cons_zero]
      go_wp2_with (first
        | (go_at_call 45; (with_reducible refine (pNodes_is k0 k1 k2 k3 k4 _ ids HIL pg at_ r 0 hw _ H4.out).mono ?_); rintro e w5 ⟨vn, rfl, hr, hb⟩; obtain ⟨na, nc, rfl⟩ := own_shape' hr; have HRn := Lib.hid hr; have HB5 := Lib.hid (HB4.out.trans (hb.mono HB4.out.size)); have HKR5 := Lib.hid (HKR4.out.below hb); have HPR5 := Lib.hid (HPR4.out.below hb); have HF5 := Lib.hid (HF4.out.below hb); have HC5 := Lib.hid (HC4.out.below hb); have HQ5 := Lib.hid (HQ4.out.below hb); clear hr hb))
      refine hK.out _ _ (HS3.out _ HKR5.out HF5.out HQ5.out) (fun hHeld => ?_)
      clear hK K
      (try simp only [Act.put, List.getElem_toArray, List.getElem_cons_succ, List.getElem_cons_zero, List.setIfInBounds_toArray, List.set_cons_zero, List.set_cons_succ])
      refine wpAnyH_take (i := 7) (v := ?_) (by rfl) (by kernel_rfl) (by kernel_rfl) (by kernel_rfl) (fun _ _ _ h => h) (Or.inl ⟨by kernel_rfl, ?_⟩) (by assumption) ?_; rotate_left 1; (focus (intro w hSw; (try dsimp only at hSw); simp only [List.getElem_toArray, List.getElem_cons_succ, List.getElem_cons_zero]; all_goals go_simp; all_goals (try with_reducible rfl))); (try simp only [Act.put, List.getElem_toArray, List.getElem_cons_succ, List.getElem_cons_zero, List.setIfInBounds_toArray, List.set_cons_zero, List.set_cons_succ])
      refine wpAnyH_ready (rs := [8]) (by kernel_rfl) (by simp) ?_; refine AllReadyH.cons (by rfl) (fun K hK => ?_) AllReadyH.nil; rw [if_pos (by kernel_rfl)]; simp only [List.getElem_toArray, List.getElem_cons_succ, List.getElem_cons_zero]
      have HND : Hid (NodesIn w5 N cb (.slice va n vc) ⟨k0, k1, k2, k3, k4, (ad : Int) / 32, pg, at_, r, ids, na, nc⟩) := Lib.hid (nodes_new HRn.out (by have := HB4.out.size; have := HN.out; omega) (by have := HB4.out.size; have := HCA.out.cl; omega) (fun g e => by have := (HCA.out.row.lt g e).2; have := HB4.out.size; omega))
      have HN5 : Hid (N ≤ w5.heap.size) := Lib.hid (Nat.le_trans HN.out HB5.out.size)
      have HOw : Hid (∀ g, (Value.slice va n vc).ownBlock = some g → g < w.heap.size) := Lib.hid (fun g e => (HCA.out.row.lt g e).2)
      have HCl : Hid (cb < w.heap.size) := Lib.hid HCA.out.cl
      go_wp2_with (first
        | (go_at_call 44; (with_reducible refine (cremember_any ⟨k0, k1, k2, k3, k4, (ad : Int) / 32, pg, at_, r, ids, na, nc⟩ n full hn hroom hful.out hn64 _ HC5.out HND.out HN5.out).mono ?_); rintro e w6 ⟨rfl, v', hC6, hB6, hK6, hO6⟩; have HC6 := Lib.hid hC6; have HB6 := Lib.hid hB6; have HK6 := Lib.hid hK6; have HO6 := Lib.hid hO6; clear hC6 hB6 hK6 hO6))
      have HKR6 := Lib.hid (HKR5.out.same' HK6.out.1 (HK6.out.2 _ HKR5.out.lt (by have := HCl.out; omega) (fun e => by have := HOw.out _ e; omega)))
      have HPR6 := Lib.hid (HPR5.out.same HK6.out.1 (HK6.out.2 _ HPR5.out.lt (by have := HCl.out; omega) (fun e => by have := HOw.out _ e; omega)))
      have HF6 := Lib.hid (HF5.out.same HK6.out.1 (HK6.out.2 _ HF5.out.lt (by have := HCl.out; omega) (fun e => by have := HOw.out _ e; omega)))
      have HQ6 := Lib.hid (HQ5.out.same HK6.out.1 (HK6.out.2 _ HQ5.out.lt (by have := HCl.out; have := HQB.out; omega) (fun e => by have := HOw.out _ e; have := HQB.out; omega)))
      refine hK.out _ _ (HS3.out _ HKR6.out HF6.out HQ6.out) (fun hHeld => ?_)
      clear hK K
      (try simp only [Act.put, List.getElem_toArray, List.getElem_cons_succ, List.getElem_cons_zero, List.setIfInBounds_toArray, List.set_cons_zero, List.set_cons_succ])
      refine wpAnyH_done (by kernel_rfl) ?_ _
      refine NoPanic.normal ?_
      have a0 := HQ6.out.c0
      have a1 := HQ6.out.c1
      have a2 := HQ6.out.c2
      have p0 := HPR6.out.c0
      have p1 := HPR6.out.c1
      have p2 := HPR6.out.c2
      have pf0 := HPR6.out.fr 0
      have pf1 := HPR6.out.fr 1
      have pf2 := HPR6.out.fr 2
      go_wp2_with fail
      have t := HPR6.out.set pg at_ r
      have t0 := t.c0
      have t1 := t.c1
      have t2 := t.c2
      refine bodyPost_ret (v := .tuple #[.agg #[.int .i64 pg, .int .i64 at_, .bool r], .int .i64 0]) (by simp [results, Tryd.results16, go_sem, t0, t1, t2]) rfl ⟨rfl, ?_⟩
      have hb := set3_below ((HB5.out.mono HN.out).trans HB6.out) (show N ≤ w.heap.size + 1 by have := HN.out; omega) (.int .i64 pg) (.int .i64 at_) (.bool r)
      have hs5 := HB5.out.size
      refine ⟨hb, hits, v', _, HC6.out.put3 (w.heap.size + 1) (by have := HCl.out; omega) ?_ ?_ _ _ _, ways_more (ways_stay full ok.out) hw.out, .inr ⟨HNO.out, rfl, .inl ⟨rfl, _, by simp [EW.is], rfl, rfl⟩⟩, ⟨hb.size, fun k hk hkc hkv => ?_⟩, HO6.out.imp id (fun ⟨g, hg, e⟩ => ⟨g, by omega, e⟩), fun x hx hE e he hl g o hna => ?_⟩
      · intro e
        rcases HO6.out with e' | ⟨g, hg, e'⟩
        · rw [e'] at e; have := HOw.out _ e; omega
        · rw [e'] at e; injection e with e; have := HQB.out; have := HQ5.out.lt; omega
      · intro e he hl g o hna
        rcases List.mem_append.1 he with he | he
        · obtain ⟨g', o', b1, b2, b3, b4, b5, b6⟩ := HCA.out.nd e (mem_stay he) 0 hl
          rw [hna] at b1
          injection b1 with b1
          injection b1 with b1 b1'
          omega
        · simp at he
          subst he
          obtain ⟨g', c', e2⟩ := own_some' HRn.out hl
          have hna' : na = some ⟨g, o, none⟩ := hna
          rw [hna'] at e2
          simp only [Value.slice.injEq, Option.some.injEq, Addr.mk.injEq] at e2
          have := (HRn.out.lt g (by rw [hna']; simp [Value.ownBlock])).1
          have := HB4.out.size
          have := HQ4.out.lt
          have := HQB.out
          omega
      · rw [set_heap _ _ _ _ _ (by omega), set_heap _ _ _ _ _ (by omega), set_heap _ _ _ _ _ (by omega), HK6.out.2 k (by omega) hkc hkv]
        exact HB5.out.block k hk
      · rcases List.mem_append.1 he with he | he
        · exact hE e (mem_stay he) hl g o hna
        · simp at he
          subst he
          have hna' : na = some ⟨g, o, none⟩ := hna
          have h1 := (HRn.out.lt g (by rw [hna']; simp [Value.ownBlock])).1
          have h2 := HB4.out.size
          omega
    · go_wp2_with (first
        | (go_at_call 42; (with_reducible refine (cindex_none k0 k1 k2 k3 k4 ((ad : Int) / 32) hn hn64' HNO _ HC1.out HF1.out).mono ?_); rintro e w2 ⟨rfl, hb⟩; have HB2 := Lib.hid (HB1.out.trans (hb.mono HB1.out.size)); have HKR2 := Lib.hid (HKR1.out.below hb); have HPR2 := Lib.hid (HPR1.out.below hb); have HF2 := Lib.hid (HF1.out.below hb); have H2 := Lib.hid (H1.out.below hb); have HC2 := Lib.hid (HC1.out.below hb); have q0 := HKR2.out.c0; have q1 := HKR2.out.c1; have q2 := HKR2.out.c2; have q3 := HKR2.out.c3; have q4 := HKR2.out.c4; clear hb c2)
        | (go_at_call 17; (with_reducible refine (pWalk_is k0 k1 k2 k3 k4 _ ids pg at_ r f hw _ H2.out).mono ?_); rintro e w3 ⟨rfl, hb⟩; have hb' := hb.alloc hb.size (.cells #[.int .i64 pg, .int .i64 at_, .bool r] 40 (0, 0)); have HB3 := Lib.hid (HB2.out.trans (hb'.mono HB2.out.size)); have HKR3 := Lib.hid (HKR2.out.below hb'); have HPR3 := Lib.hid (HPR2.out.below hb'); have HF3 := Lib.hid (HF2.out.below hb'); have H3 := Lib.hid (H2.out.below hb'); have HC3 := Lib.hid (HC2.out.below hb'); have p0 := HPR3.out.c0; have p1 := HPR3.out.c1; have p2 := HPR3.out.c2; have pf0 := HPR3.out.fr 0; have pf1 := HPR3.out.fr 1; have pf2 := HPR3.out.fr 2; clear hb hb' q0 q1 q2 q3 q4))
      have t := HPR3.out.set pg at_ r
      have t0 := t.c0
      have t1 := t.c1
      have t2 := t.c2
      refine bodyPost_ret (v := .tuple #[.agg #[.int .i64 pg, .int .i64 at_, .bool r], .int .i64 f]) (by simp [results, Tryd.results16, go_sem, t0, t1, t2]) rfl ⟨rfl, ?_⟩
      have hb := set3_below HB3.out (show w.heap.size ≤ w.heap.size + 1 by omega) (.int .i64 pg) (.int .i64 at_) (.bool r)
      exact ⟨hb.mono HN.out, hits, _, E, HCA.out.below hb, ok.out, .inr ⟨HNO.out, rfl, .inr ⟨hf, rfl⟩⟩, ⟨hb.size, fun k hk _ _ => hb.block k hk⟩, .inl rfl, fun _ _ h => h⟩
  · obtain ⟨e1, e2, rfl, rfl⟩ := ways_hit ok.out hw.out (List.mem_of_getElem? hj) hyes
    have HNO : Hid (∀ (i : Nat) (e : EW), i < j → E[i]? = some e → e.is k0 k1 k2 k3 k4 ((ad : Int) / 32) = false) := Lib.hid hno
    have HJ := Lib.hid hj
    have HY : Hid (d.is k0 k1 k2 k3 k4 ((ad : Int) / 32) = true) := Lib.hid hyes
    have hjn : j < n := by
      rw [← hn.out]
      rcases Nat.lt_or_ge j E.length with h' | h'
      · exact h'
      · rw [List.getElem?_eq_none h'] at hj; cases hj
    obtain ⟨g, cc, hgv⟩ := HC1.out.row1 (by rw [hn.out]; omega)
    simp only [Value.slice.injEq] at hgv
    obtain ⟨rfl, -, -⟩ := hgv
    have hgc : ¬ g = cb := fun e => HC1.out.ne (by simp [Value.ownBlock, e])
    have HOw : Hid (g < w.heap.size) := Lib.hid (HCA.out.row.lt g (by simp [Value.ownBlock])).2
    have HCl : Hid (cb < w.heap.size) := Lib.hid HCA.out.cl
    have hpc : ¬ w.heap.size + 1 = cb := by have := HCl.out; omega
    have j0 : (0 : Int) ≤ j := by omega
    have j1 : (j : Int) < n := by omega
    have hh0 : 0 ≤ hits := hh.out.1
    have hh1 : hits ≤ 1000000 := hh.out.2
    have HE1 := Lib.hid e1
    have HE2 := Lib.hid e2
    have m0 : (0 : Int) ≤ (ad : Int) % 32 := by omega
    have m1 : (ad : Int) % 32 < 32 := by omega
    clear hno hj hyes e1 e2
    go_wp2_with (first
      | (go_at_call 42; (with_reducible refine (cindex_at k0 k1 k2 k3 k4 ((ad : Int) / 32) hn hn64' j d HJ HY HNO _ HC1.out HF1.out).mono ?_); rintro e w2 ⟨rfl, hb⟩; have HB2 := Lib.hid (HB1.out.trans (hb.mono HB1.out.size)); have HPR2 := Lib.hid (HPR1.out.below hb); have HC2 := Lib.hid (HC1.out.below hb); have q1 := HC2.out.c1; have q2 := HC2.out.c2; have qf := HC2.out.fr 1; obtain ⟨z0, z1, z2, z3, z4, z5, z6, z7, z8, z9⟩ := HC2.out.way rfl j d HJ.out; rw [HE1.out] at z6; rw [HE2.out] at z8; have p0 := HPR2.out.c0; have p1 := HPR2.out.c1; have p2 := HPR2.out.c2; have pf0 := HPR2.out.fr 0; have pf1 := HPR2.out.fr 1; have pf2 := HPR2.out.fr 2; have hpl := HPR2.out.lt; clear hb c2 z0 z1 z2 z3 z4 z5 z9))
    have HH := Lib.hid (HC2.out.hit (hits + 1))
    have t := ((HPR2.out.far1 cb 1 (by omega) (.int .i64 (hits + 1))).set pg ((ad : Int) % 32) r).below ((Below.refl _ _).alloc (Nat.le_refl _) _ : Below _ _ (World.alloc _ (.cells #[.int .i64 pg, .int .i64 ((ad : Int) % 32), .bool r] 40 (0, 0))))
    have t0 := t.c0
    have t1 := t.c1
    have t2 := t.c2
    refine bodyPost_ret (v := .tuple #[.agg #[.int .i64 pg, .int .i64 ((ad : Int) % 32), .bool r], .int .i64 0]) (by simp [results, Tryd.results16, go_sem, t0, t1, t2]) rfl ⟨rfl, ?_⟩
    have hb0 : Below N w (w2.setCell ⟨cb, 1, none⟩ (.int .i64 (hits + 1))) := (HB2.out.mono HN.out).setCell HCA.out.nb _
    have hb := (set3_below hb0 (show N ≤ w.heap.size + 1 by have := HN.out; omega) (.int .i64 pg) (.int .i64 ((ad : Int) % 32)) (.bool r)).alloc (by have := HB2.out.size; have := HN.out; simp; omega) (.cells #[.int .i64 pg, .int .i64 ((ad : Int) % 32), .bool r] 40 (0, 0))
    refine ⟨hb, hits + 1, _, E, (HH.out.put3 (w.heap.size + 1) (by omega) (fun e => by have := HOw.out; simp [Value.ownBlock] at e; omega) (fun e he hl g' o hna => ?_) _ _ _).below ((Below.refl _ _).alloc (Nat.le_refl _) _), ok.out, .inl ⟨d, List.mem_of_getElem? HJ.out, HY.out, rfl, rfl, rfl⟩, ⟨hb.size, fun k hk hkc hkv => ?_⟩, .inl rfl, fun _ _ h => h⟩
    obtain ⟨g2, o2, b1, b2, b3, b4, b5, b6⟩ := HCA.out.nd e he 0 hl
    rw [hna] at b1
    injection b1 with b1
    injection b1 with b1 b1'
    omega
    rw [((Below.refl _ _).alloc (Nat.le_refl _) _ : Below _ _ (World.alloc _ (.cells #[.int .i64 pg, .int .i64 ((ad : Int) % 32), .bool r] 40 (0, 0)))).block k (by have := HB2.out.size; simp; omega), set_heap _ _ _ _ _ (by omega), set_heap _ _ _ _ _ (by omega), set_heap _ _ _ _ _ (by omega), set_heap _ _ _ _ _ hkc]
    exact HB2.out.block k hk
end Go.Proofs.YtedidopkemjgeaaDoor
namespace Go.Proofs.YtedidopkemjgeaaDoor
open Go.ChangeShapes Go.WideShapes Go.ChangeAt Go.RowKit
set_option linter.unusedVariables false
set_option linter.unusedSimpArgs false
theorem zk_list : (zs80.toArray).toList = zs80 := rfl
theorem zk_one : (zs80.toArray).all (·.oneCell') = true := by kernel_rfl
theorem infoZK : (Tryd.prog.info? 102).map (·.size) = some (zs80.toArray).size := by kernel_rfl
/-- All but a system's four rows is as it was. -/
def SBelow (S : SyS) (w w' : World) : Prop := w'.os = w.os ∧ w'.tape = w.tape ∧ w'.output = w.output ∧ w.heap.size ≤ w'.heap.size ∧ ∀ k, k < w.heap.size → k ≠ S.gN → k ≠ S.gP → k ≠ S.bN → k ≠ S.bP → w'.heap[k]? = w.heap[k]?
section
variable {w w' w1 w2 : World} {base : Nat} {S : SyS} {d : SyD}
theorem SBelow.refl (S : SyS) (w : World) : SBelow S w w := ⟨rfl, rfl, rfl, Nat.le_refl _, fun _ _ _ _ _ _ => rfl⟩
theorem SBelow.trans (h : SBelow S w w1) (h2 : SBelow S w1 w2) : SBelow S w w2 :=
  ⟨h2.1.trans h.1, h2.2.1.trans h.2.1, h2.2.2.1.trans h.2.2.1, Nat.le_trans h.2.2.2.1 h2.2.2.2.1, fun k hk a b c e => (h2.2.2.2.2 k (Nat.lt_of_lt_of_le hk h.2.2.2.1) a b c e).trans (h.2.2.2.2 k hk a b c e)⟩
theorem SBelow.of_below (h : Below w.heap.size w w') : SBelow S w w' := ⟨h.os, h.tape, h.output, h.size, fun k hk _ _ _ _ => h.block k hk⟩
theorem SBelow.of_pages (h : PBelow w w' S.gP S.bP) : SBelow S w w' := ⟨h.1, h.2.1, h.2.2.1, h.2.2.2.1, fun k hk _ b _ e => h.2.2.2.2 k hk b e⟩
theorem SBelow.of_nodes (h : PBelow w w' S.gN S.bN) : SBelow S w w' := ⟨h.1, h.2.1, h.2.2.1, h.2.2.2.1, fun k hk a _ c _ => h.2.2.2.2 k hk a c⟩
theorem SBelow.below {N : Nat} (h : SBelow S w w') (hN : N ≤ w.heap.size) (h1 : N ≤ S.gN) (h2 : N ≤ S.gP) (h3 : N ≤ S.bN) (h4 : N ≤ S.bP) : Below N w w' :=
  ⟨h.1, h.2.1, h.2.2.1, h.2.2.2.1, fun k hk => h.2.2.2.2 k (by omega) (by omega) (by omega) (by omega) (by omega)⟩
/-- Blocks behind the start were written. -/
theorem SBelow.put (h : SBelow S w w') (b : Nat) (hb : w.heap.size ≤ b) (j : Nat) (u : Value) : SBelow S w (w'.setCell ⟨b, j, none⟩ u) :=
  ⟨h.1, h.2.1, h.2.2.1, by simpa using h.2.2.2.1, fun k hk a c e f => by rw [Below.heap_setCell _ _ _ _ (show k ≠ b by omega)]; exact h.2.2.2.2 k hk a c e f⟩
theorem SBelow.put5 (h : SBelow S w w') (b : Nat) (hb : w.heap.size ≤ b) (z0 z1 z2 z3 z4 : Value) : SBelow S w (((((w'.setCell ⟨b, 0, none⟩ z0).setCell ⟨b, 1, none⟩ z1).setCell ⟨b, 2, none⟩ z2).setCell ⟨b, 3, none⟩ z3).setCell ⟨b, 4, none⟩ z4) :=
  ((((h.put b hb 0 z0).put b hb 1 z1).put b hb 2 z2).put b hb 3 z3).put b hb 4 z4
theorem SyAt.put (h : SyAt w base S d) (b : Nat) (hb : S.x ≠ b ∧ S.gN ≠ b ∧ S.gP ≠ b ∧ S.bN ≠ b ∧ S.bP ≠ b) (j : Nat) (u : Value) : SyAt (w.setCell ⟨b, j, none⟩ u) base S d := h.far (gset5 _ _ _ _) hb
/-- The nodes' places were written. -/
theorem SyAt.slotN (h : SyAt w base S d) (i o : Nat) (hi : i < S.n) (v : Value) (ho : o < 4) (lN dN : Nat → Bool) (vN oN : Nat → Int) (hv : ∀ a b, a < S.n → b < 4 → updS (slW d.lN d.dN d.vN d.oN) i o [v] a b = slW lN dN vN oN a b) :
    SyAt (w.setCell ⟨S.gN, i * 4 + o, none⟩ v) base S { d with lN := lN, dN := dN, vN := vN, oN := oN } ∧ w.grownBy (w.setCell ⟨S.gN, i * 4 + o, none⟩ v) (some S.gN) := by
  have hs := own_setCells [v] (i * 4 + o) _ _ h.ns
  rw [flatS_over 4 _ S.n i o [v] hi (by simp; omega), flatS_congr' (by decide) hv] at hs
  have hx := hs.2.block S.x h.xl (fun e => h.ne.1 (by injection e with e; exact e.symm))
  obtain ⟨n1, n2, n3, n4, n5, n6, n7, n8, n9, n10⟩ := h.ne
  exact ⟨⟨h.xb, Nat.lt_of_lt_of_le h.xl hs.2.size, (World.cell?_of_block (a := ⟨S.x, 0, none⟩) hx).trans h.f0, (World.cell?_of_block (a := ⟨S.x, 1, none⟩) hx).trans h.f1, (World.cell?_of_block (a := ⟨S.x, 6, none⟩) hx).trans h.f6, (World.cell?_of_block (a := ⟨S.x, 7, none⟩) hx).trans h.f7, hs.1, own_ne h.ps hs.2 (Ne.symm n5), own_ne h.nd hs.2 (Ne.symm n6), own_ne h.pg hs.2 (Ne.symm n7), h.ne⟩, hs.2⟩
/-- A node's keys were written. -/
theorem SyAt.keys (h : SyAt w base S d) (i o : Nat) (hi : i < S.n) (xs : List Value) (ho : o + xs.length ≤ 80) :
    SyAt (w.setCells S.bN (i * 80 + o) xs) base S { d with wN := updS d.wN i o xs } ∧ w.grownBy (w.setCells S.bN (i * 80 + o) xs) (some S.bN) := by
  have hs := own_setCells xs (i * 80 + o) _ _ h.nd
  rw [flatS_over 80 _ S.n i o xs hi ho] at hs
  have hx := hs.2.block S.x h.xl (fun e => h.ne.2.2.1 (by injection e with e; exact e.symm))
  obtain ⟨n1, n2, n3, n4, n5, n6, n7, n8, n9, n10⟩ := h.ne
  exact ⟨⟨h.xb, Nat.lt_of_lt_of_le h.xl hs.2.size, (World.cell?_of_block (a := ⟨S.x, 0, none⟩) hx).trans h.f0, (World.cell?_of_block (a := ⟨S.x, 1, none⟩) hx).trans h.f1, (World.cell?_of_block (a := ⟨S.x, 6, none⟩) hx).trans h.f6, (World.cell?_of_block (a := ⟨S.x, 7, none⟩) hx).trans h.f7, own_ne h.ns hs.2 n6, own_ne h.ps hs.2 n8, hs.1, own_ne h.pg hs.2 (Ne.symm n10), h.ne⟩, hs.2⟩
theorem SyAt.thereN (h : SyAt w base S d) (i : Nat) (hi : i < S.n) : w.there S.bN (i * 80) 80 := fun j hj => by
  rw [h.nd.cellAt (i * 80 + j) (mid_lt hi hj), flatS_at 80 _ S.n i j hi hj]
  exact ⟨rfl, h.nd.frozenAt _⟩
theorem SyAt.nkey (h : SyAt w base S d) (i j : Nat) (hi : i < S.n) (hj : j < 80) : w.cell? ⟨S.bN, i * 80 + j, none⟩ = some (d.wN i j) := by
  rw [h.nd.cellAt (i * 80 + j) (mid_lt hi hj), flatS_at 80 _ S.n i j hi hj]
end
set_option maxRecDepth 100000 in
set_option maxHeartbeats 4000000 in
theorem smakenode0 {base : Nat} {S : SyS} {d : SyD} (j : Nat) (hj : j < S.n) (hn : S.n ≤ 256) (hyes : Hid (d.lN j = false ∧ d.dN j = false)) (hno : Hid (∀ i, i < j → (!d.lN i && !d.dN i) = false)) (w : World) (h : SyAt w base S d) :
    Calls Tryd.prog 73 #[.pointer (some ⟨S.x, 0, none⟩), .slice none 0 0] w fun e w' => e = .returned (.tuple #[.int .i64 j, .int .i64 0]) ∧ SyAt w' base S { d with lN := upd d.lN j true, wN := updS d.wN j 0 zs80 } ∧ PBelow w w' S.gN S.bN := by
  have H := Lib.hid h
  have f1 := h.f0
  have j0 : (0 : Int) ≤ j := by omega
  have j1 : (j : Int) < S.n := by omega
  have dj : decide ((j : Int) < 0) = false := decide_eq_false (by omega)
  clear h
  go_enter Tryd.func73, Tryd.ntmps73
  go_wp2_with fail
  go_loopw [6] (fun z wr => z = .int .i64 0 ∧ wr = w) (fun _ _ => 0)
  case atStart => exact ⟨rfl, rfl⟩
  case round =>
    obtain ⟨rfl, rfl⟩ := hrel
    go_wp2_with (first
      | (go_at_call 91; (with_reducible refine (take_is j hj hn hyes hno _ H.out.ns).mono ?_); rintro e w1 ⟨rfl, hb⟩; have H1 := Lib.hid (H.out.below hb); have P1 := Lib.hid (PBelow.of_below (B := S.gN) (G := S.bN) hb); have g1 := H1.out.f0; have l1 := (H1.out.nslot j hj).1; have y1 := H1.out.ns.frozenAt (j * 4); have hs2 := H1.out.slotN j 0 hj (.bool true) (by decide) (upd d.lN j true) d.dN d.vN d.oN (fun a b _ _ => slW_live _ _ _ _ j true a b); rw [Nat.add_zero] at hs2; have H2 := Lib.hid hs2.1; have P2 := Lib.hid (P1.out.trans (PBelow.of (G := S.bN) hs2.2 (.inl rfl))); have g7 := H2.out.f6; have HTh := Lib.hid (H2.out.thereN j hj); clear hb f1 hs2)
      | (refine wpList_store_mid (by rfl) _ _ _ (by rfl) S.bN (j * 80) zs80.toArray (by rfl) (by rfl) HTh.out infoZK zk_one ?_; obtain ⟨w3, hw3⟩ : ∃ w3, w3 = (w1.setCell ⟨S.gN, j * 4, none⟩ (.bool true)).setCells S.bN (j * 80) (zs80.toArray).toList := ⟨_, rfl⟩; rw [← hw3]; have hs3 := H2.out.keys j 0 hj zs80 (by rw [zs80_len]; omega); rw [Nat.add_zero, ← zk_list, ← hw3] at hs3; have H3 := Lib.hid hs3.1; have P3 := Lib.hid (P2.out.trans (PBelow.of (B := S.gN) hs3.2 (.inr rfl))); clear hw3 hs3))
    go_loopw [9] (fun z wr => z = .int .i64 0 ∧ wr = w3) (fun _ _ => 0)
    case atStart => exact ⟨rfl, rfl⟩
    case round =>
      obtain ⟨rfl, rfl⟩ := hrel
      go_wp2_with fail
      go_ret2
      exact ⟨rfl, H3.out, P3.out⟩
set_option maxRecDepth 100000 in
theorem syskey_node {base : Nat} {S : SyS} {d : SyD} (k : Nat) (hk : k < S.n) (ht : Hid (d.lN k = true)) (v : Int) (hv : Hid (d.vN k = v)) (w : World) (h : SyAt w base S d) :
    Calls Tryd.prog 72 #[.pointer (some ⟨S.x, 0, none⟩), .int .i64 2, .int .i64 k] w fun e w' => e = .returned (.agg #[.int .i64 2, .int .i64 k, .int .i64 v, .int .i64 0, .int .u32 0]) ∧ Below w.heap.size w w' := by
  have H := Lib.hid (fun o => h.below ((Below.refl _ _).alloc (Nat.le_refl _) _ : Below w.heap.size w (w.alloc o)))
  have f1 : ∀ o, (w.alloc o).cell? ⟨S.x, 0, none⟩ = some (.slice (some ⟨S.gN, 0, none⟩) S.n S.cN) := fun o => (H.out o).f0
  clear h
  go_enter Tryd.func72, Tryd.ntmps72
  go_wp2_with (first
    | (go_at_call 92; (with_reducible refine (skey_in 2 k hk ht v hv _ (H.out _).ns).mono ?_); rintro e w1 ⟨rfl, hb⟩; have HB := Lib.hid (Below.trans ((Below.refl _ _).alloc (Nat.le_refl _) _) (hb.mono (by simp))); have hc := fun b o (hb0 : b < _) => hb.cell (p := ⟨b, o, none⟩) hb0; have hf := fun b o (hb0 : b < _) => hb.frozen (p := ⟨b, o, none⟩) hb0; clear hb))
  refine bodyPost_ret (v := .agg #[.int .i64 2, .int .i64 (k : Int), .int .i64 v, .int .i64 0, .int .u32 0]) (by simp [results, Tryd.results72, go_sem, hc]) rfl ⟨rfl, ?_⟩
  exact ((((HB.out.setCell (Nat.le_refl _) _).setCell (Nat.le_refl _) _).setCell (Nat.le_refl _) _).setCell (Nat.le_refl _) _).setCell (Nat.le_refl _) _
theorem syskey_node_at {base : Nat} {S : SyS} {d : SyD} (id : Int) (k : Nat) (hid : Hid (id = k)) (hk : k < S.n) (ht : Hid (d.lN k = true)) (v : Int) (hv : Hid (d.vN k = v)) (w : World) (h : SyAt w base S d) :
    Calls Tryd.prog 72 #[.pointer (some ⟨S.x, 0, none⟩), .int .i64 2, .int .i64 id] w fun e w' => e = .returned (.agg #[.int .i64 2, .int .i64 id, .int .i64 v, .int .i64 0, .int .u32 0]) ∧ Below w.heap.size w w' := by
  rw [hid.out]
  exact syskey_node k hk ht v hv w h
set_option maxRecDepth 100000 in
set_option maxHeartbeats 4000000 in
theorem tree0_at {base : Nat} {S : SyS} {d : SyD} (a : Option Addr) (q c j : Nat) (hq : q ≤ 100) (hj : j < S.m) (hm : S.m ≤ 256) (hyes : Hid (d.lP j = false ∧ d.dP j = false)) (hno : Hid (∀ i, i < j → (!d.lP i && !d.dP i) = false)) (v : Int) (hv : Hid (d.vP j = v)) (w : World) (h : SyAt w base S d) :
    Calls Tryd.prog 41 #[.pointer (some ⟨S.x, 0, none⟩), .int .i64 0, .slice a q c] w fun e w' => e = .returned (.agg #[.int .i64 3, .int .i64 j, .int .i64 v, .int .i64 0, .int .u32 0]) ∧ SyAt w' base S { d with lP := upd d.lP j true, wP := pg2 d.wP j q 5 2 } ∧ PBelow w w' S.gP S.bP := by
  have H : Hid (∀ o o', SyAt ((w.alloc o).alloc o') base S d) := Lib.hid (fun o o' => (h.below ((Below.refl _ _).alloc (Nat.le_refl _) _ : Below w.heap.size w (w.alloc o))).below ((Below.refl _ _).alloc (Nat.le_refl _) _))
  have HL : Hid (S.gP < w.heap.size ∧ S.bP < w.heap.size ∧ S.x < w.heap.size ∧ S.gN < w.heap.size ∧ S.bN < w.heap.size) := Lib.hid ⟨(h.ps.lt S.gP rfl).2, (h.pg.lt S.bP rfl).2, h.xl, (h.ns.lt S.gN rfl).2, (h.nd.lt S.bN rfl).2⟩
  have HG : ∀ o o', w.heap.size + 1 < ((w.alloc o).alloc o').heap.size := fun o o' => by simp
  have HB2 : Hid (∀ o o', Below w.heap.size w ((w.alloc o).alloc o')) := Lib.hid (fun o o' => (Below.trans ((Below.refl _ _).alloc (Nat.le_refl _) _) (Below.mono ((Below.refl _ _).alloc (Nat.le_refl _) _) (by simp))))
  have q0 : (0 : Int) ≤ q := by omega
  have q1 : (q : Int) < 4294967296 := by omega
  clear h
  go_enter Tryd.func41, Tryd.ntmps41
  go_wp2_with (first
    | (go_at_call 71; (with_reducible refine (smakepage2 q 5 (w.heap.size + 1) j hj hm hyes hno _ (H.out _ _) (HG _ _) (by have := HL.out; omega) (by simp) (by simp)).mono ?_); rintro e w1 ⟨rfl, hs, hp⟩; have H1 := Lib.hid hs; have hbx := pbel_box hp (b := w.heap.size) (Nat.lt_trans (Nat.lt_succ_self _) (HG _ _)) (by have := HL.out; omega) (by have := HL.out; omega); have hlt : w.heap.size < w1.heap.size := Nat.lt_of_lt_of_le (Nat.lt_trans (Nat.lt_succ_self _) (HG _ _)) hp.2.2.2.1; have P1 := Lib.hid ((PBelow.of_below (B := S.gP) (G := S.bP) (HB2.out _ _)).trans hp); obtain ⟨hc, hf⟩ := hbx; clear hs hp)
    | (go_at_call 72; (with_reducible refine (syskey_at (d := { d with lP := upd d.lP j true, wP := pg2 d.wP j q 5 2 }) j j (Lib.hid rfl) hj (Lib.hid (upd_at _ _ _)) v hv _ H1.out).mono ?_); rintro e w2 ⟨rfl, hb⟩; have H2 := Lib.hid (H1.out.below hb); have P2 := Lib.hid (P1.out.trans (PBelow.of_below hb)); have hc2 := fun o => hb.cell (p := ⟨w.heap.size, o, none⟩) hlt; have hf2 := fun o => hb.frozen (p := ⟨w.heap.size, o, none⟩) hlt; clear hb))
  refine bodyPost_ret (v := .agg #[.int .i64 3, .int .i64 (j : Int), .int .i64 v, .int .i64 0, .int .u32 0]) (by simp [results, Tryd.results41, go_sem, hc2, hc]) rfl ⟨rfl, ?_, ?_⟩
  · exact sy_set5 H2.out _ (by have := HL.out; omega) _ _ _ _ _
  · exact pbel_set5 P2.out _ (Nat.le_refl _) _ _ _ _ _
/-- A tree of height 1: of its first n slots each a page. -/
def tr1 (n : Nat) (wN : Nat → Nat → Value) (wP : Nat → Nat → Int) : SyD := ⟨upd (fun _ => false) 0 true, fun _ => false, fun _ => 0, fun _ => -1, ltB n, fun _ => false, fun _ => 0, fun _ => -1, wN, wP⟩
/-- The slots of a node: the first n are pages, the rest are void. -/
def Pgs (f : Nat → Value) (n : Nat) : Prop := (∀ i, i < n → KAt f i 3 i 0 0 0) ∧ ∀ i, n ≤ i → i < 16 → KAt f i 0 0 0 0 0
theorem Pgs.zero (W : Nat → Nat → Value) : Pgs (updS W 0 0 zs80 0) 0 := by
  refine ⟨fun i hi => by omega, fun i _ hi => ?_⟩
  have h : ∀ q, q < 5 → updS W 0 0 zs80 0 (i * 5 + q) = kval q 0 := fun q hq => by
    have h1 := updS_in W 0 0 zs80 (i * 5 + q) (by rw [zs80_len]; omega)
    rw [Nat.zero_add] at h1
    rw [← zc_q i q hq]
    have h2 : zs80[i * 5 + q]? = some (zc (i * 5 + q)) := by unfold zs80; rw [List.getElem?_map, List.getElem?_range (by omega)]; rfl
    rw [h2] at h1
    exact Option.some.inj h1
  exact ⟨h 0 (by decide), h 1 (by decide), h 2 (by decide), h 3 (by decide), h 4 (by decide)⟩
theorem Pgs.next {W : Nat → Nat → Value} {n : Nat} (h : Pgs (W 0) n) (hn : n < 16) : Pgs (updS W 0 (n * 5) (k5 3 n 0 0 0) 0) (n + 1) := by
  have e : updS W 0 (n * 5) (k5 3 n 0 0 0) = updV W 0 (n * 5) (k5 3 n 0 0 0) := rfl
  rw [e]
  refine ⟨fun i hi => ?_, fun i hi h16 => updV_rest W 0 n 0 i 3 n 0 0 0 (fun e => by omega) (h.2 i (by omega) h16)⟩
  by_cases hin : i = n
  · subst hin; exact updV_key W 0 i 3 i 0 0 0
  · exact updV_rest W 0 n 0 i 3 n 0 0 0 (fun e => by omega) (h.1 i (by omega))
theorem tr1_page (k : Nat) (wN : Nat → Nat → Value) (wP wP' : Nat → Nat → Int) : { tr1 k wN wP with lP := upd (ltB k) k true, wP := wP' } = tr1 (k + 1) wN wP' := by
  unfold tr1
  simp only [ltB_s]
set_option maxRecDepth 100000 in
set_option maxHeartbeats 8000000 in
theorem tree1_is {base : Nat} {S : SyS} (n L g : Nat) (hn : n ≤ 3) (hL : Hid (2 * n ≤ L ∧ L ≤ 2 * n + 1)) (hN : Hid (1 ≤ S.n ∧ S.n ≤ 256 ∧ n ≤ S.m ∧ S.m ≤ 256)) (hg : Hid (S.gN ≠ g ∧ S.gP ≠ g ∧ S.bN ≠ g ∧ S.bP ≠ g)) (w : World) (wN : Nat → Nat → Value) (wP : Nat → Nat → Int) (h : SyAt w base S ⟨fun _ => false, fun _ => false, fun _ => 0, fun _ => -1, fun _ => false, fun _ => false, fun _ => 0, fun _ => -1, wN, wP⟩) (hgl : g < w.heap.size) (hl : Hid (∀ i, i < n → w.cell? ⟨g, 2 * i, none⟩ = some (.int .i64 i) ∧ w.cell? ⟨g, 2 * i + 1, none⟩ = some (.int .i64 1))) :
    Calls Tryd.prog 41 #[.pointer (some ⟨S.x, 0, none⟩), .int .i64 1, .slice (some ⟨g, 0, none⟩) L L] w fun e w' => e = .returned (.agg #[.int .i64 2, .int .i64 0, .int .i64 0, .int .i64 0, .int .u32 1]) ∧ ∃ wN' wP', SyAt w' base S (tr1 n wN' wP') ∧ Pgs (wN' 0) n ∧ SBelow S w w' := by
  have H := Lib.hid h
  have HL : Hid (S.gP < w.heap.size ∧ S.bP < w.heap.size ∧ S.x < w.heap.size ∧ S.gN < w.heap.size ∧ S.bN < w.heap.size ∧ g < w.heap.size) := Lib.hid ⟨(h.ps.lt S.gP rfl).2, (h.pg.lt S.bP rfl).2, h.xl, (h.ns.lt S.gN rfl).2, (h.nd.lt S.bN rfl).2, hgl⟩
  obtain ⟨R, hR⟩ : ∃ R, Hid (w.heap.size = R) := ⟨_, Lib.hid rfl⟩
  clear h hgl
  go_enter Tryd.func41, Tryd.ntmps41
  go_upto_region 6 with fail
  obtain ⟨w1, hw1⟩ : ∃ w1, w1 = w.alloc (.cells #[.int .i64 0, .int .i64 0, .int .i64 0, .int .i64 0, .int .u32 0] 29 (0, 0)) := ⟨_, rfl⟩
  rw [← hw1]
  have H1 : Hid (SyAt w1 base S _) := Lib.hid (by rw [hw1]; exact H.out.below ((Below.refl _ _).alloc (Nat.le_refl _) _))
  have B1 : Hid (Below w.heap.size w w1) := Lib.hid (by rw [hw1]; exact (Below.refl _ _).alloc (Nat.le_refl _) _)
  have HK1 : Hid (KeyC w1 w.heap.size 0 0 0 0 0) := Lib.hid (by rw [hw1]; exact KeyC.new _ _ _ _ _ _ _)
  clear hw1
  rw [hR.out] at HK1 ⊢
  have HRo : Hid (S.x ≠ R ∧ S.gN ≠ R ∧ S.gP ≠ R ∧ S.bN ≠ R ∧ S.bP ≠ R) := Lib.hid (by rw [← hR.out]; have := HL.out; omega)
  go_upto_region 9 with (first
    | (go_at_call 73; (with_reducible refine (smakenode0 0 (by have := hN.out; omega) hN.out.2.1 (Lib.hid ⟨rfl, rfl⟩) (Lib.hid (by intro i hi; omega)) _ H1.out).mono ?_); rintro e w2 ⟨rfl, hs, hp⟩; have H2 := Lib.hid hs; have P2 := Lib.hid ((SBelow.of_below (S := S) B1.out).trans (SBelow.of_nodes hp)); have HK2 := Lib.hid (HK1.out.pbelow hp (fun e => HRo.out.2.1 e.symm) (fun e => HRo.out.2.2.2.1 e.symm)); clear hs hp))
  have HZ : Hid (Pgs (updS wN 0 0 zs80 0) 0) := Lib.hid (Pgs.zero wN)
  have HLn : Hid (L ≤ 7) := Lib.hid (by have := hL.out; omega)
  go_wp2_with fail
  go_loopw [11] (fun z wr => ∃ (k : Nat) (wN' : Nat → Nat → Value) (wP' : Nat → Nat → Int), k ≤ n ∧ z = .int .i64 ((2 * k : Nat) : Int) ∧ SyAt wr base S (tr1 k wN' wP') ∧ Pgs (wN' 0) k ∧ SBelow S w wr ∧ KeyC wr R 0 0 0 0 0) (fun z _ => 8 - (intOf z).toNat)
  case atStart => exact ⟨0, _, _, by omega, rfl, by have := H2.out; unfold tr1; rw [ltB_0]; exact this, HZ.out, P2.out, HK2.out⟩
  case round =>
    obtain ⟨k, wN', wP', hk, rfl, hs, hpg, hsb, hkr⟩ := hrel
    have HR := Lib.hid hs
    have HPG := Lib.hid hpg
    have HSB := Lib.hid hsb
    have HKR := Lib.hid hkr
    obtain ⟨q, hq⟩ : ∃ q, Hid (2 * k = q) := ⟨_, Lib.hid rfl⟩
    rw [hq.out]
    have q0 : (0 : Int) ≤ q := by omega
    clear hs hpg hsb hkr
    by_cases hlt : k < n
    · have q1 : (q : Int) + 1 < L := by have := hq.out; have := hL.out; omega
      have q8 : (q : Int) < 8 := by have := hq.out; omega
      have qL : (q : Int) < L := by omega
      have hgb := HSB.out.2.2.2.2 g HL.out.2.2.2.2.2 (fun e => hg.out.1 e.symm) (fun e => hg.out.2.1 e.symm) (fun e => hg.out.2.2.1 e.symm) (fun e => hg.out.2.2.2 e.symm)
      have c0 := (World.cell?_of_block (a := ⟨g, 2 * k, none⟩) hgb).trans (hl.out k hlt).1
      have c1 := (World.cell?_of_block (a := ⟨g, 2 * k + 1, none⟩) hgb).trans (hl.out k hlt).2
      rw [hq.out] at c0 c1
      have HAnd : Hid (bits BinOp.and IntKind.i64 (k : Int) 15 = k) := Lib.hid (by have h3 : k = 0 ∨ k = 1 ∨ k = 2 := (by omega); rcases h3 with rfl | rfl | rfl <;> rfl)
      clear hgb
      go_upto_region 13 with fail
      rw [HAnd.out]
      go_upto_region 18 with fail
      have hsl : ∀ W, (Instr.sliceAt 22 (.slice (some ⟨g, 0, none⟩) L L) (some (.int .i64 ((q : Int) + 1))) none none).run Tryd.prog W = .ok (.slice (some ⟨g, q + 1, none⟩) (L - (q + 1)) (L - (q + 1))) W := fun W => by
        have hel : Tryd.prog.elem 22 = 3 := by kernel_rfl
        have ht : Tryd.prog.underlying 22 = some (.slice (Tryd.prog.elem 22)) := by rw [hel]; exact Tryd.underlying22
        have e1 : ((q : Int) + 1).toNat = q + 1 := by omega
        have hsz : (sizeOf 3).run Tryd.prog W = .ok 1 W := by kernel_rfl
        rw [run_sliceAt_slice W _ _ _ _ _ ht, run_slice_l W _ _ _ _ ht .i64 ((q : Int) + 1) (by omega) (by omega), hel, hsz, Result.andThen, e1]
        unfold sliced
        rw [if_neg (by omega)]
        simp [Addr.add]
      have HLk : Hid (L - (q + 1) ≤ 100) := Lib.hid (by have := HLn.out; omega)
      have HKm : Hid (k < S.m) := Lib.hid (by have := hN.out; omega)
      go_upto_region 19 with (first
        | (go_at_call 41; (with_reducible refine (tree0_at (some ⟨g, q + 1, none⟩) (L - (q + 1)) (L - (q + 1)) k HLk.out HKm.out hN.out.2.2.2 (Lib.hid ⟨by simp [tr1, ltB], rfl⟩) (Lib.hid (by intro i hi; simp [tr1, ltB, hi])) 0 (Lib.hid rfl) _ HR.out).mono ?_); rintro e w3 ⟨rfl, hs, hp⟩; have hs' := hs; rw [show (tr1 k wN' wP').lP = ltB k from rfl] at hs'; rw [tr1_page] at hs'; have H3 := Lib.hid hs'; have HSB3 := Lib.hid (HSB.out.trans (SBelow.of_pages hp)); have HKR3 := Lib.hid (HKR.out.pbelow hp (fun e => HRo.out.2.2.1 e.symm) (fun e => HRo.out.2.2.2.2 e.symm)); clear hs hs' hp hsl))
      obtain ⟨WP3, hWP3⟩ : ∃ WP3, WP3 = pg2 (tr1 k wN' wP').wP k ((L - (q + 1) : Nat) : Int) 5 2 := ⟨_, rfl⟩
      rw [← hWP3] at H3
      obtain ⟨w4, hw4⟩ : ∃ w4, w4 = w3.alloc (.cells #[.int .i64 3, .int .i64 k, .int .i64 0, .int .i64 0, .int .u32 0] 29 (0, 0)) := ⟨_, rfl⟩
      rw [← hw4]
      have H4 : Hid (SyAt w4 base S (tr1 (k + 1) wN' WP3)) := Lib.hid (by rw [hw4]; exact H3.out.below ((Below.refl _ _).alloc (Nat.le_refl _) _))
      have HX4 : Hid (KeyC w4 w3.heap.size 3 k 0 0 0) := Lib.hid (by rw [hw4]; exact KeyC.new _ _ _ _ _ _ _)
      have HKR4 : Hid (KeyC w4 R 0 0 0 0 0) := Lib.hid (by rw [hw4]; exact HKR3.out.below ((Below.refl _ _).alloc (Nat.le_refl _) _))
      have HSB4 : Hid (SBelow S w w4) := Lib.hid (HSB3.out.trans (by rw [hw4]; exact SBelow.of_below ((Below.refl _ _).alloc (Nat.le_refl _) _)))
      obtain ⟨xb, hxb⟩ : ∃ xb, Hid (w3.heap.size = xb) := ⟨_, Lib.hid rfl⟩
      rw [hxb.out] at HX4 ⊢
      have HXne : Hid (S.bN ≠ xb) := Lib.hid (by rw [← hxb.out]; have := (H3.out.nd.lt S.bN rfl).2; omega)
      clear hw4 hWP3 hxb
      go_upto_region 25 with fail
      have HD : Hid (SyAt w4.drew base S (tr1 (k + 1) wN' WP3)) := Lib.hid (H4.out.below (Below.refl _ _).drew)
      have HXD : Hid (KeyC w4.drew xb 3 k 0 0 0) := Lib.hid (HX4.out.below (Below.refl _ _).drew)
      have HTh : Hid (World.there w4.drew S.bN (k * 5) 5) := Lib.hid (fun j hj => by
        have h1 := HD.out.nkey 0 (k * 5 + j) (by have := hN.out; omega) (by omega)
        rw [Nat.zero_mul, Nat.zero_add] at h1
        exact ⟨by rw [h1]; rfl, HD.out.nd.frozenAt _⟩)
      have k0 : (0 : Int) ≤ k := by omega
      have k1 : (k : Int) < 16 := by omega
      have b0 : 0 < S.n := by have := hN.out; omega
      have k16 : k < 16 := by omega
      refine wp_region_noPanic ?_
      refine wp_region_held_drew (S := fun w' => World.cell? w' ⟨S.x, 6, none⟩ = some (.slice (some ⟨S.bN, 0, none⟩) S.n S.n) ∧ World.cell? w' ⟨xb, 0, none⟩ = some (.int .i64 3) ∧ World.cell? w' ⟨xb, 1, none⟩ = some (.int .i64 k) ∧ World.cell? w' ⟨xb, 2, none⟩ = some (.int .i64 0) ∧ World.cell? w' ⟨xb, 3, none⟩ = some (.int .i64 0) ∧ World.cell? w' ⟨xb, 4, none⟩ = some (.int .u32 0)) (by kernel_rfl) ⟨HD.out.f6, HXD.out.c0, HXD.out.c1, HXD.out.c2, HXD.out.c3, HXD.out.c4⟩ (fun hHeld => ?_)
      refine wpAnyH_take (i := 0) (v := ?_) (by rfl) (by kernel_rfl) (by kernel_rfl) (by kernel_rfl) (fun _ _ _ h => h) (Or.inl ⟨by kernel_rfl, ?_⟩) (by assumption) ?_; rotate_left 1; (focus (intro w hSw; (try dsimp only at hSw); simp only [List.getElem_toArray, List.getElem_cons_succ, List.getElem_cons_zero]; all_goals go_simp; all_goals (try with_reducible rfl))); (try simp only [Act.put, List.getElem_toArray, List.getElem_cons_succ, List.getElem_cons_zero, List.setIfInBounds_toArray, List.set_cons_zero, List.set_cons_succ])
      refine wpAnyH_take (i := 1) (v := ?_) (by rfl) (by kernel_rfl) (by kernel_rfl) (by kernel_rfl) (fun _ _ _ h => h) (Or.inl ⟨by kernel_rfl, ?_⟩) (by assumption) ?_; rotate_left 1; (focus (intro w hSw; (try dsimp only at hSw); simp only [List.getElem_toArray, List.getElem_cons_succ, List.getElem_cons_zero]; all_goals go_simp; all_goals (try with_reducible rfl))); (try simp only [Act.put, List.getElem_toArray, List.getElem_cons_succ, List.getElem_cons_zero, List.setIfInBounds_toArray, List.set_cons_zero, List.set_cons_succ])
      refine wpAnyH_take (i := 2) (v := ?_) (by rfl) (by kernel_rfl) (by kernel_rfl) (by kernel_rfl) (fun _ _ _ h => h) (Or.inl ⟨by kernel_rfl, ?_⟩) (by assumption) ?_; rotate_left 1; (focus (intro w hSw; (try dsimp only at hSw); simp only [List.getElem_toArray, List.getElem_cons_succ, List.getElem_cons_zero]; all_goals go_simp; all_goals (try with_reducible rfl))); (try simp only [Act.put, List.getElem_toArray, List.getElem_cons_succ, List.getElem_cons_zero, List.setIfInBounds_toArray, List.set_cons_zero, List.set_cons_succ])
      refine wpAnyH_take (i := 3) (v := ?_) (by rfl) (by kernel_rfl) (by kernel_rfl) (by kernel_rfl) (fun _ _ _ h => h) (Or.inl ⟨by kernel_rfl, ?_⟩) (by assumption) ?_; rotate_left 1; (focus (intro w hSw; (try dsimp only at hSw); simp only [List.getElem_toArray, List.getElem_cons_succ, List.getElem_cons_zero]; all_goals go_simp; all_goals (try with_reducible rfl))); (try simp only [Act.put, List.getElem_toArray, List.getElem_cons_succ, List.getElem_cons_zero, List.setIfInBounds_toArray, List.set_cons_zero, List.set_cons_succ])
      refine wpAnyH_take (i := 4) (v := ?_) (by rfl) (by kernel_rfl) (by kernel_rfl) (by kernel_rfl) (fun _ _ _ h => h) (Or.inl ⟨by kernel_rfl, ?_⟩) (by assumption) ?_; rotate_left 1; (focus (intro w hSw; (try dsimp only at hSw); simp only [List.getElem_toArray, List.getElem_cons_succ, List.getElem_cons_zero]; all_goals go_simp; all_goals (try with_reducible rfl))); (try simp only [Act.put, List.getElem_toArray, List.getElem_cons_succ, List.getElem_cons_zero, List.setIfInBounds_toArray, List.set_cons_zero, List.set_cons_succ])
      refine wpAnyH_take (i := 5) (v := ?_) (by rfl) (by kernel_rfl) (by kernel_rfl) (by kernel_rfl) (fun _ _ _ h => h) (Or.inl ⟨by kernel_rfl, ?_⟩) (by assumption) ?_; rotate_left 1; (focus (intro w hSw; (try dsimp only at hSw); simp only [List.getElem_toArray, List.getElem_cons_succ, List.getElem_cons_zero]; all_goals go_simp; all_goals (try with_reducible rfl))); (try simp only [Act.put, List.getElem_toArray, List.getElem_cons_succ, List.getElem_cons_zero, List.setIfInBounds_toArray, List.set_cons_zero, List.set_cons_succ])
      refine wpAnyH_take (i := 6) (v := ?_) (by rfl) (by kernel_rfl) (by kernel_rfl) (by kernel_rfl) (fun _ _ _ h => h) (Or.inl ⟨by kernel_rfl, ?_⟩) (by assumption) ?_; rotate_left 1; (focus (intro w hSw; (try dsimp only at hSw); simp only [List.getElem_toArray, List.getElem_cons_succ, List.getElem_cons_zero]; all_goals go_simp; all_goals (try with_reducible rfl))); (try simp only [Act.put, List.getElem_toArray, List.getElem_cons_succ, List.getElem_cons_zero, List.setIfInBounds_toArray, List.set_cons_zero, List.set_cons_succ])
      refine wpAnyH_take (i := 7) (v := ?_) (by rfl) (by kernel_rfl) (by kernel_rfl) (by kernel_rfl) (fun _ _ _ h => h) (Or.inl ⟨by kernel_rfl, ?_⟩) (by assumption) ?_; rotate_left 1; (focus (intro w hSw; (try dsimp only at hSw); simp only [List.getElem_toArray, List.getElem_cons_succ, List.getElem_cons_zero]; all_goals go_simp; all_goals (try with_reducible rfl))); (try simp only [Act.put, List.getElem_toArray, List.getElem_cons_succ, List.getElem_cons_zero, List.setIfInBounds_toArray, List.set_cons_zero, List.set_cons_succ])
      refine wpAnyH_take (i := 8) (v := ?_) (by rfl) (by kernel_rfl) (by kernel_rfl) (by kernel_rfl) (fun _ _ _ h => h) (Or.inl ⟨by kernel_rfl, ?_⟩) (by assumption) ?_; rotate_left 1; (focus (intro w hSw; (try dsimp only at hSw); simp only [List.getElem_toArray, List.getElem_cons_succ, List.getElem_cons_zero]; all_goals go_simp; all_goals (try with_reducible rfl))); (try simp only [Act.put, List.getElem_toArray, List.getElem_cons_succ, List.getElem_cons_zero, List.setIfInBounds_toArray, List.set_cons_zero, List.set_cons_succ])
      refine wpAnyH_ready (rs := [9]) (by kernel_rfl) (by simp) ?_; refine AllReadyH.cons (by rfl) (fun K hK => ?_) AllReadyH.nil; rw [if_pos (by kernel_rfl)]; simp only [List.getElem_toArray, List.getElem_cons_succ, List.getElem_cons_zero]
      refine wp_store_mid _ _ _ (by rfl) S.bN (k * 5) #[.int .i64 3, .int .i64 k, .int .i64 0, .int .i64 0, .int .u32 0] (by rfl) (by rfl) HTh.out infoKey5 (by simp [Value.oneCell']) ?_
      have hs5 := HD.out.keys 0 (k * 5) (by have := hN.out; omega) (k5 3 k 0 0 0) (by simp [k5]; omega)
      rw [Nat.zero_mul, Nat.zero_add] at hs5
      have H5 := Lib.hid hs5.1
      have HX5 := Lib.hid (HXD.out.same hs5.2.size (hs5.2.block xb HXD.out.lt (fun e => HXne.out (by injection e with e; exact e.symm))))
      have HKR5 := Lib.hid ((HKR4.out.below (Below.refl _ _).drew).same hs5.2.size (hs5.2.block R (HKR4.out.below (Below.refl _ _).drew).lt (fun e => HRo.out.2.2.2.1 (by injection e with e; exact e.symm))))
      have HSB5 := Lib.hid ((HSB4.out.trans (SBelow.of_below (Below.refl _ _).drew)).trans (SBelow.of_nodes (PBelow.of (B := S.gN) hs5.2 (.inr rfl))))
      clear hs5
      refine hK.out _ (World.setCells w4.drew S.bN (k * 5) (k5 3 k 0 0 0)) ⟨H5.out.f6, HX5.out.c0, HX5.out.c1, HX5.out.c2, HX5.out.c3, HX5.out.c4⟩ (fun hHeld => ?_)
      clear hK K
      (try simp only [Act.put, List.getElem_toArray, List.getElem_cons_succ, List.getElem_cons_zero, List.setIfInBounds_toArray, List.set_cons_zero, List.set_cons_succ])
      refine wpAnyH_done (by kernel_rfl) ?_ _
      refine NoPanic.normal ?_
      go_wp2_with fail
      go_roundw
      case rel => exact ⟨k + 1, _, _, by omega, by (congr 1; have := hq.out; omega), H5.out, HPG.out.next k16, HSB5.out, HKR5.out⟩
      case measure => simp [intOf]; omega
    · obtain rfl : k = n := by omega
      have hle : ¬ ((q : Int) + 1 < L) := by have := hq.out; have := hL.out; omega
      have qs : (q : Int) < 8 := by have := hq.out; omega
      have HT0 : Hid ((tr1 k wN' wP').lN 0 = true) := Lib.hid rfl
      have HV0 : Hid ((tr1 k wN' wP').vN 0 = 0) := Lib.hid rfl
      go_wp2_with (first
        | (go_at_call 72; (with_reducible refine (syskey_node_at 0 0 (Lib.hid rfl) (by have := hN.out; omega) HT0 0 HV0 _ HR.out).mono ?_); rintro e w5 ⟨rfl, hb⟩; have H5 := Lib.hid (HR.out.below hb); have HSB5 := Lib.hid (HSB.out.trans (SBelow.of_below hb)); have HK5 := Lib.hid (HKR.out.below hb); have HKA := Lib.hid (fun o => HK5.out.below ((Below.refl _ _).alloc (Nat.le_refl _) _ : Below w5.heap.size w5 (w5.alloc o))); have hne : ¬ R = w5.heap.size := (by have := HK5.out.lt; omega); have y0 := fun o => (HKA.out o).c0; have y1 := fun o => (HKA.out o).c1; have y2 := fun o => (HKA.out o).c2; have y3 := fun o => (HKA.out o).c3; have y4 := fun o => (HKA.out o).c4; have g0 := fun o => (HKA.out o).fr 0; have g1 := fun o => (HKA.out o).fr 1; have g2 := fun o => (HKA.out o).fr 2; have g3 := fun o => (HKA.out o).fr 3; have g4 := fun o => (HKA.out o).fr 4; clear hb))
      have t := (HKA.out (.cells #[.int .i64 2, .int .i64 0, .int .i64 0, .int .i64 0, .int .u32 1] 29 (0, 0))).set 2 0 0 0 1
      have t0 := t.c0
      have t1 := t.c1
      have t2 := t.c2
      have t3 := t.c3
      have t4 := t.c4
      refine bodyPost_ret (v := .agg #[.int .i64 2, .int .i64 0, .int .i64 0, .int .i64 0, .int .u32 1]) (by simp [results, Tryd.results41, go_sem, t0, t1, t2, t3, t4]) rfl ⟨rfl, wN', wP', ?_, HPG.out, ?_⟩
      · exact sy_set5 (H5.out.below ((Below.refl _ _).alloc (Nat.le_refl _) _)) R HRo.out _ _ _ _ _
      · exact (HSB5.out.trans (SBelow.of_below ((Below.refl _ _).alloc (Nat.le_refl _) _))).put5 R (Nat.le_of_eq hR.out) _ _ _ _ _
end Go.Proofs.YtedidopkemjgeaaDoor
namespace Go.Proofs.YtedidopkemjgeaaDoor
open Go.ChangeShapes Go.WideShapes Go.ChangeAt Go.RowKit
set_option linter.unusedVariables false
set_option linter.unusedSimpArgs false
theorem Pgs.void {W : Nat → Nat → Value} {n q : Nat} (h : Pgs (W 0) n) (hq : n ≤ q) (h16 : q < 16) : Pgs (updV W 0 (q * 5) (k5 0 0 0 0 0) 0) n := by
  refine ⟨fun i hi => updV_rest W 0 q 0 i 0 0 0 0 0 (fun e => by omega) (h.1 i hi), fun i hi hi16 => ?_⟩
  by_cases hin : i = q
  · subst hin; exact updV_key W 0 i 0 0 0 0 0
  · exact updV_rest W 0 q 0 i 0 0 0 0 0 (fun e => by omega) (h.2 i hi hi16)
theorem Pgs.nextV {W : Nat → Nat → Value} {n : Nat} (h : Pgs (W 0) n) (hn : n < 16) : Pgs (updV W 0 (n * 5) (k5 3 n 0 0 0) 0) (n + 1) := h.next hn
theorem right_pg (q : Nat) (h : q ≤ 2) : rightB 3 q 0 0 0 = true := by
  have h3 : q = 0 ∨ q = 1 ∨ q = 2 := by omega
  rcases h3 with rfl | rfl | rfl <;> decide
/-- What is to be set into a slot. -/
theorem pgs_slot {f : Nat → Value} {n : Nat} (h : Pgs f n) (q : Nat) (hn : n ≤ 3) (hq : q < 16) : ∃ y0 y1 y2 y3 y4, KAt f q y0 y1 y2 y3 y4 ∧ rightB y0 y1 y2 y3 y4 = true ∧ ∀ W : Nat → Nat → Value, Pgs (W 0) (min q n) → Pgs (updV W 0 (q * 5) (k5 y0 y1 y2 y3 y4) 0) (min (q + 1) n) := by
  by_cases hqn : q < n
  · refine ⟨3, q, 0, 0, 0, h.1 q hqn, right_pg q (by omega), fun W hW => ?_⟩
    rw [Nat.min_eq_left (by omega)] at hW
    rw [Nat.min_eq_left (by omega)]
    exact hW.nextV (by omega)
  · refine ⟨0, 0, 0, 0, 0, h.2 q (by omega) hq, by decide, fun W hW => ?_⟩
    rw [Nat.min_eq_right (by omega)] at hW
    rw [Nat.min_eq_right (by omega)]
    exact hW.void (by omega) hq
theorem Pgs.all {f : Nat → Value} {n : Nat} (h : Pgs f n) : All16 f := fun j hj => by
  by_cases hjn : j < n
  · exact ⟨_, _, _, _, _, h.1 j hjn⟩
  · exact ⟨_, _, _, _, _, h.2 j (by omega) hj⟩
theorem Pgs.fresh (W : Nat → Nat → Value) : Pgs (freshV W 0 (kcs (fun _ _ => 0) 0) 0) 0 := ⟨fun i hi => by omega, fun i _ hi => freshV_nokey W 0 _ 0 i (Nat.zero_le _) hi⟩
theorem ltB_min (k n : Nat) (h : n ≤ k) : ltB (min k n) = ltB n := by rw [Nat.min_eq_right h]
set_option maxRecDepth 100000 in
set_option maxHeartbeats 16000000 in
theorem made10_is (n L g : Nat) (hn : n ≤ 3) (hL : Hid (2 * n ≤ L ∧ L ≤ 2 * n + 1)) (vs vr : Value) (w : World) (hE : ErrsAt vs vr w) (hgl : g < w.heap.size) (hl : Hid (∀ i, i < n → w.cell? ⟨g, 2 * i, none⟩ = some (.int .i64 i) ∧ w.cell? ⟨g, 2 * i + 1, none⟩ = some (.int .i64 1))) :
    Calls Tryd.prog 14 #[.int .i64 1, .slice (some ⟨g, 0, none⟩) L L] w fun e w' => ∃ S a b W W2, e = .returned (.tuple #[.pointer (some ⟨S, 0, none⟩), .agg #[.int .i64 2, .int .i64 0, .int .i64 0, .int .i64 0, .int .u32 1]]) ∧ SV w w' S a b (upd (fun _ => false) 0 true) (fun _ => 0) W (ltB n) (fun _ => 0) W2 ∧ Hid (Pgs (W 0) n) ∧ Hid (a.n = 16 ∧ b.n = 16) := by
  have HE := Lib.hid hE
  have HGL := Lib.hid hgl
  clear hE hgl
  go_enter Tryd.func14, Tryd.ntmps14
  go_upto_region 6 with (first
    | (go_at_call 40; (with_reducible refine (small_is 16 16 16 16 (Lib.hid ⟨rfl, rfl⟩) (by decide) (by decide) (by decide) (by decide) _).mono ?_); rintro e w1 ⟨Y, rfl, hs, hn', hb⟩; have HY := Lib.hid hs; have HN := Lib.hid hn'.out; have HK1 : Hid (KeyC w1 w.heap.size 0 0 0 0 0) := Lib.hid ((KeyC.new w 0 0 0 0 0 29).below hb); have B1 := Lib.hid (((Below.refl _ _).alloc (Nat.le_refl _) _ : Below w.heap.size w _).trans (hb.mono (by simp))); have HSep : Hid (w.heap.size + 1 ≤ Y.gN ∧ w.heap.size + 1 ≤ Y.gP ∧ w.heap.size + 1 ≤ Y.bN ∧ w.heap.size + 1 ≤ Y.bP) := Lib.hid (by have h1 := (hs.ns.lt Y.gN rfl).1; have h2 := (hs.ps.lt Y.gP rfl).1; have h3 := (hs.nd.lt Y.bN rfl).1; have h4 := (hs.pg.lt Y.bP rfl).1; simp at h1 h2 h3 h4; omega); clear hs hb hn')
    | (go_at_call 41; (with_reducible refine (tree1_is n L g hn hL (Lib.hid (by have := HN.out; omega)) (Lib.hid (by have := HSep.out; have := HGL.out; omega)) _ _ _ HY.out (by have := HGL.out; have := B1.out.size; omega) (Lib.hid (fun i hi => ⟨(B1.out.cell (p := ⟨g, 2 * i, none⟩) HGL.out).trans (hl.out i hi).1, (B1.out.cell (p := ⟨g, 2 * i + 1, none⟩) HGL.out).trans (hl.out i hi).2⟩))).mono ?_); rintro e w2 ⟨rfl, wN, wP, hs, hpg, hp⟩; have HY2 := Lib.hid hs; have HPG := Lib.hid hpg; have B2 := Lib.hid (B1.out.trans (hp.below B1.out.size (by have := HSep.out; omega) (by have := HSep.out; omega) (by have := HSep.out; omega) (by have := HSep.out; omega))); have HK2 : Hid (KeyC w2 w.heap.size 0 0 0 0 0) := Lib.hid (HK1.out.same hp.2.2.2.1 (hp.2.2.2.2 w.heap.size HK1.out.lt (by have := HSep.out; omega) (by have := HSep.out; omega) (by have := HSep.out; omega) (by have := HSep.out; omega))); clear hs hpg hp)
    | (go_at_call 24; (with_reducible refine (snew_ok 16 16 16 16 (Lib.hid rfl) (Lib.hid rfl) (by decide) (by decide) (by decide) (by decide) _).mono ?_); rintro e w4 ⟨S, a, b, rfl, hs, hn', hb⟩; have HM := Lib.hid hn'.out; have HS := Lib.hid hs; have B4 := Lib.hid hb; clear hs hn' hb))
  obtain ⟨wA, hwA⟩ : ∃ wA, wA = w2.alloc (.cells #[.int .i64 2, .int .i64 0, .int .i64 0, .int .i64 0, .int .u32 1] 29 (0, 0)) := ⟨_, rfl⟩
  rw [← hwA] at HM B4
  obtain ⟨D, HD⟩ : ∃ D : SyD, Hid (D = tr1 n wN wP) := ⟨_, Lib.hid rfl⟩
  have HYA : Hid (SyAt wA (w.heap.size + 1) Y D) := Lib.hid (by rw [hwA, HD.out]; have := HY2.out.below ((Below.refl _ _).alloc (Nat.le_refl _) _ : Below w2.heap.size w2 (w2.alloc (.cells #[.int .i64 2, .int .i64 0, .int .i64 0, .int .i64 0, .int .u32 1] 29 (0, 0)))); rw [show (w.alloc (.cells #[.int .i64 0, .int .i64 0, .int .i64 0, .int .i64 0, .int .u32 0] 29 (0, 0))).heap.size = w.heap.size + 1 by simp] at this; exact this)
  have HKA : Hid (KeyC wA w2.heap.size 2 0 0 0 1) := Lib.hid (by rw [hwA]; exact KeyC.new _ _ _ _ _ _ _)
  have HK0 : Hid (KeyC wA w.heap.size 0 0 0 0 0) := Lib.hid (by rw [hwA]; exact HK2.out.below ((Below.refl _ _).alloc (Nat.le_refl _) _))
  have BA : Hid (Below w.heap.size w wA) := Lib.hid (by rw [hwA]; exact B2.out.alloc B2.out.size _)
  have HSV : Hid (SV wA w4 S a b (fun _ => false) (fun _ => 0) (fun _ b => zc b) (fun _ => false) (fun _ => 0) (fun _ _ => 0)) := Lib.hid ⟨B4.out, Nat.le_of_eq HM.out.2.2.symm, HS.out⟩
  obtain ⟨kb, Hkb⟩ : ∃ kb, Hid (w2.heap.size = kb) := ⟨_, Lib.hid rfl⟩
  rw [Hkb.out] at HKA ⊢
  have HLP : Hid (∀ i, D.lP i = decide (i < n)) := Lib.hid (fun i => by rw [HD.out]; rfl)
  have HLN : Hid (∀ i, D.lN i = upd (fun _ => false) 0 true i) := Lib.hid (fun i => by rw [HD.out]; rfl)
  have HWN : Hid (Pgs (D.wN 0) n) := Lib.hid (by rw [HD.out]; exact HPG.out)
  have HNn : Hid (n ≤ 3) := Lib.hid hn
  clear hwA HY HK1 B1 HY2 B2 HK2 HS HD hn hL hl HPG B4
  go_wp2_with fail
  go_loopw [10] (fun z wr => ∃ (k : Nat) (W2 : Nat → Nat → Int), k ≤ 16 ∧ z = .int .i64 k ∧ SV wA wr S a b (fun _ => false) (fun _ => 0) (fun _ b => zc b) (ltB (min k n)) (fun _ => 0) W2) (fun z _ => 16 - (intOf z).toNat)
  case atStart => exact ⟨0, fun _ _ => 0, by omega, rfl, by rw [Nat.zero_min, ltB_0]; exact HSV.out⟩
  case round =>
    obtain ⟨k, W2, hk, rfl, hs⟩ := hrel
    have HR := Lib.hid hs
    have HYR := Lib.hid (HYA.out.below hs.bel)
    have f0 := HYR.out.f0
    have f1 := HYR.out.f1
    clear hs
    by_cases hlt : k < 16
    · have k0 : (0 : Int) ≤ k := by omega
      have k1 : (k : Int) < Y.m := by have := HN.out; omega
      have km : k < Y.m := by omega
      have c0 := (HYR.out.pslot k km).1
      rw [HLP.out] at c0
      by_cases hkn : k < n
      · have e : decide (k < n) = true := decide_eq_true hkn
        rw [e] at c0
        have HTH : Hid (ltB (min k n) = ltB k) := Lib.hid (by rw [Nat.min_eq_left (by omega)])
        have HTS : Hid (upd (ltB k) k true = ltB (min (k + 1) n)) := Lib.hid (by rw [Nat.min_eq_left (by omega), ltB_s])
        have HRD := Lib.hid (HR.out.step (Below.refl wr.heap.size wr).drew)
        have HYD := Lib.hid (HYR.out.below (Below.refl wr.heap.size wr).drew)
        have HSrc : Hid (SrcU wr.drew (some ⟨Y.bP, k * 32, none⟩) ((List.range 32).map (D.wP k)) b.B b.G) := Lib.hid (srcu_page HYD.out k km _ rfl _ _ (by have h1 := (HYA.out.pg.lt Y.bP rfl).2; have h2 := HR.out.wb; have h3 := HR.out.st.ab; have h4 := HR.out.st.pg.ar.lt.1; omega) (by have h1 := (HYA.out.pg.lt Y.bP rfl).2; have h2 := HR.out.wb; have h3 := HR.out.st.ab; have h4 := (HR.out.st.pg.row.lt b.G rfl).1; omega))
        have hkn' := Lib.hid hkn
        have HKB : Hid (k < b.n) := Lib.hid (by have := HM.out; omega)
        have HYB : Hid (∀ X, Below wA.heap.size wA X → World.cell? X ⟨Y.x, 7, none⟩ = some (.slice (some ⟨Y.bP, 0, none⟩) Y.m Y.m)) := Lib.hid (fun X hX => (HYA.out.below hX).f7)
        clear e hkn
        go_wp2_with fail
        refine wp_region_noPanic ?_
        refine wp_region_held_drew (S := fun w' => World.cell? w' ⟨S, 1, none⟩ = some (.pointer (some ⟨b.P, 0, none⟩)) ∧ World.cell? w' ⟨Y.x, 7, none⟩ = some (.slice (some ⟨Y.bP, 0, none⟩) Y.m Y.m)) (by kernel_rfl) ⟨HRD.out.st.s1, HYB.out _ HRD.out.bel⟩ (fun hHeld => ?_)
        refine wpAnyH_take (i := 0) (v := ?_) (by rfl) (by kernel_rfl) (by kernel_rfl) (by kernel_rfl) (fun _ _ _ h => h) (Or.inl ⟨by kernel_rfl, ?_⟩) (by assumption) ?_; rotate_left 1; (focus (intro w hSw; (try dsimp only at hSw); simp only [List.getElem_toArray, List.getElem_cons_succ, List.getElem_cons_zero]; all_goals go_simp; all_goals (try with_reducible rfl))); (try simp only [Act.put, List.getElem_toArray, List.getElem_cons_succ, List.getElem_cons_zero, List.setIfInBounds_toArray, List.set_cons_zero, List.set_cons_succ])
        refine wpAnyH_take (i := 1) (v := ?_) (by rfl) (by kernel_rfl) (by kernel_rfl) (by kernel_rfl) (fun _ _ _ h => h) (Or.inl ⟨by kernel_rfl, ?_⟩) (by assumption) ?_; rotate_left 1; (focus (intro w hSw; (try dsimp only at hSw); simp only [List.getElem_toArray, List.getElem_cons_succ, List.getElem_cons_zero]; all_goals go_simp; all_goals (try with_reducible rfl))); (try simp only [Act.put, List.getElem_toArray, List.getElem_cons_succ, List.getElem_cons_zero, List.setIfInBounds_toArray, List.set_cons_zero, List.set_cons_succ])
        refine wpAnyH_take (i := 2) (v := ?_) (by rfl) (by kernel_rfl) (by kernel_rfl) (by kernel_rfl) (fun _ _ _ h => h) (Or.inl ⟨by kernel_rfl, ?_⟩) (by assumption) ?_; rotate_left 1; (focus (intro w hSw; (try dsimp only at hSw); simp only [List.getElem_toArray, List.getElem_cons_succ, List.getElem_cons_zero]; all_goals go_simp; all_goals (try with_reducible rfl))); (try simp only [Act.put, List.getElem_toArray, List.getElem_cons_succ, List.getElem_cons_zero, List.setIfInBounds_toArray, List.set_cons_zero, List.set_cons_succ])
        refine wpAnyH_take (i := 3) (v := ?_) (by rfl) (by kernel_rfl) (by kernel_rfl) (by kernel_rfl) (fun _ _ _ h => h) (Or.inl ⟨by kernel_rfl, ?_⟩) (by assumption) ?_; rotate_left 1; (focus (intro w hSw; (try dsimp only at hSw); simp only [List.getElem_toArray, List.getElem_cons_succ, List.getElem_cons_zero]; all_goals go_simp; all_goals (try with_reducible rfl))); (try simp only [Act.put, List.getElem_toArray, List.getElem_cons_succ, List.getElem_cons_zero, List.setIfInBounds_toArray, List.set_cons_zero, List.set_cons_succ])
        refine wpAnyH_take (i := 4) (v := ?_) (by rfl) (by kernel_rfl) (by kernel_rfl) (by kernel_rfl) (fun _ _ _ h => h) (Or.inl ⟨by kernel_rfl, ?_⟩) (by assumption) ?_; rotate_left 1; (focus (intro w hSw; (try dsimp only at hSw); simp only [List.getElem_toArray, List.getElem_cons_succ, List.getElem_cons_zero]; all_goals go_simp; all_goals (try with_reducible rfl))); (try simp only [Act.put, List.getElem_toArray, List.getElem_cons_succ, List.getElem_cons_zero, List.setIfInBounds_toArray, List.set_cons_zero, List.set_cons_succ])
        refine wpAnyH_take (i := 5) (v := ?_) (by rfl) (by kernel_rfl) (by kernel_rfl) (by kernel_rfl) (fun _ _ _ h => h) (Or.inl ⟨by kernel_rfl, ?_⟩) (by assumption) ?_; rotate_left 1; (focus (intro w hSw; (try dsimp only at hSw); simp only [List.getElem_toArray, List.getElem_cons_succ, List.getElem_cons_zero]; all_goals go_simp; all_goals (try with_reducible rfl))); (try simp only [Act.put, List.getElem_toArray, List.getElem_cons_succ, List.getElem_cons_zero, List.setIfInBounds_toArray, List.set_cons_zero, List.set_cons_succ])
        refine wpAnyH_take (i := 6) (v := ?_) (by rfl) (by kernel_rfl) (by kernel_rfl) (by kernel_rfl) (fun _ _ _ h => h) (Or.inl ⟨by kernel_rfl, ?_⟩) (by assumption) ?_; rotate_left 1; (focus (intro w hSw; (try dsimp only at hSw); simp only [List.getElem_toArray, List.getElem_cons_succ, List.getElem_cons_zero]; all_goals go_simp; all_goals (try with_reducible rfl))); (try simp only [Act.put, List.getElem_toArray, List.getElem_cons_succ, List.getElem_cons_zero, List.setIfInBounds_toArray, List.set_cons_zero, List.set_cons_succ])
        refine wpAnyH_take (i := 7) (v := ?_) (by rfl) (by kernel_rfl) (by kernel_rfl) (by kernel_rfl) (fun _ _ _ h => h) (Or.inl ⟨by kernel_rfl, ?_⟩) (by assumption) ?_; rotate_left 1; (focus (intro w hSw; (try dsimp only at hSw); simp only [List.getElem_toArray, List.getElem_cons_succ, List.getElem_cons_zero]; all_goals go_simp; all_goals (try with_reducible rfl))); (try simp only [Act.put, List.getElem_toArray, List.getElem_cons_succ, List.getElem_cons_zero, List.setIfInBounds_toArray, List.set_cons_zero, List.set_cons_succ])
        refine wpAnyH_take (i := 8) (v := ?_) (by rfl) (by kernel_rfl) (by kernel_rfl) (by kernel_rfl) (fun _ _ _ h => h) (Or.inl ⟨by kernel_rfl, ?_⟩) (by assumption) ?_; rotate_left 1; (focus (intro w hSw; (try dsimp only at hSw); simp only [List.getElem_toArray, List.getElem_cons_succ, List.getElem_cons_zero]; all_goals go_simp; all_goals (try with_reducible rfl))); (try simp only [Act.put, List.getElem_toArray, List.getElem_cons_succ, List.getElem_cons_zero, List.setIfInBounds_toArray, List.set_cons_zero, List.set_cons_succ])
        refine wpAnyH_take (i := 9) (v := ?_) (by rfl) (by kernel_rfl) (by kernel_rfl) (by kernel_rfl) (fun _ _ _ h => h) (Or.inl ⟨by kernel_rfl, ?_⟩) (by assumption) ?_; rotate_left 1; (focus (intro w hSw; (try dsimp only at hSw); simp only [List.getElem_toArray, List.getElem_cons_succ, List.getElem_cons_zero]; all_goals go_simp; all_goals (try with_reducible rfl))); (try simp only [Act.put, List.getElem_toArray, List.getElem_cons_succ, List.getElem_cons_zero, List.setIfInBounds_toArray, List.set_cons_zero, List.set_cons_succ])
        refine wpAnyH_take (i := 10) (v := ?_) (by rfl) (by kernel_rfl) (by kernel_rfl) (by kernel_rfl) (fun _ _ _ h => h) (Or.inl ⟨by kernel_rfl, ?_⟩) (by assumption) ?_; rotate_left 1; (focus (intro w hSw; (try dsimp only at hSw); simp only [List.getElem_toArray, List.getElem_cons_succ, List.getElem_cons_zero]; all_goals go_simp; all_goals (try with_reducible rfl))); (try simp only [Act.put, List.getElem_toArray, List.getElem_cons_succ, List.getElem_cons_zero, List.setIfInBounds_toArray, List.set_cons_zero, List.set_cons_succ])
        refine wpAnyH_ready (rs := [11]) (by kernel_rfl) (by simp) ?_; refine AllReadyH.cons (by rfl) (fun K hK => ?_) AllReadyH.nil; rw [if_pos (by kernel_rfl)]; simp only [List.getElem_toArray, List.getElem_cons_succ, List.getElem_cons_zero]
        go_wp2_with (first | (go_at_call 26; (with_reducible refine (pmake_at k (some ⟨Y.bP, k * 32, none⟩) 32 32 _ (Lib.hid (by simp)) (by decide) k (Lib.hid rfl) HKB.out (Lib.hid (by rw [HTH.out]; simp [freeB, ltB])) (Lib.hid (by intro i hi; rw [HTH.out]; simp [freeB, ltB, hi])) 0 (Lib.hid rfl) _ HRD.out.st.pg HSrc.out).mono ?_); rintro e w5 ⟨rfl, hP, hb⟩; have HP5 := Lib.hid (HRD.out.page hP hb); clear hP hb))
        refine hK.out _ _ ⟨HP5.out.st.s1, HYB.out _ HP5.out.bel⟩ (fun hHeld => ?_)
        clear hK K
        (try simp only [Act.put, List.getElem_toArray, List.getElem_cons_succ, List.getElem_cons_zero, List.setIfInBounds_toArray, List.set_cons_zero, List.set_cons_succ])
        refine wpAnyH_done (by kernel_rfl) ?_ _
        refine NoPanic.normal ?_
        go_wp2_with fail
        go_roundw
        case rel => exact ⟨k + 1, _, by omega, by go_num, by have := HP5.out; rw [HTH.out, HTS.out] at this; exact this⟩
        case measure => simp [intOf]; omega
      · have e : decide (k < n) = false := decide_eq_false hkn
        rw [e] at c0
        have HTH : Hid (ltB (min k n) = ltB (min (k + 1) n)) := Lib.hid (by rw [Nat.min_eq_right (by omega), Nat.min_eq_right (by omega)])
        clear e
        go_wp2_with fail
        go_roundw
        case rel => exact ⟨k + 1, W2, by omega, by go_num, by rw [← HTH.out]; exact HR.out⟩
        case measure => simp [intOf]; omega
    · have hkm : ¬ (k : Int) < Y.m := by have := HN.out; omega
      have HR1 : Hid (SV wA wr S a b (fun _ => false) (fun _ => 0) (fun _ b => zc b) (ltB n) (fun _ => 0) W2) := Lib.hid (by have := HR.out; rwa [Nat.min_eq_right (by have := HNn.out; omega)] at this)
      have HANb : Hid (a.n = 16) := Lib.hid HM.out.1
      clear HR HYR
      go_wp2_with fail
      go_loopw [11] (fun z wr' => ∃ (q : Nat) (W : Nat → Nat → Value), q ≤ 16 ∧ z = .int .i64 q ∧ SV wA wr' S a b (th9 q) (fun _ => 0) W (ltB n) (fun _ => 0) W2 ∧ (0 < q → Pgs (W 0) 0)) (fun z _ => 16 - (intOf z).toNat)
      case atStart => exact ⟨0, _, by omega, rfl, by rw [th9_0]; exact HR1.out, fun h => by omega⟩
      case round =>
        obtain ⟨q, W, hq, rfl, hs, hpz⟩ := hrel
        have HR := Lib.hid hs
        have HPZ := Lib.hid hpz
        have HYR := Lib.hid (HYA.out.below hs.bel)
        have f0 := HYR.out.f0
        have s0 := hs.st.s0
        clear hs hpz
        by_cases hql : q < 16
        · have q0 : (0 : Int) ≤ q := by omega
          have q1 : (q : Int) < Y.n := by have := HN.out; omega
          have n0 := (HYR.out.nslot q (by have := HN.out; omega)).1
          rw [HLN.out] at n0
          by_cases hq0 : q = 0
          · have e : upd (fun _ => false) 0 true q = true := by rw [hq0]; exact upd_at _ _ _
            rw [e] at n0
            have HTH : Hid (th9 q = fun _ => false) := Lib.hid (by rw [hq0]; exact th9_0)
            have HTS : Hid (th9 (q + 1) = (upd (fun _ => false) 0 true)) := Lib.hid (th9_s _ (by omega))
            have HR' : Hid (SV wA wr S a b (fun _ => false) (fun _ => 0) W (ltB n) (fun _ => 0) W2) := Lib.hid (by have := HR.out; rwa [HTH.out] at this)
            have HE' : Hid (ErrsAt vs vr wr) := Lib.hid (HE.out.below (BA.out.trans (HR.out.bel.mono BA.out.size)))
            have hq0' := Lib.hid hq0
            clear hq0 e
            go_wp2_with (first
              | (go_at_call 25; (with_reducible refine (nmake_at 0 vs vr none 0 0 (fun _ _ => 0) (by decide) (Lib.hid (by intro i hi; omega)) 0 (Lib.hid rfl) (by have := HANb.out; omega) (Lib.hid (by decide)) (Lib.hid (by intro i hi; omega)) 0 (Lib.hid rfl) _ HE'.out HR'.out.st.nd (srcK_none _ _ _ _)).mono ?_); rintro e w5 ⟨rfl, hM, hb⟩; have H5 := Lib.hid (HR'.out.node hM hb); clear hM hb))
            go_roundw
            case rel => exact ⟨q + 1, _, by omega, by go_num, by rw [HTS.out]; exact H5.out, fun _ => Pgs.fresh W⟩
            case measure => simp [intOf]; omega
          · have e : upd (fun _ => false) 0 true q = false := upd_other _ _ _ _ hq0
            rw [e] at n0
            have HTS : Hid (th9 (q + 1) = th9 q) := Lib.hid (by rw [th9_s _ (by omega), th9_s _ (by omega)])
            have hq0' := Lib.hid hq0
            clear hq0 e
            go_wp2_with fail
            go_roundw
            case rel => exact ⟨q + 1, W, by omega, by go_num, by rw [HTS.out]; exact HR.out, fun _ => HPZ.out (by have := hq0'.out; omega)⟩
            case measure => simp [intOf]; omega
        · have hqn : ¬ (q : Int) < Y.n := by have := HN.out; omega
          have HR2 : Hid (SV wA wr S a b (upd (fun _ => false) 0 true) (fun _ => 0) W (ltB n) (fun _ => 0) W2) := Lib.hid (by have := HR.out; rwa [th9_s _ (by omega)] at this)
          have HPZ2 : Hid (Pgs (W 0) 0) := Lib.hid (HPZ.out (by omega))
          clear HR HYR HPZ s0
          go_wp2_with fail
          go_loopw [12] (fun z wr'' => ∃ (r : Nat) (W : Nat → Nat → Value), r ≤ 16 ∧ z = .int .i64 r ∧ SV wA wr'' S a b (upd (fun _ => false) 0 true) (fun _ => 0) W (ltB n) (fun _ => 0) W2 ∧ (r = 0 → Pgs (W 0) 0) ∧ (0 < r → Pgs (W 0) n)) (fun z _ => 16 - (intOf z).toNat)
          case atStart => exact ⟨0, _, by omega, rfl, HR2.out, fun _ => HPZ2.out, fun h => by omega⟩
          case round =>
            obtain ⟨r, W', hr, rfl, hs, hp0, hp1⟩ := hrel
            have HR := Lib.hid hs
            have HP0 := Lib.hid hp0
            have HP1 := Lib.hid hp1
            have HYR := Lib.hid (HYA.out.below hs.bel)
            have f0 := HYR.out.f0
            clear hs hp0 hp1 HR2 HPZ2
            by_cases hrl : r < 16
            · have r0 : (0 : Int) ≤ r := by omega
              have r1 : (r : Int) < Y.n := by have := HN.out; omega
              by_cases hr0 : r = 0
              · subst hr0
                have HPP := Lib.hid (HP0.out rfl)
                have HNS : Hid (∀ X, Below wA.heap.size wA X → World.cell? X ⟨Y.gN, 0, none⟩ = some (.bool true)) := Lib.hid (fun X hX => by
                  have h := ((HYA.out.below hX).nslot 0 (by have := HN.out; omega)).1
                  rw [HLN.out] at h
                  exact h)
                clear HP0 HP1 hrl
                go_wp2_with fail
                go_loopw [13] (fun z wr3 => ∃ (s : Nat) (W : Nat → Nat → Value), s ≤ 16 ∧ z = .int .i64 s ∧ SV wA wr3 S a b (upd (fun _ => false) 0 true) (fun _ => 0) W (ltB n) (fun _ => 0) W2 ∧ Pgs (W 0) (min s n)) (fun z _ => 16 - (intOf z).toNat)
                case atStart => exact ⟨0, _, by omega, rfl, HR.out, by rw [Nat.zero_min]; exact HPP.out⟩
                case round =>
                  obtain ⟨s, W3, hs16, rfl, hs, hpp⟩ := hrel
                  have HRs := Lib.hid hs
                  have HPs := Lib.hid hpp
                  have HYs := Lib.hid (HYA.out.below hs.bel)
                  have g0 := HYs.out.f0
                  have n0 := HNS.out _ hs.bel
                  have s0 : (0 : Int) ≤ s := by omega
                  clear hs hpp f0
                  by_cases hsl : s < 16
                  · have s1 : (s : Int) < 16 := by omega
                    have b0 : 0 < Y.n := by have := HN.out; omega
                    obtain ⟨y0, y1, y2, y3, y4, hk, hrt, hnx⟩ := pgs_slot HWN.out s HNn.out hsl
                    have HKt := Lib.hid hk
                    have HRT := Lib.hid hrt
                    have HNX := Lib.hid hnx
                    have HRD := Lib.hid (HRs.out.step (Below.refl wr.heap.size wr).drew)
                    have key : Hid (∀ X, Below wA.heap.size wA X → ∀ j, j < 5 → World.cell? X ⟨Y.bN, s * 5 + j, none⟩ = some (D.wN 0 (s * 5 + j))) := Lib.hid (fun X hX j hj => by
                      have h1 := (HYA.out.below hX).nkey 0 (s * 5 + j) (by have := HN.out; omega) (by omega)
                      rw [Nat.zero_mul, Nat.zero_add] at h1
                      exact h1)
                    have HSS : Hid (∀ X, Below wA.heap.size wA X → (World.cell? X ⟨Y.x, 6, none⟩ = some (.slice (some ⟨Y.bN, 0, none⟩) Y.n Y.n) ∧ World.cell? X ⟨Y.bN, s * 5, none⟩ = some (.int .i64 y0) ∧ World.cell? X ⟨Y.bN, s * 5 + 1, none⟩ = some (.int .i64 y1) ∧ World.cell? X ⟨Y.bN, s * 5 + 2, none⟩ = some (.int .i64 y2) ∧ World.cell? X ⟨Y.bN, s * 5 + 3, none⟩ = some (.int .i64 y3) ∧ World.cell? X ⟨Y.bN, s * 5 + 4, none⟩ = some (.int .u32 y4))) := Lib.hid (fun X hX => ⟨(HYA.out.below hX).f6, (key.out X hX 0 (by decide)).trans (congrArg some HKt.out.1), (key.out X hX 1 (by decide)).trans (congrArg some HKt.out.2.1), (key.out X hX 2 (by decide)).trans (congrArg some HKt.out.2.2.1), (key.out X hX 3 (by decide)).trans (congrArg some HKt.out.2.2.2.1), (key.out X hX 4 (by decide)).trans (congrArg some HKt.out.2.2.2.2)⟩)
                    clear hk hrt hnx
                    go_wp2_with fail
                    refine wp_region_noPanic ?_
                    refine wp_region_held_drew (S := fun w' => World.cell? w' ⟨S, 0, none⟩ = some (.pointer (some ⟨a.P, 0, none⟩)) ∧ World.cell? w' ⟨Y.x, 6, none⟩ = some (.slice (some ⟨Y.bN, 0, none⟩) Y.n Y.n) ∧ World.cell? w' ⟨Y.bN, s * 5, none⟩ = some (.int .i64 y0) ∧ World.cell? w' ⟨Y.bN, s * 5 + 1, none⟩ = some (.int .i64 y1) ∧ World.cell? w' ⟨Y.bN, s * 5 + 2, none⟩ = some (.int .i64 y2) ∧ World.cell? w' ⟨Y.bN, s * 5 + 3, none⟩ = some (.int .i64 y3) ∧ World.cell? w' ⟨Y.bN, s * 5 + 4, none⟩ = some (.int .u32 y4)) (by kernel_rfl) ⟨HRD.out.st.s0, HSS.out _ HRD.out.bel⟩ (fun hHeld => ?_)
                    refine wpAnyH_take (i := 0) (v := ?_) (by rfl) (by kernel_rfl) (by kernel_rfl) (by kernel_rfl) (fun _ _ _ h => h) (Or.inl ⟨by kernel_rfl, ?_⟩) (by assumption) ?_; rotate_left 1; (focus (intro w hSw; (try dsimp only at hSw); simp only [List.getElem_toArray, List.getElem_cons_succ, List.getElem_cons_zero]; all_goals go_simp; all_goals (try with_reducible rfl))); (try simp only [Act.put, List.getElem_toArray, List.getElem_cons_succ, List.getElem_cons_zero, List.setIfInBounds_toArray, List.set_cons_zero, List.set_cons_succ])
                    refine wpAnyH_take (i := 1) (v := ?_) (by rfl) (by kernel_rfl) (by kernel_rfl) (by kernel_rfl) (fun _ _ _ h => h) (Or.inl ⟨by kernel_rfl, ?_⟩) (by assumption) ?_; rotate_left 1; (focus (intro w hSw; (try dsimp only at hSw); simp only [List.getElem_toArray, List.getElem_cons_succ, List.getElem_cons_zero]; all_goals go_simp; all_goals (try with_reducible rfl))); (try simp only [Act.put, List.getElem_toArray, List.getElem_cons_succ, List.getElem_cons_zero, List.setIfInBounds_toArray, List.set_cons_zero, List.set_cons_succ])
                    refine wpAnyH_take (i := 2) (v := ?_) (by rfl) (by kernel_rfl) (by kernel_rfl) (by kernel_rfl) (fun _ _ _ h => h) (Or.inl ⟨by kernel_rfl, ?_⟩) (by assumption) ?_; rotate_left 1; (focus (intro w hSw; (try dsimp only at hSw); simp only [List.getElem_toArray, List.getElem_cons_succ, List.getElem_cons_zero]; all_goals go_simp; all_goals (try with_reducible rfl))); (try simp only [Act.put, List.getElem_toArray, List.getElem_cons_succ, List.getElem_cons_zero, List.setIfInBounds_toArray, List.set_cons_zero, List.set_cons_succ])
                    refine wpAnyH_take (i := 3) (v := ?_) (by rfl) (by kernel_rfl) (by kernel_rfl) (by kernel_rfl) (fun _ _ _ h => h) (Or.inl ⟨by kernel_rfl, ?_⟩) (by assumption) ?_; rotate_left 1; (focus (intro w hSw; (try dsimp only at hSw); simp only [List.getElem_toArray, List.getElem_cons_succ, List.getElem_cons_zero]; all_goals go_simp; all_goals (try with_reducible rfl))); (try simp only [Act.put, List.getElem_toArray, List.getElem_cons_succ, List.getElem_cons_zero, List.setIfInBounds_toArray, List.set_cons_zero, List.set_cons_succ])
                    refine wpAnyH_take (i := 4) (v := ?_) (by rfl) (by kernel_rfl) (by kernel_rfl) (by kernel_rfl) (fun _ _ _ h => h) (Or.inl ⟨by kernel_rfl, ?_⟩) (by assumption) ?_; rotate_left 1; (focus (intro w hSw; (try dsimp only at hSw); simp only [List.getElem_toArray, List.getElem_cons_succ, List.getElem_cons_zero]; all_goals go_simp; all_goals (try with_reducible rfl))); (try simp only [Act.put, List.getElem_toArray, List.getElem_cons_succ, List.getElem_cons_zero, List.setIfInBounds_toArray, List.set_cons_zero, List.set_cons_succ])
                    refine wpAnyH_take (i := 5) (v := ?_) (by rfl) (by kernel_rfl) (by kernel_rfl) (by kernel_rfl) (fun _ _ _ h => h) (Or.inl ⟨by kernel_rfl, ?_⟩) (by assumption) ?_; rotate_left 1; (focus (intro w hSw; (try dsimp only at hSw); simp only [List.getElem_toArray, List.getElem_cons_succ, List.getElem_cons_zero]; all_goals go_simp; all_goals (try with_reducible rfl))); (try simp only [Act.put, List.getElem_toArray, List.getElem_cons_succ, List.getElem_cons_zero, List.setIfInBounds_toArray, List.set_cons_zero, List.set_cons_succ])
                    refine wpAnyH_take (i := 6) (v := ?_) (by rfl) (by kernel_rfl) (by kernel_rfl) (by kernel_rfl) (fun _ _ _ h => h) (Or.inl ⟨by kernel_rfl, ?_⟩) (by assumption) ?_; rotate_left 1; (focus (intro w hSw; (try dsimp only at hSw); simp only [List.getElem_toArray, List.getElem_cons_succ, List.getElem_cons_zero]; all_goals go_simp; all_goals (try with_reducible rfl))); (try simp only [Act.put, List.getElem_toArray, List.getElem_cons_succ, List.getElem_cons_zero, List.setIfInBounds_toArray, List.set_cons_zero, List.set_cons_succ])
                    refine wpAnyH_take (i := 7) (v := ?_) (by rfl) (by kernel_rfl) (by kernel_rfl) (by kernel_rfl) (fun _ _ _ h => h) (Or.inl ⟨by kernel_rfl, ?_⟩) (by assumption) ?_; rotate_left 1; (focus (intro w hSw; (try dsimp only at hSw); simp only [List.getElem_toArray, List.getElem_cons_succ, List.getElem_cons_zero]; all_goals go_simp; all_goals (try with_reducible rfl))); (try simp only [Act.put, List.getElem_toArray, List.getElem_cons_succ, List.getElem_cons_zero, List.setIfInBounds_toArray, List.set_cons_zero, List.set_cons_succ])
                    refine wpAnyH_take (i := 8) (v := ?_) (by rfl) (by kernel_rfl) (by kernel_rfl) (by kernel_rfl) (fun _ _ _ h => h) (Or.inl ⟨by kernel_rfl, ?_⟩) (by assumption) ?_; rotate_left 1; (focus (intro w hSw; (try dsimp only at hSw); simp only [List.getElem_toArray, List.getElem_cons_succ, List.getElem_cons_zero]; all_goals go_simp; all_goals (try with_reducible rfl))); (try simp only [Act.put, List.getElem_toArray, List.getElem_cons_succ, List.getElem_cons_zero, List.setIfInBounds_toArray, List.set_cons_zero, List.set_cons_succ])
                    refine wpAnyH_take (i := 9) (v := ?_) (by rfl) (by kernel_rfl) (by kernel_rfl) (by kernel_rfl) (fun _ _ _ h => h) (Or.inl ⟨by kernel_rfl, ?_⟩) (by assumption) ?_; rotate_left 1; (focus (intro w hSw; (try dsimp only at hSw); simp only [List.getElem_toArray, List.getElem_cons_succ, List.getElem_cons_zero]; all_goals go_simp; all_goals (try with_reducible rfl))); (try simp only [Act.put, List.getElem_toArray, List.getElem_cons_succ, List.getElem_cons_zero, List.setIfInBounds_toArray, List.set_cons_zero, List.set_cons_succ])
                    refine wpAnyH_take (i := 10) (v := ?_) (by rfl) (by kernel_rfl) (by kernel_rfl) (by kernel_rfl) (fun _ _ _ h => h) (Or.inl ⟨by kernel_rfl, ?_⟩) (by assumption) ?_; rotate_left 1; (focus (intro w hSw; (try dsimp only at hSw); simp only [List.getElem_toArray, List.getElem_cons_succ, List.getElem_cons_zero]; all_goals go_simp; all_goals (try with_reducible rfl))); (try simp only [Act.put, List.getElem_toArray, List.getElem_cons_succ, List.getElem_cons_zero, List.setIfInBounds_toArray, List.set_cons_zero, List.set_cons_succ])
                    refine wpAnyH_take (i := 11) (v := ?_) (by rfl) (by kernel_rfl) (by kernel_rfl) (by kernel_rfl) (fun _ _ _ h => h) (Or.inl ⟨by kernel_rfl, ?_⟩) (by assumption) ?_; rotate_left 1; (focus (intro w hSw; (try dsimp only at hSw); simp only [List.getElem_toArray, List.getElem_cons_succ, List.getElem_cons_zero]; all_goals go_simp; all_goals (try with_reducible rfl))); (try simp only [Act.put, List.getElem_toArray, List.getElem_cons_succ, List.getElem_cons_zero, List.setIfInBounds_toArray, List.set_cons_zero, List.set_cons_succ])
                    refine wpAnyH_take (i := 12) (v := ?_) (by rfl) (by kernel_rfl) (by kernel_rfl) (by kernel_rfl) (fun _ _ _ h => h) (Or.inl ⟨by kernel_rfl, ?_⟩) (by assumption) ?_; rotate_left 1; (focus (intro w hSw; (try dsimp only at hSw); simp only [List.getElem_toArray, List.getElem_cons_succ, List.getElem_cons_zero]; all_goals go_simp; all_goals (try with_reducible rfl))); (try simp only [Act.put, List.getElem_toArray, List.getElem_cons_succ, List.getElem_cons_zero, List.setIfInBounds_toArray, List.set_cons_zero, List.set_cons_succ])
                    refine wpAnyH_take (i := 13) (v := ?_) (by rfl) (by kernel_rfl) (by kernel_rfl) (by kernel_rfl) (fun _ _ _ h => h) (Or.inl ⟨by kernel_rfl, ?_⟩) (by assumption) ?_; rotate_left 1; (focus (intro w hSw; (try dsimp only at hSw); simp only [List.getElem_toArray, List.getElem_cons_succ, List.getElem_cons_zero]; all_goals go_simp; all_goals (try with_reducible rfl))); (try simp only [Act.put, List.getElem_toArray, List.getElem_cons_succ, List.getElem_cons_zero, List.setIfInBounds_toArray, List.set_cons_zero, List.set_cons_succ])
                    refine wpAnyH_take (i := 14) (v := ?_) (by rfl) (by kernel_rfl) (by kernel_rfl) (by kernel_rfl) (fun _ _ _ h => h) (Or.inl ⟨by kernel_rfl, ?_⟩) (by assumption) ?_; rotate_left 1; (focus (intro w hSw; (try dsimp only at hSw); simp only [List.getElem_toArray, List.getElem_cons_succ, List.getElem_cons_zero]; all_goals go_simp; all_goals (try with_reducible rfl))); (try simp only [Act.put, List.getElem_toArray, List.getElem_cons_succ, List.getElem_cons_zero, List.setIfInBounds_toArray, List.set_cons_zero, List.set_cons_succ])
                    refine wpAnyH_ready (rs := [15]) (by kernel_rfl) (by simp) ?_; refine AllReadyH.cons (by rfl) (fun K hK => ?_) AllReadyH.nil; rw [if_pos (by kernel_rfl)]; simp only [List.getElem_toArray, List.getElem_cons_succ, List.getElem_cons_zero]
                    have HE' : Hid (ErrsAt vs vr wr.drew) := Lib.hid (HE.out.below (BA.out.trans (HRD.out.bel.mono BA.out.size)))
                    go_wp2_with (first | (go_at_call 19; (with_reducible refine (nset_at vs vr 0 s 0 s (Lib.hid rfl) (Lib.hid rfl) (by have := HANb.out; omega) hsl (Lib.hid rfl) y0 y1 y2 y3 y4 HRT _ HE'.out HRD.out.st.nd (Lib.hid HPs.out.all.one)).mono ?_); rintro e w6 ⟨rfl, hM, hb⟩; have H6 := Lib.hid (HRD.out.node hM hb); clear hM hb))
                    refine hK.out _ _ ⟨H6.out.st.s0, HSS.out _ H6.out.bel⟩ (fun hHeld => ?_)
                    clear hK K
                    (try simp only [Act.put, List.getElem_toArray, List.getElem_cons_succ, List.getElem_cons_zero, List.setIfInBounds_toArray, List.set_cons_zero, List.set_cons_succ])
                    refine wpAnyH_done (by kernel_rfl) ?_ _
                    refine NoPanic.normal ?_
                    go_wp2_with fail
                    go_roundw
                    case rel => exact ⟨s + 1, _, by omega, by go_num, H6.out, HNX.out _ HPs.out⟩
                    case measure => simp [intOf]; omega
                  · have s1 : ¬ (s : Int) < 16 := by omega
                    have HPe : Hid (Pgs (W3 0) n) := Lib.hid (by have := HPs.out; rwa [Nat.min_eq_right (by have := HNn.out; omega)] at this)
                    go_wp2_with fail
                    go_roundw
                    case rel => exact ⟨1, W3, by omega, rfl, HRs.out, fun h => by omega, fun _ => HPe.out⟩
                    case measure => simp [intOf]
              · have n0 := (HYR.out.nslot r (by have := HN.out; omega)).1
                have e : upd (fun _ => false) 0 true r = false := upd_other _ _ _ _ hr0
                rw [HLN.out, e] at n0
                have hr0' := Lib.hid hr0
                clear hr0 e
                go_wp2_with fail
                go_loopw [13] (fun z wr3 => z = .int .i64 0 ∧ wr3 = wr) (fun _ _ => 0)
                case atStart => exact ⟨rfl, rfl⟩
                case round =>
                  obtain ⟨rfl, rfl⟩ := hrel
                  go_wp2_with fail
                  go_roundw
                  case rel => exact ⟨r + 1, W', by omega, by go_num, HR.out, fun h => by omega, fun _ => HP1.out (by have := hr0'.out; omega)⟩
                  case measure => simp [intOf]; omega
            · have hrn : ¬ (r : Int) < Y.n := by have := HN.out; omega
              have HPF := Lib.hid (HP1.out (by omega))
              have hk := HKA.out.below HR.out.bel
              have z0 := hk.c0
              have z1 := hk.c1
              have z2 := hk.c2
              have z3 := hk.c3
              have z4 := hk.c4
              have hk' := HK0.out.below HR.out.bel
              have HZ := Lib.hid hk'
              have y0 := hk'.c0
              have y1 := hk'.c1
              have y2 := hk'.c2
              have y3 := hk'.c3
              have y4 := hk'.c4
              have g0 := hk'.fr 0
              have g1 := hk'.fr 1
              have g2 := hk'.fr 2
              have g3 := hk'.fr 3
              have g4 := hk'.fr 4
              clear hk hk'
              go_wp2_with fail
              go_region
              go_wp2_with fail
              have t := (HZ.out.set 2 0 0 0 1).below (Below.refl _ _).drew
              have t0 := t.c0
              have t1 := t.c1
              have t2 := t.c2
              have t3 := t.c3
              have t4 := t.c4
              refine bodyPost_ret (v := .tuple #[.pointer (some ⟨S, 0, none⟩), .agg #[.int .i64 2, .int .i64 0, .int .i64 0, .int .i64 0, .int .u32 1]]) (by simp [results, Tryd.results14, go_sem, t0, t1, t2, t3, t4]) rfl ⟨S, a, b, W', W2, rfl, ?_, Lib.hid HPF.out, Lib.hid ⟨HM.out.1, HM.out.2.1⟩⟩
              have hlt : w.heap.size < a.b := Nat.lt_of_lt_of_le HK0.out.lt HR.out.wb
              exact ⟨(below_set5 (BA.out.trans (HR.out.bel.mono BA.out.size)) (Nat.le_refl _) 2 0 0 0 1).trans ((Below.refl _ _).drew.mono (by have := BA.out.size; have := HR.out.bel.size; simp; omega)), Nat.le_of_lt hlt, (HR.out.st.low5 w.heap.size hlt 2 0 0 0 1).below (Below.refl _ _).drew⟩
end Go.Proofs.YtedidopkemjgeaaDoor
namespace Go.Proofs.YtedidopkemjgeaaDoor
open Go.ChangeShapes Go.WideShapes Go.ChangeAt Go.RowKit
set_option linter.unusedVariables false
set_option linter.unusedSimpArgs false
structure CV (w0 w : World) (S : Nat) (a b : Shp) (N cb : Nat) (size : Int) (th : Nat → Bool) (vr_ : Nat → Int) (W : Nat → Nat → Value) (th2 : Nat → Bool) (vr2 : Nat → Int) (W2 : Nat → Nat → Int) (hits : Int) (v : Value) (E : List EW) : Prop where
  sv : SV w0 w S a b th vr_ W th2 vr2 W2
  lo : StLo S a b N
  n0 : w0.heap.size ≤ N
  nN : N ≤ w.heap.size
  ca : CacheAt w N cb size hits v E
  ok : WaysOk a b th vr_ W th2 vr2 E
section
variable {w w' : World}
theorem CV.below {w0 : World} {S : Nat} {a b : Shp} {N cb : Nat} {size : Int} {th : Nat → Bool} {vr_ : Nat → Int} {W : Nat → Nat → Value} {th2 : Nat → Bool} {vr2 : Nat → Int} {W2 : Nat → Nat → Int} {hits : Int} {v : Value} {E : List EW} (h : (CV w0 w S a b N cb size th vr_ W th2 vr2 W2 hits v E)) (hb : Below w.heap.size w w') : (CV w0 w' S a b N cb size th vr_ W th2 vr2 W2 hits v E) :=
  ⟨h.sv.step hb, h.lo, h.n0, Nat.le_trans h.nN hb.size, h.ca.below hb, h.ok⟩
theorem CV.found {w0 : World} {S : Nat} {a b : Shp} {N cb : Nat} {size : Int} {th : Nat → Bool} {vr_ : Nat → Int} {W : Nat → Nat → Value} {th2 : Nat → Bool} {vr2 : Nat → Int} {W2 : Nat → Nat → Int} {hits : Int} {v : Value} {E : List EW} (h : (CV w0 w S a b N cb size th vr_ W th2 vr2 W2 hits v E)) {hits' : Int} {v' : Value} {E' : List EW} (hb : Below N w w') (hc : CacheAt w' N cb size hits' v' E') (ok : WaysOk a b th vr_ W th2 vr2 E') : CV w0 w' S a b N cb size th vr_ W th2 vr2 W2 hits' v' E' :=
  ⟨⟨h.sv.bel.trans (hb.mono h.n0), h.sv.wb, h.sv.st.under h.lo hb.size (fun k hkN => hb.block k hkN)⟩, h.lo, h.n0, Nat.le_trans h.nN hb.size, hc, ok⟩
theorem CV.page {w0 : World} {S : Nat} {a b : Shp} {N cb : Nat} {size : Int} {th : Nat → Bool} {vr_ : Nat → Int} {W : Nat → Nat → Value} {th2 : Nat → Bool} {vr2 : Nat → Int} {W2 : Nat → Nat → Int} {hits : Int} {v : Value} {E : List EW} (h : (CV w0 w S a b N cb size th vr_ W th2 vr2 W2 hits v E)) {th2' : Nat → Bool} {vr2' : Nat → Int} {W2' : Nat → Nat → Int} (hP : PgAt w' b.b b.P b.p b.B b.G b.n b.c th2' vr2' W2') (hb : PBelow w w' b.B b.G) (ok : WaysOk a b th vr_ W th2' vr2' E) : CV w0 w' S a b N cb size th vr_ W th2' vr2' W2' hits v E := by
  have hl := h.lo.p
  exact ⟨h.sv.page hP hb, h.lo, h.n0, Nat.le_trans h.nN hb.2.2.2.1, h.ca.same hb.2.2.2.1 (fun k hk hks => hb.2.2.2.2 k hks (by omega) (by omega)), ok⟩
theorem CV.node {w0 : World} {S : Nat} {a b : Shp} {N cb : Nat} {size : Int} {th : Nat → Bool} {vr_ : Nat → Int} {W : Nat → Nat → Value} {th2 : Nat → Bool} {vr2 : Nat → Int} {W2 : Nat → Nat → Int} {hits : Int} {v : Value} {E : List EW} (h : (CV w0 w S a b N cb size th vr_ W th2 vr2 W2 hits v E)) {th' : Nat → Bool} {vr' : Nat → Int} {W' : Nat → Nat → Value} (hN : NdAt w' a.b a.P a.p a.B a.G a.n a.c th' vr' W') (hb : PBelow w w' a.B a.G) (ok : WaysOk a b th' vr' W' th2 vr2 E) : CV w0 w' S a b N cb size th' vr' W' th2 vr2 W2 hits v E := by
  have hl := h.lo.n
  exact ⟨h.sv.node hN hb, h.lo, h.n0, Nat.le_trans h.nN hb.2.2.2.1, h.ca.same hb.2.2.2.1 (fun k hk hks => hb.2.2.2.2 k hks (by omega) (by omega)), ok⟩
theorem CV.put {w0 : World} {S : Nat} {a b : Shp} {N cb : Nat} {size : Int} {th : Nat → Bool} {vr_ : Nat → Int} {W : Nat → Nat → Value} {th2 : Nat → Bool} {vr2 : Nat → Int} {W2 : Nat → Nat → Int} {hits : Int} {v : Value} {E : List EW} (h : (CV w0 w S a b N cb size th vr_ W th2 vr2 W2 hits v E)) (x j : Nat) (hx : N ≤ x) (h1 : cb ≠ x) (h3 : v.ownBlock ≠ some x) (h4 : NoNode E x) (u : Value) : (CV w0 (w.setCell ⟨x, j, none⟩ u) S a b N cb size th vr_ W th2 vr2 W2 hits v E) :=
  ⟨h.sv.put1 h.lo x j hx h.n0 u, h.lo, h.n0, by simpa using h.nN, h.ca.put x j h1 h3 h4 u, h.ok⟩
end
theorem KeyC.keepB {w w' : World} {kb cb : Nat} {v : Value} {k0 k1 k2 k3 k4 : Int} (h : KeyC w kb k0 k1 k2 k3 k4) (hk : KeepB w w' cb v) (ho : OutC cb v kb) : KeyC w' kb k0 k1 k2 k3 k4 := h.same' hk.1 (hk.2 kb h.lt ho.1 ho.2)
theorem PlC.keepB {w w' : World} {kb cb : Nat} {v : Value} {x y : Int} {r : Bool} (h : PlC w kb x y r) (hk : KeepB w w' cb v) (ho : OutC cb v kb) : PlC w' kb x y r := h.same hk.1 (hk.2 kb h.lt ho.1 ho.2)
theorem cvfind {w0 : World} {S : Nat} {a b : Shp} {N cb : Nat} {size : Int} {th : Nat → Bool} {vr_ : Nat → Int} {W : Nat → Nat → Value} {th2 : Nat → Bool} {vr2 : Nat → Int} {W2 : Nat → Nat → Int} {hits : Int} {v : Value} {E : List EW} (k0 k1 k2 k3 k4 : Int) (ad : Nat) (had : ad ≤ 4294967295) (ids : List Int) (pg at_ : Int) (r : Bool) (f : Int) (full : Bool) (hroom : Hid ((E.length : Int) ≤ size ∧ 1 ≤ size ∧ size ≤ 64)) (hful : Hid (((E.length : Int) == size) = full)) (hh : Hid (0 ≤ hits ∧ hits ≤ 1000000)) (hw : Hid (Way a b th vr_ W th2 vr2 k0 k1 k2 k3 k4 5 ad false ids pg at_ r f)) (w : World) (h : (CV w0 w S a b N cb size th vr_ W th2 vr2 W2 hits v E)) :
    Calls Tryd.prog 16 #[.pointer (some ⟨cb, 0, none⟩), .pointer (some ⟨S, 0, none⟩), (Value.agg #[.int .i64 k0, .int .i64 k1, .int .i64 k2, .int .i64 k3, .int .u32 k4]), .int .u32 (ad : Int)] w fun e w' => e = .returned (.tuple #[.agg #[.int .i64 pg, .int .i64 at_, .bool r], .int .i64 f]) ∧ ∃ hits' v' E', CV w0 w' S a b N cb size th vr_ W th2 vr2 W2 hits' v' E' ∧ FindOut E E' full hits hits' k0 k1 k2 k3 k4 ((ad : Int) / 32) ids f ∧ KeepB w w' cb v ∧ (v'.ownBlock = v.ownBlock ∨ ∃ g, w.heap.size ≤ g ∧ v'.ownBlock = some g) := by
  refine (cfindx_is k0 k1 k2 k3 k4 ad had ids pg at_ r f E.length (Lib.hid rfl) full (Lib.hid ⟨hroom.out.1, hroom.out.2.1⟩) hful (by have := hroom.out; omega) hh hw (Lib.hid h.ok) w h.sv.st h.ca h.nN).mono ?_
  rintro e w' ⟨rfl, hb, hits', v', E', hc, ok, ho, hk, hv, _⟩
  exact ⟨rfl, hits', v', E', h.found hb hc ok, ho, hk, hv⟩
theorem chits_is {w0 : World} {S : Nat} {a b : Shp} {N cb : Nat} {size : Int} {th : Nat → Bool} {vr_ : Nat → Int} {W : Nat → Nat → Value} {th2 : Nat → Bool} {vr2 : Nat → Int} {W2 : Nat → Nat → Int} {hits : Int} {v : Value} {E : List EW} (w : World) (h : (CV w0 w S a b N cb size th vr_ W th2 vr2 W2 hits v E)) : Calls Tryd.prog 23 #[.pointer (some ⟨cb, 0, none⟩)] w fun e w' => e = .returned (.int .i64 hits) ∧ w = w' := by
  have c1 := h.ca.c1
  clear h
  go_enter Tryd.func23, Tryd.ntmps23
  go_wp2_with fail
  go_ret
  exact ⟨rfl, rfl⟩
theorem clen_is {w0 : World} {S : Nat} {a b : Shp} {N cb : Nat} {size : Int} {th : Nat → Bool} {vr_ : Nat → Int} {W : Nat → Nat → Value} {th2 : Nat → Bool} {vr2 : Nat → Int} {W2 : Nat → Nat → Int} {hits : Int} {v : Value} {E : List EW} (n : Nat) (hn : Hid (E.length = n)) (w : World) (h : (CV w0 w S a b N cb size th vr_ W th2 vr2 W2 hits v E)) : Calls Tryd.prog 22 #[.pointer (some ⟨cb, 0, none⟩)] w fun e w' => e = .returned (.int .i64 n) ∧ w = w' := by
  have c2 := h.ca.c2
  obtain ⟨a', c', hv⟩ := h.ca.shape
  rw [hn.out] at hv
  rw [hv] at c2
  clear h hv
  go_enter Tryd.func22, Tryd.ntmps22
  go_wp2_with fail
  go_ret
  exact ⟨rfl, rfl⟩
theorem way_pg {a b : Shp} {W : Nat → Nat → Value} {n i x ad : Nat} (hp : Pgs (W 0) n) (hi : i < n) (hn : n ≤ 16) (ha : 0 < a.n) (hb : i < b.n) (hx : x < 32) (had : ad = 32 * i + x) : Way a b (upd (fun _ => false) 0 true) (fun _ => 0) W (ltB n) (fun _ => 0) 2 0 0 0 1 5 ad false [0] i x false 0 :=
  way_r0 (way_at 1 0 i x 3 i 0 0 0 rfl (by decide) (by decide) (by rw [had, Nat.mul_comm 32 i]) (by decide) rfl ha rfl rfl (by omega) (by simpa using hx) (hp.1 i hi) (.page (by decide) (by omega) (by simp [liveB, thereB, ltB, hi, hb]) (by omega))) (by decide)
theorem SV.over {w0 w1 w : World} {S : Nat} {a b : Shp} {th : Nat → Bool} {vr_ : Nat → Int} {W : Nat → Nat → Value} {th2 : Nat → Bool} {vr2 : Nat → Int} {W2 : Nat → Nat → Int} (h : SV w1 w S a b th vr_ W th2 vr2 W2) (h1 : Below w0.heap.size w0 w1) : SV w0 w S a b th vr_ W th2 vr2 W2 := ⟨h1.trans (h.bel.mono h1.size), Nat.le_trans h1.size h.wb, h.st⟩
/-- A new cache over a store. -/
theorem CV.new {w0 w w' : World} {S : Nat} {a b : Shp} {cb : Nat} {size : Int} {th : Nat → Bool} {vr_ : Nat → Int} {W : Nat → Nat → Value} {th2 : Nat → Bool} {vr2 : Nat → Int} {W2 : Nat → Nat → Int} (h : SV w0 w S a b th vr_ W th2 vr2 W2) (hc : CacheAt w' w.heap.size cb size 0 (.slice none 0 0) []) (hb : Below w.heap.size w w') : CV w0 w' S a b w.heap.size cb size th vr_ W th2 vr2 W2 0 (.slice none 0 0) [] :=
  ⟨h.step hb, h.st.lo, h.bel.size, hb.size, hc, ways_nil⟩
set_option maxRecDepth 100000 in
set_option maxHeartbeats 8000000 in
theorem cfirst_is (vs vr : Value) (w : World) (hE : ErrsAt vs vr w) : Calls Tryd.prog 12 #[] w fun e w' => e = .returned (.bool true) ∧ Below w.heap.size w w' := by
  have HE := Lib.hid hE
  clear hE
  have HL3 : Hid (∀ i, i < 1 → (w.alloc (.cells #[.int .i64 0, .int .i64 1, .int .i64 0] 3 (0, 0))).cell? ⟨w.heap.size, 2 * i, none⟩ = some (.int .i64 i) ∧ (w.alloc (.cells #[.int .i64 0, .int .i64 1, .int .i64 0] 3 (0, 0))).cell? ⟨w.heap.size, 2 * i + 1, none⟩ = some (.int .i64 1)) := Lib.hid (fun i hi => by obtain rfl : i = 0 := (by omega); exact ⟨by simp, by simp⟩)
  have HL2 : Hid (w.heap.size < (w.alloc (.cells #[.int .i64 0, .int .i64 1, .int .i64 0] 3 (0, 0))).heap.size) := Lib.hid (by simp)
  go_enter Tryd.func12, Tryd.ntmps12
  go_upto_region 3 with (first
    | (go_at_call 14; (with_reducible refine (made10_is 1 3 w.heap.size (by decide) (Lib.hid (by decide)) vs vr _ (HE.out.below ((Below.refl _ _).alloc (Nat.le_refl _) _)) HL2.out HL3).mono ?_); rintro e w1 ⟨S, a, b, W, W2, rfl, hs, hpg, hn⟩; have H1 := Lib.hid hs; have HPG := Lib.hid hpg.out; have HN := Lib.hid hn.out; clear hs hpg hn)
    | (go_at_call 15; (with_reducible refine (cnew_ok 4 (by decide) (by decide) _).mono ?_); rintro e w3 ⟨cb, rfl, hc, hb⟩; have HC3 := Lib.hid hc; have HB3 := Lib.hid hb; clear hc hb))
  obtain ⟨w2, hw2⟩ : ∃ w2, w2 = w1.alloc (.cells #[.int .i64 2, .int .i64 0, .int .i64 0, .int .i64 0, .int .u32 1] 29 (0, 0)) := ⟨_, rfl⟩
  rw [← hw2] at HC3 HB3
  have H2 : Hid (SV w w2 S a b (upd (fun _ => false) 0 true) (fun _ => 0) W (ltB 1) (fun _ => 0) W2) := Lib.hid (by rw [hw2]; exact (H1.out.over ((Below.refl _ _).alloc (Nat.le_refl _) _)).step ((Below.refl _ _).alloc (Nat.le_refl _) _))
  have HK2 : Hid (KeyC w2 w1.heap.size 2 0 0 0 1) := Lib.hid (by rw [hw2]; exact KeyC.new _ _ _ _ _ _ _)
  obtain ⟨N, hN⟩ : ∃ N, w2.heap.size = N := ⟨_, rfl⟩
  have H3 : Hid (CV w w3 S a b N cb 4 (upd (fun _ => false) 0 true) (fun _ => 0) W (ltB 1) (fun _ => 0) W2 0 (.slice none 0 0) []) := Lib.hid (by rw [← hN]; exact CV.new H2.out HC3.out HB3.out)
  have HK3 := Lib.hid (HK2.out.below HB3.out)
  obtain ⟨kb, hkb⟩ : ∃ kb, Hid (w1.heap.size = kb) := ⟨_, Lib.hid rfl⟩
  rw [hkb.out] at HK2 HK3 ⊢
  have HO3 : Hid (OutC cb (.slice none 0 0) kb) := Lib.hid ⟨by have := HK2.out.lt; have := H3.out.ca.nb; omega, by simp [Value.ownBlock]⟩
  have HWY : Hid (Way a b (upd (fun _ => false) 0 true) (fun _ => 0) W (ltB 1) (fun _ => 0) 2 0 0 0 1 5 ((3 : Nat) : Int) false [0] ((0 : Nat) : Int) ((3 : Nat) : Int) false 0) := Lib.hid (way_pg HPG.out (by decide) (by decide) (by have := HN.out; omega) (by have := HN.out; omega) (by decide) rfl)
  clear hw2 hkb hN H1 H2 HC3 HB3 HK2 HL2 HL3
  have q0 := HK3.out.c0
  have q1 := HK3.out.c1
  have q2 := HK3.out.c2
  have q3 := HK3.out.c3
  have q4 := HK3.out.c4
  go_upto_region 6 with (first
    | (go_at_call 16; (refine (cvfind 2 0 0 0 1 3 (by decide) [0] 0 3 false 0 false (Lib.hid (by decide)) (Lib.hid (by decide)) (Lib.hid (by decide)) HWY _ H3.out).mono ?_); rintro e w4 ⟨rfl, h4, v4, E4, hm, ho, hk, hv⟩; have H4 := Lib.hid hm; have HF4 := Lib.hid ho; have HK4 := Lib.hid (HK3.out.keepB hk HO3.out); have HO4 := Lib.hid (HO3.out.next HK3.out.lt hv); clear hm ho hk hv q0 q1 q2 q3 q4))
  obtain ⟨w5, hw5⟩ : ∃ w5, w5 = w4.alloc (.cells #[.int .i64 0, .int .i64 3, .bool false] 40 (0, 0)) := ⟨_, rfl⟩
  rw [← hw5]
  obtain ⟨d, hd, rfl, rfl⟩ : ∃ d : EW, d.is 2 0 0 0 1 (((3 : Nat) : Int) / 32) = true ∧ E4 = [d] ∧ h4 = 0 := by
    rcases HF4.out with ⟨e, he, _⟩ | ⟨_, h1, ⟨_, d, h2, _, h3⟩ | ⟨h2, _⟩⟩
    · cases he
    · exact ⟨d, h2, h3, h1⟩
    · exact absurd rfl h2
  have HDI := Lib.hid hd
  have H5 : Hid (CV w w5 S a b N cb 4 (upd (fun _ => false) 0 true) (fun _ => 0) W (ltB 1) (fun _ => 0) W2 0 v4 [d]) := Lib.hid (by rw [hw5]; exact H4.out.below ((Below.refl _ _).alloc (Nat.le_refl _) _))
  have HK5 : Hid (KeyC w5 kb 2 0 0 0 1) := Lib.hid (by rw [hw5]; exact HK4.out.below ((Below.refl _ _).alloc (Nat.le_refl _) _))
  clear hw5 hd HF4 H4 HK4
  have q0 := HK5.out.c0
  have q1 := HK5.out.c1
  have q2 := HK5.out.c2
  have q3 := HK5.out.c3
  have q4 := HK5.out.c4
  go_upto_region 7 with (first
    | (go_at_call 16; (refine (cvfind 2 0 0 0 1 3 (by decide) [0] 0 3 false 0 false (Lib.hid (by simp)) (Lib.hid (by simp)) (Lib.hid (by decide)) HWY _ H5.out).mono ?_); rintro e w6 ⟨rfl, h6, v6, E6, hm, ho, hk, hv⟩; have H6 := Lib.hid hm; have HF6 := Lib.hid ho; clear hm ho hk hv q0 q1 q2 q3 q4))
  obtain ⟨w7, hw7⟩ : ∃ w7, w7 = w6.alloc (.cells #[.int .i64 0, .int .i64 3, .bool false] 40 (0, 0)) := ⟨_, rfl⟩
  rw [← hw7]
  obtain ⟨rfl, rfl⟩ : E6 = [d] ∧ h6 = 1 := by
    rcases HF6.out with ⟨e, he, _, h1, h2, _⟩ | ⟨h1, _⟩
    · exact ⟨h1, h2⟩
    · have := h1 d (List.mem_singleton.2 rfl); rw [HDI.out] at this; cases this
  have H7 : Hid (CV w w7 S a b N cb 4 (upd (fun _ => false) 0 true) (fun _ => 0) W (ltB 1) (fun _ => 0) W2 1 v6 [d]) := Lib.hid (by rw [hw7]; exact H6.out.below ((Below.refl _ _).alloc (Nat.le_refl _) _))
  clear hw7 HF6 H6
  go_wp2_with (first
    | (go_at_call 23; (with_reducible refine (chits_is _ H7.out).mono ?_); rintro e w8 ⟨rfl, rfl⟩))
  go_ret
  exact ⟨rfl, H7.out.sv.bel⟩
end Go.Proofs.YtedidopkemjgeaaDoor
