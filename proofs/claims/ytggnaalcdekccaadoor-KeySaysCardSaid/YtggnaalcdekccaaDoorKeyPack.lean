import Derived.Test.YtggnaalcdekccaaDoorKeyBnd
namespace Go.Proofs.YtggnaalcdekccaaDoor
open Go.ChangeShapes Go.WideShapes Go.ChangeAt Go.RowKit
set_option linter.unusedVariables false
theorem or_sum (i : Nat) (x y : Int) (hx : 0 ≤ x) (hx' : x < 4294967296) (hy : 0 ≤ y) (hm : x % ((2 ^ i : Nat) : Int) = 0) (hlt : y < ((2 ^ i : Nat) : Int)) (hy' : y < 4294967296) : bits BinOp.or IntKind.u32 x y = x + y := by
  rw [u32_or x y hx hx' hy hy', nat_join i x.toNat y.toNat ?_ ?_]
  · omega
  · have h1 : x = (x.toNat : Int) := by omega
    rw [h1] at hm
    have : ((x.toNat % 2 ^ i : Nat) : Int) = 0 := by rw [Int.natCast_emod]; exact hm
    omega
  · omega
/-- Five cells stored one by one: what they hold. -/
theorem five_cells {w1 : World} {b : Nat} {u0 u1 u2 u3 u4 : Value} (v0 v1 v2 v3 v4 : Value) (h0 : w1.cell? ⟨b, 0, none⟩ = some u0) (h1 : w1.cell? ⟨b, 1, none⟩ = some u1) (h2 : w1.cell? ⟨b, 2, none⟩ = some u2) (h3 : w1.cell? ⟨b, 3, none⟩ = some u3) (h4 : w1.cell? ⟨b, 4, none⟩ = some u4) (W : World)
    (hW : W = ((((w1.setCell ⟨b, 0, none⟩ v0).setCell ⟨b, 1, none⟩ v1).setCell ⟨b, 2, none⟩ v2).setCell ⟨b, 3, none⟩ v3).setCell ⟨b, 4, none⟩ v4) :
    W.cell? ⟨b, 0, none⟩ = some v0 ∧ W.cell? ⟨b, 1, none⟩ = some v1 ∧ W.cell? ⟨b, 2, none⟩ = some v2 ∧ W.cell? ⟨b, 3, none⟩ = some v3 ∧ W.cell? ⟨b, 4, none⟩ = some v4 := by
  have o : ∀ (w : World) (i j : Nat) (v : Value), i ≠ j → (w.setCell ⟨b, i, none⟩ v).cell? ⟨b, j, none⟩ = w.cell? ⟨b, j, none⟩ := fun w i j v h => World.cell?_setCell_other w _ _ v (by intro e; exact h (congrArg Addr.off e))
  have c : ∀ (w : World) (i : Nat) (v u : Value), w.cell? ⟨b, i, none⟩ = some u → (w.setCell ⟨b, i, none⟩ v).cell? ⟨b, i, none⟩ = some v := fun w i v u h => World.cell?_setCell_same w _ v h
  subst hW
  refine ⟨?_, ?_, ?_, ?_, ?_⟩
  · rw [o _ 4 0 _ (by decide), o _ 3 0 _ (by decide), o _ 2 0 _ (by decide), o _ 1 0 _ (by decide)]
    exact c _ _ _ _ h0
  · rw [o _ 4 1 _ (by decide), o _ 3 1 _ (by decide), o _ 2 1 _ (by decide)]
    exact c _ _ _ u1 (by rw [o _ 0 1 _ (by decide)]; exact h1)
  · rw [o _ 4 2 _ (by decide), o _ 3 2 _ (by decide)]
    exact c _ _ _ u2 (by rw [o _ 1 2 _ (by decide), o _ 0 2 _ (by decide)]; exact h2)
  · rw [o _ 4 3 _ (by decide)]
    exact c _ _ _ u3 (by rw [o _ 2 3 _ (by decide), o _ 1 3 _ (by decide), o _ 0 3 _ (by decide)]; exact h3)
  · exact c _ _ _ u4 (by rw [o _ 3 4 _ (by decide), o _ 2 4 _ (by decide), o _ 1 4 _ (by decide), o _ 0 4 _ (by decide)]; exact h4)
def packLo (k0 k1 k2 : Int) : Int := k0 * 268435456 + k1 * 1048576 + k2
def packHi (k3 k4 : Int) : Int := k3 * 536870912 + k4
theorem pack_lo (k0 k1 k2 : Int) (g0 : 0 ≤ k0) (g1 : k0 ≤ 14) (g2 : 0 ≤ k1) (g3 : k1 ≤ 255) (g4 : 0 ≤ k2) (g5 : k2 ≤ 1048575) :
    bits BinOp.or IntKind.u32 (bits BinOp.or IntKind.u32 (k0 * 268435456) (k1 * 1048576)) k2 = packLo k0 k1 k2 := by
  rw [or_sum 28 (k0 * 268435456) (k1 * 1048576) (by omega) (by omega) (by omega) (by simp) (by simp; omega) (by omega), or_sum 20 _ k2 (by omega) (by omega) (by omega) (by simp; omega) (by simp; omega) (by omega)]
  rfl
theorem pack_hi (k3 k4 : Int) (g6 : 0 ≤ k3) (g7 : k3 ≤ 7) (g8 : 0 ≤ k4) (g9 : k4 ≤ 4294967295) (h : k3 = 0 ∨ k4 ≤ 536870911) : bits BinOp.or IntKind.u32 (k3 * 536870912) k4 = packHi k3 k4 := by
  rcases h with rfl | h
  · rw [or_sum 32 (0 * 536870912) k4 (by omega) (by omega) (by omega) (by simp) (by simp; omega) (by omega)]
    rfl
  · rw [or_sum 29 (k3 * 536870912) k4 (by omega) (by omega) (by omega) (by simp) (by simp; omega) (by omega)]
    rfl
theorem ret_pack {a b a' b' : Int} {v : Value} (h1 : a = a') (h2 : b = b') : Ending.returned (.tuple #[.int .u32 a, .int .u32 b, v]) = .returned (.tuple #[.int .u32 a', .int .u32 b', v]) := by rw [h1, h2]
/-- What bounds a right key has. -/
theorem right_bounds {k0 k1 k2 k3 k4 : Int} (h : rightB k0 k1 k2 k3 k4 = true) : 0 ≤ k0 ∧ k0 ≤ 14 ∧ 0 ≤ k1 ∧ k1 ≤ 255 ∧ 0 ≤ k2 ∧ k2 ≤ 1048575 ∧ 0 ≤ k3 ∧ k3 ≤ 7 ∧ (k3 = 0 ∨ k4 ≤ 4) ∧ (k0 = 1 ∨ k4 ≤ 536870911) ∧ (k0 = 1 → k1 = 0 ∧ k2 = 0 ∧ k3 = 0) := by
  simp only [rightB, wB, Bool.and_eq_true, decide_eq_true_eq] at h
  obtain ⟨h0, h1, h2, h3, h4⟩ := h
  have p9 := placesOf_le k0
  have e1 : hidOf k0 ≤ 255 := by unfold hidOf; split <;> omega
  have e2 : hverOf k0 ≤ 1048575 := by unfold hverOf; split <;> omega
  have e3 : hrOf k0 ≤ 7 ∧ (hrOf k0 = 0 ∨ k0 = 2 ∨ k0 = 3) := by
    unfold hrOf; split
    · rename_i hh; simp at hh; omega
    · omega
  have e4 : dataMost k0 ≤ 536870911 ∨ k0 = 1 := by unfold dataMost; repeat' split
                                                   all_goals omega
  have e5 : (k0 = 2 ∨ k0 = 3) → dataMost k0 ≤ 4 := by rintro (rfl | rfl) <;> decide
  have e6 : k0 = 1 → hidOf k0 = 0 ∧ hverOf k0 = 0 ∧ hrOf k0 = 0 := by rintro rfl; decide
  omega
set_option maxRecDepth 100000 in
set_option maxHeartbeats 1000000 in
theorem kpack_ok (k0 k1 k2 k3 k4 : Int) (a b : Addr) (w : World) (hE : ErrsAt (errV a) (errV b) w) (h : Hid (rightB k0 k1 k2 k3 k4 = true)) (g8 : 0 ≤ k4) (g9 : k4 ≤ 4294967295) :
    Calls Tryd.prog 28 #[(Value.agg #[.int .i64 k0, .int .i64 k1, .int .i64 k2, .int .i64 k3, .int .u32 k4])] w fun e w' => e = .returned (.tuple #[.int .u32 (packLo k0 k1 k2), .int .u32 (packHi k3 k4), .nilIface]) ∧ Below w.heap.size w w' := by
  have HE := (ErrsAt.below hE ((Below.refl _ _).alloc (Nat.le_refl _) _ : Below w.heap.size w (w.alloc (.cells #[.int .i64 k0, .int .i64 k1, .int .i64 k2, .int .i64 k3, .int .u32 k4] 47))))
  obtain ⟨g0, g1, g2, g3, g4, g5, g6, g7, gx, gy, gz⟩ := right_bounds h.out
  have E1 := Lib.hid (pack_lo k0 k1 k2 g0 g1 g2 g3 g4 g5)
  have E2 := Lib.hid (pack_hi k3 k4 g6 g7 g8 g9 (by omega))
  clear gx gy gz
  go_enter Tryd.func28, Tryd.ntmps28
  go_wp2_with (first | (go_at_call 32; (with_reducible refine (kvalid_ok _ _ _ _ _ _ _ h _ HE).mono ?_); rintro e w1 ⟨rfl, hb⟩; have hk := keepk (k0 := k0) (k1 := k1) (k2 := k2) (k3 := k3) (k4 := k4) (b := w.heap.size) ⟨by simp, by simp, by simp, by simp, by simp, by simp⟩ hb))
  go_ret3
  exact ⟨ret_pack E1.out E2.out, ((Below.refl _ _).alloc (Nat.le_refl _) _).trans (hb.mono (by simp))⟩
set_option maxRecDepth 100000 in
set_option maxHeartbeats 1000000 in
theorem kpack_bad (k0 k1 k2 k3 k4 : Int) (a b : Addr) (w : World) (hE : ErrsAt (errV a) (errV b) w) (h : Hid (rightB k0 k1 k2 k3 k4 = false)) :
    Calls Tryd.prog 28 #[(Value.agg #[.int .i64 k0, .int .i64 k1, .int .i64 k2, .int .i64 k3, .int .u32 k4])] w fun e w' => ∃ c : Addr, e = .returned (.tuple #[.int .u32 0, .int .u32 0, errV c]) ∧ Below w.heap.size w w' := by
  have HE := (ErrsAt.below hE ((Below.refl _ _).alloc (Nat.le_refl _) _ : Below w.heap.size w (w.alloc (.cells #[.int .i64 k0, .int .i64 k1, .int .i64 k2, .int .i64 k3, .int .u32 k4] 47))))
  go_enter Tryd.func28, Tryd.ntmps28
  go_wp2_with (first | (go_at_call 32; (with_reducible refine (kvalid_bad _ _ _ _ _ _ _ _ h _ HE).mono ?_); rintro e w1 ⟨c, rfl, hb⟩; have hk := keepk (k0 := k0) (k1 := k1) (k2 := k2) (k3 := k3) (k4 := k4) (b := w.heap.size) ⟨by simp, by simp, by simp, by simp, by simp, by simp⟩ hb))
  go_ret3
  exact ⟨_, rfl, ((Below.refl _ _).alloc (Nat.le_refl _) _).trans (hb.mono (by simp))⟩
set_option maxRecDepth 100000 in
set_option maxHeartbeats 1000000 in
theorem kunpack_a_ok (lo hi p0 p1 p2 p3 p4 : Int) (a b : Addr) (w : World) (hE : ErrsAt (errV a) (errV b) w) (g0 : 0 ≤ lo) (g1 : lo ≤ 4294967295) (g2 : 0 ≤ hi) (g3 : hi ≤ 4294967295) (e1 : bits BinOp.and IntKind.u32 (lo / 1048576) 255 = p1) (e2 : bits BinOp.and IntKind.u32 lo 1048575 = p2) (f0 : 0 ≤ p0) (f1 : p0 ≤ 15) (f2 : 0 ≤ p1) (f3 : p1 ≤ 255) (f4 : 0 ≤ p2) (f5 : p2 ≤ 1048575) (e0 : lo / 268435456 = p0) (n0 : (p0 == 1) = false) (e3 : hi / 536870912 = p3) (e4 : bits BinOp.and IntKind.u32 hi 536870911 = p4) (f6 : 0 ≤ p3) (f7 : p3 ≤ 7) (h : Hid (rightB p0 p1 p2 p3 p4 = true)) :
    Calls Tryd.prog 29 #[.int .u32 lo, .int .u32 hi] w fun e w' => e = .returned (.tuple #[.agg #[.int .i64 p0, .int .i64 p1, .int .i64 p2, .int .i64 p3, .int .u32 p4], .nilIface]) ∧ Below w.heap.size w w' := by
  have HE := ErrsAt.below hE (((Below.refl _ _).alloc (Nat.le_refl _) _).alloc (by simp) _ : Below w.heap.size w ((w.alloc (.cells #[.int .i64 0, .int .i64 0, .int .i64 0, .int .i64 0, .int .u32 0] 47)).alloc (.cells #[.int .i64 p0, .int .i64 p1, .int .i64 p2, .int .i64 p3, .int .u32 p4] 47)))
  go_enter Tryd.func29, Tryd.ntmps29
  go_wp2_with (first | (go_at_call 32; (with_reducible refine (kvalid_ok _ _ _ _ _ _ _ h _ HE).mono ?_); rintro e w1 ⟨rfl, hb⟩; obtain ⟨hc, hf⟩ := bcell hb; have hz : w.heap.size + 1 < w1.heap.size := by { have := hb.size; simp at this; omega }))
  obtain ⟨q0, q1, q2, q3, q4⟩ := five_cells (b := w.heap.size) (u0 := .int .i64 0) (u1 := .int .i64 0) (u2 := .int .i64 0) (u3 := .int .i64 0) (u4 := .int .u32 0) (.int .i64 p0) (.int .i64 p1) (.int .i64 p2) (.int .i64 p3) (.int .u32 p4) ((hc w.heap.size 0 (by simp; omega)).trans (by simp)) ((hc w.heap.size 1 (by simp; omega)).trans (by simp)) ((hc w.heap.size 2 (by simp; omega)).trans (by simp)) ((hc w.heap.size 3 (by simp; omega)).trans (by simp)) ((hc w.heap.size 4 (by simp; omega)).trans (by simp)) _ rfl
  refine bodyPost_ret (v := .tuple #[.agg #[.int .i64 p0, .int .i64 p1, .int .i64 p2, .int .i64 p3, .int .u32 p4], .nilIface]) (by simp [results, Tryd.results29, go_sem, q0, q1, q2, q3, q4]) rfl ⟨rfl, ?_⟩
  exact (((((((((Below.refl _ _).alloc (Nat.le_refl _) _).alloc (by simp) _).trans (hb.mono (by simp; omega))).setCell (by simp) _).setCell (by simp) _).setCell (by simp) _).setCell (by simp) _).setCell (by simp) _)
set_option maxRecDepth 100000 in
set_option maxHeartbeats 1000000 in
theorem kunpack_a_bad (lo hi p0 p1 p2 p3 p4 : Int) (a b : Addr) (w : World) (hE : ErrsAt (errV a) (errV b) w) (g0 : 0 ≤ lo) (g1 : lo ≤ 4294967295) (g2 : 0 ≤ hi) (g3 : hi ≤ 4294967295) (e1 : bits BinOp.and IntKind.u32 (lo / 1048576) 255 = p1) (e2 : bits BinOp.and IntKind.u32 lo 1048575 = p2) (f0 : 0 ≤ p0) (f1 : p0 ≤ 15) (f2 : 0 ≤ p1) (f3 : p1 ≤ 255) (f4 : 0 ≤ p2) (f5 : p2 ≤ 1048575) (e0 : lo / 268435456 = p0) (n0 : (p0 == 1) = false) (e3 : hi / 536870912 = p3) (e4 : bits BinOp.and IntKind.u32 hi 536870911 = p4) (f6 : 0 ≤ p3) (f7 : p3 ≤ 7) (h : Hid (rightB p0 p1 p2 p3 p4 = false)) :
    Calls Tryd.prog 29 #[.int .u32 lo, .int .u32 hi] w fun e w' => ∃ c : Addr, e = .returned (.tuple #[.agg #[.int .i64 0, .int .i64 0, .int .i64 0, .int .i64 0, .int .u32 0], errV c]) ∧ Below w.heap.size w w' := by
  have HE := ErrsAt.below hE (((Below.refl _ _).alloc (Nat.le_refl _) _).alloc (by simp) _ : Below w.heap.size w ((w.alloc (.cells #[.int .i64 0, .int .i64 0, .int .i64 0, .int .i64 0, .int .u32 0] 47)).alloc (.cells #[.int .i64 p0, .int .i64 p1, .int .i64 p2, .int .i64 p3, .int .u32 p4] 47)))
  go_enter Tryd.func29, Tryd.ntmps29
  go_wp2_with (first | (go_at_call 32; (with_reducible refine (kvalid_bad _ _ _ _ _ _ _ _ h _ HE).mono ?_); rintro e w1 ⟨c, rfl, hb⟩; obtain ⟨hc, hf⟩ := bcell hb; have hz : w.heap.size + 1 < w1.heap.size := by { have := hb.size; simp at this; omega }))
  obtain ⟨q0, q1, q2, q3, q4⟩ := five_cells (b := w.heap.size) (u0 := .int .i64 0) (u1 := .int .i64 0) (u2 := .int .i64 0) (u3 := .int .i64 0) (u4 := .int .u32 0) (.int .i64 0) (.int .i64 0) (.int .i64 0) (.int .i64 0) (.int .u32 0) ((hc w.heap.size 0 (by simp; omega)).trans (by simp)) ((hc w.heap.size 1 (by simp; omega)).trans (by simp)) ((hc w.heap.size 2 (by simp; omega)).trans (by simp)) ((hc w.heap.size 3 (by simp; omega)).trans (by simp)) ((hc w.heap.size 4 (by simp; omega)).trans (by simp)) _ rfl
  refine bodyPost_ret (v := .tuple #[.agg #[.int .i64 0, .int .i64 0, .int .i64 0, .int .i64 0, .int .u32 0], errV c]) (by simp [results, Tryd.results29, go_sem, q0, q1, q2, q3, q4]) rfl ⟨c, ⟨rfl, ?_⟩⟩
  exact (((((((((Below.refl _ _).alloc (Nat.le_refl _) _).alloc (by simp) _).trans (hb.mono (by simp; omega))).setCell (by simp) _).setCell (by simp) _).setCell (by simp) _).setCell (by simp) _).setCell (by simp) _)
set_option maxRecDepth 100000 in
set_option maxHeartbeats 1000000 in
theorem kunpack_n_ok (lo hi p1 p2 : Int) (a b : Addr) (w : World) (hE : ErrsAt (errV a) (errV b) w) (g0 : 0 ≤ lo) (g1 : lo ≤ 4294967295) (g2 : 0 ≤ hi) (g3 : hi ≤ 4294967295) (e1 : bits BinOp.and IntKind.u32 (lo / 1048576) 255 = p1) (e2 : bits BinOp.and IntKind.u32 lo 1048575 = p2) (f2 : 0 ≤ p1) (f3 : p1 ≤ 255) (f4 : 0 ≤ p2) (f5 : p2 ≤ 1048575) (e0 : lo / 268435456 = 1) (h : Hid (rightB 1 p1 p2 0 hi = true)) :
    Calls Tryd.prog 29 #[.int .u32 lo, .int .u32 hi] w fun e w' => e = .returned (.tuple #[.agg #[.int .i64 1, .int .i64 p1, .int .i64 p2, .int .i64 0, .int .u32 hi], .nilIface]) ∧ Below w.heap.size w w' := by
  have HE := ErrsAt.below hE (((Below.refl _ _).alloc (Nat.le_refl _) _).alloc (by simp) _ : Below w.heap.size w ((w.alloc (.cells #[.int .i64 0, .int .i64 0, .int .i64 0, .int .i64 0, .int .u32 0] 47)).alloc (.cells #[.int .i64 1, .int .i64 p1, .int .i64 p2, .int .i64 0, .int .u32 hi] 47)))
  go_enter Tryd.func29, Tryd.ntmps29
  go_wp2_with (first | (go_at_call 32; (with_reducible refine (kvalid_ok _ _ _ _ _ _ _ h _ HE).mono ?_); rintro e w1 ⟨rfl, hb⟩; obtain ⟨hc, hf⟩ := bcell hb; have hz : w.heap.size + 1 < w1.heap.size := by { have := hb.size; simp at this; omega }))
  obtain ⟨q0, q1, q2, q3, q4⟩ := five_cells (b := w.heap.size) (u0 := .int .i64 0) (u1 := .int .i64 0) (u2 := .int .i64 0) (u3 := .int .i64 0) (u4 := .int .u32 0) (.int .i64 1) (.int .i64 p1) (.int .i64 p2) (.int .i64 0) (.int .u32 hi) ((hc w.heap.size 0 (by simp; omega)).trans (by simp)) ((hc w.heap.size 1 (by simp; omega)).trans (by simp)) ((hc w.heap.size 2 (by simp; omega)).trans (by simp)) ((hc w.heap.size 3 (by simp; omega)).trans (by simp)) ((hc w.heap.size 4 (by simp; omega)).trans (by simp)) _ rfl
  refine bodyPost_ret (v := .tuple #[.agg #[.int .i64 1, .int .i64 p1, .int .i64 p2, .int .i64 0, .int .u32 hi], .nilIface]) (by simp [results, Tryd.results29, go_sem, q0, q1, q2, q3, q4]) rfl ⟨rfl, ?_⟩
  exact (((((((((Below.refl _ _).alloc (Nat.le_refl _) _).alloc (by simp) _).trans (hb.mono (by simp; omega))).setCell (by simp) _).setCell (by simp) _).setCell (by simp) _).setCell (by simp) _).setCell (by simp) _)
set_option maxRecDepth 100000 in
set_option maxHeartbeats 1000000 in
theorem kunpack_n_bad (lo hi p1 p2 : Int) (a b : Addr) (w : World) (hE : ErrsAt (errV a) (errV b) w) (g0 : 0 ≤ lo) (g1 : lo ≤ 4294967295) (g2 : 0 ≤ hi) (g3 : hi ≤ 4294967295) (e1 : bits BinOp.and IntKind.u32 (lo / 1048576) 255 = p1) (e2 : bits BinOp.and IntKind.u32 lo 1048575 = p2) (f2 : 0 ≤ p1) (f3 : p1 ≤ 255) (f4 : 0 ≤ p2) (f5 : p2 ≤ 1048575) (e0 : lo / 268435456 = 1) (h : Hid (rightB 1 p1 p2 0 hi = false)) :
    Calls Tryd.prog 29 #[.int .u32 lo, .int .u32 hi] w fun e w' => ∃ c : Addr, e = .returned (.tuple #[.agg #[.int .i64 0, .int .i64 0, .int .i64 0, .int .i64 0, .int .u32 0], errV c]) ∧ Below w.heap.size w w' := by
  have HE := ErrsAt.below hE (((Below.refl _ _).alloc (Nat.le_refl _) _).alloc (by simp) _ : Below w.heap.size w ((w.alloc (.cells #[.int .i64 0, .int .i64 0, .int .i64 0, .int .i64 0, .int .u32 0] 47)).alloc (.cells #[.int .i64 1, .int .i64 p1, .int .i64 p2, .int .i64 0, .int .u32 hi] 47)))
  go_enter Tryd.func29, Tryd.ntmps29
  go_wp2_with (first | (go_at_call 32; (with_reducible refine (kvalid_bad _ _ _ _ _ _ _ _ h _ HE).mono ?_); rintro e w1 ⟨c, rfl, hb⟩; obtain ⟨hc, hf⟩ := bcell hb; have hz : w.heap.size + 1 < w1.heap.size := by { have := hb.size; simp at this; omega }))
  obtain ⟨q0, q1, q2, q3, q4⟩ := five_cells (b := w.heap.size) (u0 := .int .i64 0) (u1 := .int .i64 0) (u2 := .int .i64 0) (u3 := .int .i64 0) (u4 := .int .u32 0) (.int .i64 0) (.int .i64 0) (.int .i64 0) (.int .i64 0) (.int .u32 0) ((hc w.heap.size 0 (by simp; omega)).trans (by simp)) ((hc w.heap.size 1 (by simp; omega)).trans (by simp)) ((hc w.heap.size 2 (by simp; omega)).trans (by simp)) ((hc w.heap.size 3 (by simp; omega)).trans (by simp)) ((hc w.heap.size 4 (by simp; omega)).trans (by simp)) _ rfl
  refine bodyPost_ret (v := .tuple #[.agg #[.int .i64 0, .int .i64 0, .int .i64 0, .int .i64 0, .int .u32 0], errV c]) (by simp [results, Tryd.results29, go_sem, q0, q1, q2, q3, q4]) rfl ⟨c, ⟨rfl, ?_⟩⟩
  exact (((((((((Below.refl _ _).alloc (Nat.le_refl _) _).alloc (by simp) _).trans (hb.mono (by simp; omega))).setCell (by simp) _).setCell (by simp) _).setCell (by simp) _).setCell (by simp) _).setCell (by simp) _)
end Go.Proofs.YtggnaalcdekccaaDoor
