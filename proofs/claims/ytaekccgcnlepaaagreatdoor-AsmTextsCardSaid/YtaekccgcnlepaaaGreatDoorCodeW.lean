/-
  package code: Word, Read.
-/
import Derived.Test.YtaekccgcnlepaaaGreatDoorCode
namespace Go.Proofs.YtaekccgcnlepaaaGreatDoor
open Go.ChangeShapes Go.WideShapes Go.ChangeAt Go.RowKit
set_option linter.unusedVariables false
theorem or_sum (i : Nat) (x y : Int) (hx : 0 ≤ x) (hx' : x < 4294967296) (hy : 0 ≤ y) (hm : x % ((2 ^ i : Nat) : Int) = 0) (hlt : y < ((2 ^ i : Nat) : Int)) (hy' : y < 4294967296) : bits BinOp.or IntKind.u32 x y = x + y := by
  rw [u32_or x y hx hx' hy hy', nat_join i x.toNat y.toNat ?_ ?_]
  · omega
  · have h1 : x = (x.toNat : Int) := by omega
    rw [h1] at hm
    have : ((x.toNat % 2 ^ i : Nat) : Int) = 0 := by rw [Int.natCast_emod]; exact hm
    omega
  · omega
/-- Five cells stored one by one: what they hold. -/
theorem five_cells {w1 : World} {b : Nat} {u0 u1 u2 u3 u4 : Value} (v0 v1 v2 v3 v4 : Value) (h0 : w1.cell? ⟨b, 0, none⟩ = some u0) (h1 : w1.cell? ⟨b, 1, none⟩ = some u1) (h2 : w1.cell? ⟨b, 2, none⟩ = some u2) (h3 : w1.cell? ⟨b, 3, none⟩ = some u3) (h4 : w1.cell? ⟨b, 4, none⟩ = some u4) (W : World)
    (hW : W = ((((w1.setCell ⟨b, 0, none⟩ v0).setCell ⟨b, 1, none⟩ v1).setCell ⟨b, 2, none⟩ v2).setCell ⟨b, 3, none⟩ v3).setCell ⟨b, 4, none⟩ v4) :
    W.cell? ⟨b, 0, none⟩ = some v0 ∧ W.cell? ⟨b, 1, none⟩ = some v1 ∧ W.cell? ⟨b, 2, none⟩ = some v2 ∧ W.cell? ⟨b, 3, none⟩ = some v3 ∧ W.cell? ⟨b, 4, none⟩ = some v4 := by
  have o : ∀ (w : World) (i j : Nat) (v : Value), i ≠ j → (w.setCell ⟨b, i, none⟩ v).cell? ⟨b, j, none⟩ = w.cell? ⟨b, j, none⟩ := fun w i j v h => World.cell?_setCell_other w _ _ v (by intro e; exact h (congrArg Addr.off e))
  have c : ∀ (w : World) (i : Nat) (v u : Value), w.cell? ⟨b, i, none⟩ = some u → (w.setCell ⟨b, i, none⟩ v).cell? ⟨b, i, none⟩ = some v := fun w i v u h => World.cell?_setCell_same w _ v h
  subst hW
  refine ⟨?_, ?_, ?_, ?_, ?_⟩
  · rw [o _ 4 0 _ (by decide), o _ 3 0 _ (by decide), o _ 2 0 _ (by decide), o _ 1 0 _ (by decide)]
    exact c _ _ _ _ h0
  · rw [o _ 4 1 _ (by decide), o _ 3 1 _ (by decide), o _ 2 1 _ (by decide)]
    exact c _ _ _ u1 (by rw [o _ 0 1 _ (by decide)]; exact h1)
  · rw [o _ 4 2 _ (by decide), o _ 3 2 _ (by decide)]
    exact c _ _ _ u2 (by rw [o _ 1 2 _ (by decide), o _ 0 2 _ (by decide)]; exact h2)
  · rw [o _ 4 3 _ (by decide)]
    exact c _ _ _ u3 (by rw [o _ 2 3 _ (by decide), o _ 1 3 _ (by decide), o _ 0 3 _ (by decide)]; exact h3)
  · exact c _ _ _ u4 (by rw [o _ 3 4 _ (by decide), o _ 2 4 _ (by decide), o _ 1 4 _ (by decide), o _ 0 4 _ (by decide)]; exact h4)
theorem and_mod (i : Nat) (x : Int) (m : Int) (hx : 0 ≤ x) (hx' : x < 4294967296) (hm : m = ((2 ^ i - 1 : Nat) : Int)) (hi : i < 32) : bits BinOp.and IntKind.u32 x m = x % ((2 ^ i : Nat) : Int) := by
  have h2 : 2 ^ i - 1 < 4294967296 := Nat.lt_of_lt_of_le (Nat.sub_lt (Nat.two_pow_pos i) (by decide)) (Nat.pow_le_pow_right (by decide) (by omega : i ≤ 32))
  rw [u32_and x m hx hx' (by omega) (by omega), hm, Int.toNat_natCast, Nat.and_two_pow_sub_one_eq_mod]
  have h1 : x = (x.toNat : Int) := by omega
  rw [Int.natCast_emod, ← h1]
def wordC (op a b c i : Int) : Int := op * 16777216 + a * 1048576 + b * 65536 + c * 4096 + i
theorem word_sum (op a b c i : Int) (g0 : 0 ≤ op) (g1 : op ≤ 13) (g2 : 0 ≤ a) (g3 : a ≤ 15) (g4 : 0 ≤ b) (g5 : b ≤ 15) (g6 : 0 ≤ c) (g7 : c ≤ 15) (g8 : 0 ≤ i) (g9 : i ≤ 4095) :
    bits BinOp.or IntKind.u32 (op * 16777216) (bits BinOp.or IntKind.u32 (bits BinOp.or IntKind.u32 (bits BinOp.or IntKind.u32 (a * 1048576) (b * 65536)) (c * 4096)) i) = wordC op a b c i := by
  rw [or_sum 20 (a * 1048576) (b * 65536) (by omega) (by omega) (by omega) (by simp) (by simp; omega) (by omega)]
  rw [or_sum 16 _ (c * 4096) (by omega) (by omega) (by omega) (by simp; omega) (by simp; omega) (by omega)]
  rw [or_sum 12 _ i (by omega) (by omega) (by omega) (by simp; omega) (by simp; omega) (by omega)]
  rw [or_sum 24 (op * 16777216) _ (by omega) (by omega) (by omega) (by simp) (by simp; omega) (by omega)]
  unfold wordC
  omega
theorem hi_le (f : Int) : hiOf f ≤ 4095 := by unfold hiOf; repeat' split
                                              all_goals omega
theorem fA_le : ∀ n : Fin 14, hiOf (fA.getD n.val 0) ≤ 15 := by decide
theorem fB_le : ∀ n : Fin 14, hiOf (fB.getD n.val 0) ≤ 15 := by decide
theorem fC_le : ∀ n : Fin 14, hiOf (fC.getD n.val 0) ≤ 15 := by decide
/-- What bounds a right instruction has. -/
theorem ok_bounds {op a b c i : Int} (h : okB op a b c i = true) : 1 ≤ op ∧ op ≤ 13 ∧ 0 ≤ a ∧ a ≤ 15 ∧ 0 ≤ b ∧ b ≤ 15 ∧ 0 ≤ c ∧ c ≤ 15 ∧ 0 ≤ i ∧ i ≤ 4095 := by
  simp only [okB, fitB, Bool.and_eq_true, decide_eq_true_eq] at h
  obtain ⟨h0, h1, h2, h3, h4⟩ := h
  have e1 := fA_le ⟨op.toNat, by omega⟩
  have e2 := fB_le ⟨op.toNat, by omega⟩
  have e3 := fC_le ⟨op.toNat, by omega⟩
  have e4 := hi_le (fI.getD op.toNat 0)
  simp only at e1 e2 e3
  omega
theorem ret_word {a b : Int} {v : Value} (h : a = b) : Ending.returned (.tuple #[.int .u32 a, v]) = .returned (.tuple #[.int .u32 b, v]) := by rw [h]
set_option maxRecDepth 100000 in
set_option maxHeartbeats 1000000 in
theorem cword_ok (op a b c i : Int) (x y : Addr) (w : World) (hC : CodeAt (errC x) (errC y) w) (h : Hid (okB op a b c i = true)) (l : Int) (hl : Hid (wordC op a b c i = l)) :
    Calls Tryz.prog 32 #[.agg #[.int .i64 op, .int .i64 a, .int .i64 b, .int .i64 c, .int .i64 i]] w fun e w' => e = .returned (.tuple #[.int .u32 l, .nilIface]) ∧ Below w.heap.size w w' := by
  have HC := hC.below ((Below.refl _ _).alloc (Nat.le_refl _) _ : Below w.heap.size w (w.alloc (.cells #[.int .i64 op, .int .i64 a, .int .i64 b, .int .i64 c, .int .i64 i] 62)))
  obtain ⟨g0, g1, g2, g3, g4, g5, g6, g7, g8, g9⟩ := ok_bounds h.out
  have E := Lib.hid (word_sum op a b c i (by omega) g1 g2 g3 g4 g5 g6 g7 g8 g9)
  clear hC
  go_enter Tryz.func32, Tryz.ntmps32
  go_wp2_with (first | (go_at_call 44; (with_reducible refine (cvalid_yes _ _ _ _ _ _ _ h _ HC).mono ?_); rintro e w1 ⟨rfl, hb⟩; have hk := keep5C (k0 := op) (k1 := a) (k2 := b) (k3 := c) (k4 := i) (b := w.heap.size) ⟨by simp, by simp, by simp, by simp, by simp, by simp⟩ hb))
  go_ret2
  exact ⟨ret_word (E.out.trans hl.out), ((Below.refl _ _).alloc (Nat.le_refl _) _).trans (hb.mono (by simp))⟩
set_option maxRecDepth 100000 in
theorem cword_no (op a b c i : Int) (x y : Addr) (w : World) (hC : CodeAt (errC x) (errC y) w) (z : Addr) (hz : Hid ((if decide (1 ≤ op ∧ op ≤ 13) = true then y else x) = z)) (h : Hid (okB op a b c i = false)) :
    Calls Tryz.prog 32 #[.agg #[.int .i64 op, .int .i64 a, .int .i64 b, .int .i64 c, .int .i64 i]] w fun e w' => e = .returned (.tuple #[.int .u32 0, errC z]) ∧ Below w.heap.size w w' := by
  have HC := hC.below ((Below.refl _ _).alloc (Nat.le_refl _) _ : Below w.heap.size w (w.alloc (.cells #[.int .i64 op, .int .i64 a, .int .i64 b, .int .i64 c, .int .i64 i] 62)))
  clear hC
  go_enter Tryz.func32, Tryz.ntmps32
  go_wp2_with (first | (go_at_call 44; (with_reducible refine (cvalid_no _ _ _ _ _ x y z hz h _ HC).mono ?_); rintro e w1 ⟨rfl, hb⟩))
  go_ret2
  exact ⟨rfl, ((Below.refl _ _).alloc (Nat.le_refl _) _).trans (hb.mono (by simp))⟩
/-- The parts of a word. -/
def PartsC (w p0 p1 p2 p3 p4 : Int) : Prop := w / 16777216 = p0 ∧ w / 1048576 % 16 = p1 ∧ w / 65536 % 16 = p2 ∧ w / 4096 % 16 = p3 ∧ w % 4096 = p4
set_option maxRecDepth 100000 in
set_option maxHeartbeats 1000000 in
theorem cread_ok' (v p0 p1 p2 p3 p4 : Int) (x y : Addr) (w : World) (hC : CodeAt (errC x) (errC y) w) (g0 : 0 ≤ v) (g1 : v ≤ 4294967295) (e0 : v / 16777216 = p0) (e1 : bits BinOp.and IntKind.u32 (v / 1048576) 15 = p1) (e2 : bits BinOp.and IntKind.u32 (v / 65536) 15 = p2) (e3 : bits BinOp.and IntKind.u32 (v / 4096) 15 = p3) (e4 : bits BinOp.and IntKind.u32 v 4095 = p4) (f0 : 0 ≤ p0) (f1 : p0 ≤ 255) (f2 : 0 ≤ p1) (f3 : p1 ≤ 15) (f4 : 0 ≤ p2) (f5 : p2 ≤ 15) (f6 : 0 ≤ p3) (f7 : p3 ≤ 15) (f8 : 0 ≤ p4) (f9 : p4 ≤ 4095) (h : Hid (okB p0 p1 p2 p3 p4 = true)) :
    Calls Tryz.prog 24 #[.int .u32 v] w fun e w' => e = .returned (.tuple #[(Value.agg #[.int .i64 p0, .int .i64 p1, .int .i64 p2, .int .i64 p3, .int .i64 p4]), .bool true]) ∧ Below w.heap.size w w' := by
  have HC := hC.below (((Below.refl _ _).alloc (Nat.le_refl _) _).alloc (by simp) _ : Below w.heap.size w ((w.alloc (.cells #[.int .i64 0, .int .i64 0, .int .i64 0, .int .i64 0, .int .i64 0] 62)).alloc (.cells #[.int .i64 p0, .int .i64 p1, .int .i64 p2, .int .i64 p3, .int .i64 p4] 62)))
  clear hC
  go_enter Tryz.func24, Tryz.ntmps24
  go_wp2_with (first | (go_at_call 44; (with_reducible refine (cvalid_yes _ _ _ _ _ _ _ h _ HC).mono ?_); rintro e w1 ⟨rfl, hb⟩; obtain ⟨hc, hf⟩ := bcellC hb; have hz : w.heap.size + 1 < w1.heap.size := by { have := hb.size; simp at this; omega }))
  obtain ⟨q0, q1, q2, q3, q4⟩ := five_cells (b := w.heap.size) (u0 := .int .i64 0) (u1 := .int .i64 0) (u2 := .int .i64 0) (u3 := .int .i64 0) (u4 := .int .i64 0) (.int .i64 p0) (.int .i64 p1) (.int .i64 p2) (.int .i64 p3) (.int .i64 p4) ((hc w.heap.size 0 (by simp; omega)).trans (by simp)) ((hc w.heap.size 1 (by simp; omega)).trans (by simp)) ((hc w.heap.size 2 (by simp; omega)).trans (by simp)) ((hc w.heap.size 3 (by simp; omega)).trans (by simp)) ((hc w.heap.size 4 (by simp; omega)).trans (by simp)) _ rfl
  refine bodyPost_ret (v := .tuple #[(Value.agg #[.int .i64 p0, .int .i64 p1, .int .i64 p2, .int .i64 p3, .int .i64 p4]), .bool true]) (by simp [results, Tryz.results24, go_sem, q0, q1, q2, q3, q4]) rfl ⟨rfl, ?_⟩
  exact (((((((((Below.refl _ _).alloc (Nat.le_refl _) _).alloc (by simp) _).trans (hb.mono (by simp; omega))).setCell (by simp) _).setCell (by simp) _).setCell (by simp) _).setCell (by simp) _).setCell (by simp) _)
set_option maxRecDepth 100000 in
set_option maxHeartbeats 1000000 in
theorem cread_no' (v p0 p1 p2 p3 p4 : Int) (x y : Addr) (w : World) (hC : CodeAt (errC x) (errC y) w) (g0 : 0 ≤ v) (g1 : v ≤ 4294967295) (e0 : v / 16777216 = p0) (e1 : bits BinOp.and IntKind.u32 (v / 1048576) 15 = p1) (e2 : bits BinOp.and IntKind.u32 (v / 65536) 15 = p2) (e3 : bits BinOp.and IntKind.u32 (v / 4096) 15 = p3) (e4 : bits BinOp.and IntKind.u32 v 4095 = p4) (f0 : 0 ≤ p0) (f1 : p0 ≤ 255) (f2 : 0 ≤ p1) (f3 : p1 ≤ 15) (f4 : 0 ≤ p2) (f5 : p2 ≤ 15) (f6 : 0 ≤ p3) (f7 : p3 ≤ 15) (f8 : 0 ≤ p4) (f9 : p4 ≤ 4095) (h : Hid (okB p0 p1 p2 p3 p4 = false)) :
    Calls Tryz.prog 24 #[.int .u32 v] w fun e w' => e = .returned (.tuple #[Value.agg #[.int .i64 0, .int .i64 0, .int .i64 0, .int .i64 0, .int .i64 0], .bool false]) ∧ Below w.heap.size w w' := by
  have HC := hC.below (((Below.refl _ _).alloc (Nat.le_refl _) _).alloc (by simp) _ : Below w.heap.size w ((w.alloc (.cells #[.int .i64 0, .int .i64 0, .int .i64 0, .int .i64 0, .int .i64 0] 62)).alloc (.cells #[.int .i64 p0, .int .i64 p1, .int .i64 p2, .int .i64 p3, .int .i64 p4] 62)))
  obtain ⟨z, hz⟩ : ∃ z, Hid ((if decide (1 ≤ p0 ∧ p0 ≤ 13) = true then y else x) = z) := ⟨_, Lib.hid rfl⟩
  clear hC
  go_enter Tryz.func24, Tryz.ntmps24
  go_wp2_with (first | (go_at_call 44; (with_reducible refine (cvalid_no _ _ _ _ _ x y z hz h _ HC).mono ?_); rintro e w1 ⟨rfl, hb⟩; obtain ⟨hc, hf⟩ := bcellC hb; have hz : w.heap.size + 1 < w1.heap.size := by { have := hb.size; simp at this; omega }))
  obtain ⟨q0, q1, q2, q3, q4⟩ := five_cells (b := w.heap.size) (u0 := .int .i64 0) (u1 := .int .i64 0) (u2 := .int .i64 0) (u3 := .int .i64 0) (u4 := .int .i64 0) (.int .i64 0) (.int .i64 0) (.int .i64 0) (.int .i64 0) (.int .i64 0) ((hc w.heap.size 0 (by simp; omega)).trans (by simp)) ((hc w.heap.size 1 (by simp; omega)).trans (by simp)) ((hc w.heap.size 2 (by simp; omega)).trans (by simp)) ((hc w.heap.size 3 (by simp; omega)).trans (by simp)) ((hc w.heap.size 4 (by simp; omega)).trans (by simp)) _ rfl
  refine bodyPost_ret (v := .tuple #[Value.agg #[.int .i64 0, .int .i64 0, .int .i64 0, .int .i64 0, .int .i64 0], .bool false]) (by simp [results, Tryz.results24, go_sem, q0, q1, q2, q3, q4]) rfl ⟨rfl, ?_⟩
  exact (((((((((Below.refl _ _).alloc (Nat.le_refl _) _).alloc (by simp) _).trans (hb.mono (by simp; omega))).setCell (by simp) _).setCell (by simp) _).setCell (by simp) _).setCell (by simp) _).setCell (by simp) _)
theorem cread_ok (v p0 p1 p2 p3 p4 : Int) (x y : Addr) (w : World) (hC : CodeAt (errC x) (errC y) w) (g0 : 0 ≤ v) (g1 : v ≤ 4294967295) (hp : Hid (PartsC v p0 p1 p2 p3 p4)) (h : Hid (okB p0 p1 p2 p3 p4 = true)) :
    Calls Tryz.prog 24 #[.int .u32 v] w fun e w' => e = .returned (.tuple #[(Value.agg #[.int .i64 p0, .int .i64 p1, .int .i64 p2, .int .i64 p3, .int .i64 p4]), .bool true]) ∧ Below w.heap.size w w' := by
  obtain ⟨e0, e1, e2, e3, e4⟩ := hp.out; have m1 : bits BinOp.and IntKind.u32 (v / 1048576) 15 = p1 := by { rw [and_mod 4 _ 15 (by omega) (by omega) (by decide) (by decide)]; exact e1 }; have m2 : bits BinOp.and IntKind.u32 (v / 65536) 15 = p2 := by { rw [and_mod 4 _ 15 (by omega) (by omega) (by decide) (by decide)]; exact e2 }; have m3 : bits BinOp.and IntKind.u32 (v / 4096) 15 = p3 := by { rw [and_mod 4 _ 15 (by omega) (by omega) (by decide) (by decide)]; exact e3 }; have m4 : bits BinOp.and IntKind.u32 v 4095 = p4 := by { rw [and_mod 12 _ 4095 (by omega) (by omega) (by decide) (by decide)]; exact e4 }
  exact cread_ok' v p0 p1 p2 p3 p4 x y w hC g0 g1 e0 m1 m2 m3 m4 (by omega) (by omega) (by omega) (by omega) (by omega) (by omega) (by omega) (by omega) (by omega) (by omega) h
theorem cread_no (v p0 p1 p2 p3 p4 : Int) (x y : Addr) (w : World) (hC : CodeAt (errC x) (errC y) w) (g0 : 0 ≤ v) (g1 : v ≤ 4294967295) (hp : Hid (PartsC v p0 p1 p2 p3 p4)) (h : Hid (okB p0 p1 p2 p3 p4 = false)) :
    Calls Tryz.prog 24 #[.int .u32 v] w fun e w' => e = .returned (.tuple #[Value.agg #[.int .i64 0, .int .i64 0, .int .i64 0, .int .i64 0, .int .i64 0], .bool false]) ∧ Below w.heap.size w w' := by
  obtain ⟨e0, e1, e2, e3, e4⟩ := hp.out; have m1 : bits BinOp.and IntKind.u32 (v / 1048576) 15 = p1 := by { rw [and_mod 4 _ 15 (by omega) (by omega) (by decide) (by decide)]; exact e1 }; have m2 : bits BinOp.and IntKind.u32 (v / 65536) 15 = p2 := by { rw [and_mod 4 _ 15 (by omega) (by omega) (by decide) (by decide)]; exact e2 }; have m3 : bits BinOp.and IntKind.u32 (v / 4096) 15 = p3 := by { rw [and_mod 4 _ 15 (by omega) (by omega) (by decide) (by decide)]; exact e3 }; have m4 : bits BinOp.and IntKind.u32 v 4095 = p4 := by { rw [and_mod 12 _ 4095 (by omega) (by omega) (by decide) (by decide)]; exact e4 }
  exact cread_no' v p0 p1 p2 p3 p4 x y w hC g0 g1 e0 m1 m2 m3 m4 (by omega) (by omega) (by omega) (by omega) (by omega) (by omega) (by omega) (by omega) (by omega) (by omega) h
theorem partsC_of {op a b c i : Int} (h : okB op a b c i = true) : PartsC (wordC op a b c i) op a b c i ∧ 0 ≤ wordC op a b c i ∧ wordC op a b c i ≤ 4294967295 := by
  have := ok_bounds h
  unfold PartsC wordC
  omega
theorem wordC_of {v p0 p1 p2 p3 p4 : Int} (h : PartsC v p0 p1 p2 p3 p4) : wordC p0 p1 p2 p3 p4 = v := by
  unfold PartsC at h
  unfold wordC
  omega
end Go.Proofs.YtaekccgcnlepaaaGreatDoor
