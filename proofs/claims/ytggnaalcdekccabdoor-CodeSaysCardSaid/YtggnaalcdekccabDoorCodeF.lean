/-
  turnkeyref1: ReadInstr, WordOf; the names.
-/
import Derived.Test.YtggnaalcdekccabDoorCodeVz
namespace Go.Proofs.YtggnaalcdekccabDoor
open Go.ChangeShapes Go.WideShapes Go.ChangeAt Go.RowKit
set_option linter.unusedVariables false
set_option maxRecDepth 100000 in
set_option maxHeartbeats 1000000 in
theorem refread_ok' (v p0 p1 p2 p3 p4 : Int) (w : World) (g0 : 0 ≤ v) (g1 : v ≤ 4294967295) (e0 : v / 16777216 = p0) (e1 : bits BinOp.and IntKind.u32 (v / 1048576) 15 = p1) (e2 : bits BinOp.and IntKind.u32 (v / 65536) 15 = p2) (e3 : bits BinOp.and IntKind.u32 (v / 4096) 15 = p3) (e4 : bits BinOp.and IntKind.u32 v 4095 = p4) (f0 : 0 ≤ p0) (f1 : p0 ≤ 255) (f2 : 0 ≤ p1) (f3 : p1 ≤ 15) (f4 : 0 ≤ p2) (f5 : p2 ≤ 15) (f6 : 0 ≤ p3) (f7 : p3 ≤ 15) (f8 : 0 ≤ p4) (f9 : p4 ≤ 4095) (h : Hid (codeI p0 p1 p2 p3 p4 = 0)) :
    Calls Tryd.prog 12 #[.int .u32 v] w fun e w' => e = .returned (.tuple #[(Value.agg #[.int .i64 p0, .int .i64 p1, .int .i64 p2, .int .i64 p3, .int .i64 p4]), .bool true]) ∧ Below w.heap.size w w' := by
  go_enter Tryd.func12, Tryd.ntmps12
  go_wp2_with (first | (go_at_call 8; (with_reducible refine (vi_is _ _ _ _ _ 0 h _).mono ?_); rintro e w1 ⟨rfl, hb⟩; obtain ⟨hc, hf⟩ := bcell hb; have hz : w.heap.size + 1 < w1.heap.size := by { have := hb.size; simp at this; omega }))
  obtain ⟨q0, q1, q2, q3, q4⟩ := five_cells (b := w.heap.size) (u0 := .int .i64 0) (u1 := .int .i64 0) (u2 := .int .i64 0) (u3 := .int .i64 0) (u4 := .int .i64 0) (.int .i64 p0) (.int .i64 p1) (.int .i64 p2) (.int .i64 p3) (.int .i64 p4) ((hc w.heap.size 0 (by simp; omega)).trans (by simp)) ((hc w.heap.size 1 (by simp; omega)).trans (by simp)) ((hc w.heap.size 2 (by simp; omega)).trans (by simp)) ((hc w.heap.size 3 (by simp; omega)).trans (by simp)) ((hc w.heap.size 4 (by simp; omega)).trans (by simp)) _ rfl
  refine bodyPost_ret (v := .tuple #[(Value.agg #[.int .i64 p0, .int .i64 p1, .int .i64 p2, .int .i64 p3, .int .i64 p4]), .bool true]) (by simp [results, Tryd.results12, go_sem, q0, q1, q2, q3, q4]) rfl ⟨rfl, ?_⟩
  exact (((((((((Below.refl _ _).alloc (Nat.le_refl _) _).alloc (by simp) _).trans (hb.mono (by simp; omega))).setCell (by simp) _).setCell (by simp) _).setCell (by simp) _).setCell (by simp) _).setCell (by simp) _)
set_option maxRecDepth 100000 in
set_option maxHeartbeats 1000000 in
theorem refread_no' (v p0 p1 p2 p3 p4 : Int) (w : World) (g0 : 0 ≤ v) (g1 : v ≤ 4294967295) (e0 : v / 16777216 = p0) (e1 : bits BinOp.and IntKind.u32 (v / 1048576) 15 = p1) (e2 : bits BinOp.and IntKind.u32 (v / 65536) 15 = p2) (e3 : bits BinOp.and IntKind.u32 (v / 4096) 15 = p3) (e4 : bits BinOp.and IntKind.u32 v 4095 = p4) (f0 : 0 ≤ p0) (f1 : p0 ≤ 255) (f2 : 0 ≤ p1) (f3 : p1 ≤ 15) (f4 : 0 ≤ p2) (f5 : p2 ≤ 15) (f6 : 0 ≤ p3) (f7 : p3 ≤ 15) (f8 : 0 ≤ p4) (f9 : p4 ≤ 4095) (t : Int) (ht : (t == 0) = false) (ht' : (t != 0) = true) (h : Hid (codeI p0 p1 p2 p3 p4 = t)) :
    Calls Tryd.prog 12 #[.int .u32 v] w fun e w' => e = .returned (.tuple #[Value.agg #[.int .i64 0, .int .i64 0, .int .i64 0, .int .i64 0, .int .i64 0], .bool false]) ∧ Below w.heap.size w w' := by
  go_enter Tryd.func12, Tryd.ntmps12
  go_wp2_with (first | (go_at_call 8; (with_reducible refine (vi_is _ _ _ _ _ t h _).mono ?_); rintro e w1 ⟨rfl, hb⟩; obtain ⟨hc, hf⟩ := bcell hb; have hz : w.heap.size + 1 < w1.heap.size := by { have := hb.size; simp at this; omega }))
  obtain ⟨q0, q1, q2, q3, q4⟩ := five_cells (b := w.heap.size) (u0 := .int .i64 0) (u1 := .int .i64 0) (u2 := .int .i64 0) (u3 := .int .i64 0) (u4 := .int .i64 0) (.int .i64 0) (.int .i64 0) (.int .i64 0) (.int .i64 0) (.int .i64 0) ((hc w.heap.size 0 (by simp; omega)).trans (by simp)) ((hc w.heap.size 1 (by simp; omega)).trans (by simp)) ((hc w.heap.size 2 (by simp; omega)).trans (by simp)) ((hc w.heap.size 3 (by simp; omega)).trans (by simp)) ((hc w.heap.size 4 (by simp; omega)).trans (by simp)) _ rfl
  refine bodyPost_ret (v := .tuple #[Value.agg #[.int .i64 0, .int .i64 0, .int .i64 0, .int .i64 0, .int .i64 0], .bool false]) (by simp [results, Tryd.results12, go_sem, q0, q1, q2, q3, q4]) rfl ⟨rfl, ?_⟩
  exact (((((((((Below.refl _ _).alloc (Nat.le_refl _) _).alloc (by simp) _).trans (hb.mono (by simp; omega))).setCell (by simp) _).setCell (by simp) _).setCell (by simp) _).setCell (by simp) _).setCell (by simp) _)
theorem refread_ok (v p0 p1 p2 p3 p4 : Int) (w : World) (g0 : 0 ≤ v) (g1 : v ≤ 4294967295) (hp : Hid (PartsC v p0 p1 p2 p3 p4)) (h : Hid (okB p0 p1 p2 p3 p4 = true)) :
    Calls Tryd.prog 12 #[.int .u32 v] w fun e w' => e = .returned (.tuple #[(Value.agg #[.int .i64 p0, .int .i64 p1, .int .i64 p2, .int .i64 p3, .int .i64 p4]), .bool true]) ∧ Below w.heap.size w w' := by
  obtain ⟨e0, e1, e2, e3, e4⟩ := hp.out; have m1 : bits BinOp.and IntKind.u32 (v / 1048576) 15 = p1 := by { rw [and_mod 4 _ 15 (by omega) (by omega) (by decide) (by decide)]; exact e1 }; have m2 : bits BinOp.and IntKind.u32 (v / 65536) 15 = p2 := by { rw [and_mod 4 _ 15 (by omega) (by omega) (by decide) (by decide)]; exact e2 }; have m3 : bits BinOp.and IntKind.u32 (v / 4096) 15 = p3 := by { rw [and_mod 4 _ 15 (by omega) (by omega) (by decide) (by decide)]; exact e3 }; have m4 : bits BinOp.and IntKind.u32 v 4095 = p4 := by { rw [and_mod 12 _ 4095 (by omega) (by omega) (by decide) (by decide)]; exact e4 }
  exact refread_ok' v p0 p1 p2 p3 p4 w g0 g1 e0 m1 m2 m3 m4 (by omega) (by omega) (by omega) (by omega) (by omega) (by omega) (by omega) (by omega) (by omega) (by omega) (Lib.hid (codeI_ok h.out))
theorem codeI_ne {op a b c i : Int} (h : okB op a b c i = false) : ¬ codeI op a b c i = 0 := by
  unfold codeI
  rw [if_neg (by rw [h]; decide)]
  split <;> decide
theorem refread_no (v p0 p1 p2 p3 p4 : Int) (w : World) (g0 : 0 ≤ v) (g1 : v ≤ 4294967295) (hp : Hid (PartsC v p0 p1 p2 p3 p4)) (h : Hid (okB p0 p1 p2 p3 p4 = false)) :
    Calls Tryd.prog 12 #[.int .u32 v] w fun e w' => e = .returned (.tuple #[Value.agg #[.int .i64 0, .int .i64 0, .int .i64 0, .int .i64 0, .int .i64 0], .bool false]) ∧ Below w.heap.size w w' := by
  have hn := codeI_ne h.out
  obtain ⟨e0, e1, e2, e3, e4⟩ := hp.out; have m1 : bits BinOp.and IntKind.u32 (v / 1048576) 15 = p1 := by { rw [and_mod 4 _ 15 (by omega) (by omega) (by decide) (by decide)]; exact e1 }; have m2 : bits BinOp.and IntKind.u32 (v / 65536) 15 = p2 := by { rw [and_mod 4 _ 15 (by omega) (by omega) (by decide) (by decide)]; exact e2 }; have m3 : bits BinOp.and IntKind.u32 (v / 4096) 15 = p3 := by { rw [and_mod 4 _ 15 (by omega) (by omega) (by decide) (by decide)]; exact e3 }; have m4 : bits BinOp.and IntKind.u32 v 4095 = p4 := by { rw [and_mod 12 _ 4095 (by omega) (by omega) (by decide) (by decide)]; exact e4 }
  exact refread_no' v p0 p1 p2 p3 p4 w g0 g1 e0 m1 m2 m3 m4 (by omega) (by omega) (by omega) (by omega) (by omega) (by omega) (by omega) (by omega) (by omega) (by omega) _ (beq_eq_false_iff_ne.2 hn) (by simp [hn]) (Lib.hid rfl)
theorem wordof_sum (op a b c i : Int) (g0 : 0 ≤ op) (g1 : op ≤ 13) (g2 : 0 ≤ a) (g3 : a ≤ 15) (g4 : 0 ≤ b) (g5 : b ≤ 15) (g6 : 0 ≤ c) (g7 : c ≤ 15) (g8 : 0 ≤ i) (g9 : i ≤ 4095) :
    bits BinOp.or IntKind.u32 (bits BinOp.or IntKind.u32 (bits BinOp.or IntKind.u32 (bits BinOp.or IntKind.u32 (op * 16777216) (a * 1048576)) (b * 65536)) (c * 4096)) i = wordC op a b c i := by
  rw [or_sum 24 (op * 16777216) (a * 1048576) (by omega) (by omega) (by omega) (by simp) (by simp; omega) (by omega)]
  rw [or_sum 20 _ (b * 65536) (by omega) (by omega) (by omega) (by simp; omega) (by simp; omega) (by omega)]
  rw [or_sum 16 _ (c * 4096) (by omega) (by omega) (by omega) (by simp; omega) (by simp; omega) (by omega)]
  rw [or_sum 12 _ i (by omega) (by omega) (by omega) (by simp; omega) (by simp; omega) (by omega)]
  rfl
theorem ret_u32 {a b : Int} (h : a = b) : Ending.returned (.int .u32 a) = .returned (.int .u32 b) := by rw [h]
set_option maxRecDepth 100000 in
set_option maxHeartbeats 1000000 in
theorem wordof_is (op a b c i : Int) (w : World) (h : Hid (okB op a b c i = true)) (l : Int) (hl : Hid (wordC op a b c i = l)) :
    Calls Tryd.prog 16 #[.agg #[.int .i64 op, .int .i64 a, .int .i64 b, .int .i64 c, .int .i64 i]] w fun e w' => e = .returned (.int .u32 l) ∧ Below w.heap.size w w' := by
  obtain ⟨g0, g1, g2, g3, g4, g5, g6, g7, g8, g9⟩ := ok_bounds h.out
  have E := Lib.hid (wordof_sum op a b c i (by omega) g1 g2 g3 g4 g5 g6 g7 g8 g9)
  go_enter Tryd.func16, Tryd.ntmps16
  go_wp2
  go_ret
  exact ⟨ret_u32 (E.out.trans hl.out), (Below.refl _ _).alloc (Nat.le_refl _) _⟩
end Go.Proofs.YtggnaalcdekccabDoor
