/-
  turnkeyref1.Unpack.
-/
import Derived.Test.YtggnaalcdekccaaDoorKeyRp
import Derived.Test.YtggnaalcdekccaaDoorValidZ
namespace Go.Proofs.YtggnaalcdekccaaDoor
open Go.ChangeShapes Go.WideShapes Go.ChangeAt Go.RowKit
set_option linter.unusedVariables false
theorem refvalid_is (k0 k1 k2 k3 k4 c : Int) (gu : k4 ≤ 4294967295) (h : Hid (codeOf k0 k1 k2 k3 k4 = c)) (w : World) : Calls Tryd.prog 27 #[.agg #[.int .i64 k0, .int .i64 k1, .int .i64 k2, .int .i64 k3, .int .u32 k4]] w fun e w' => e = .returned (.int .i64 c) ∧ Below w.heap.size w w' := by
  have := valid_any k0 k1 k2 k3 k4 gu w
  rwa [h.out] at this
set_option maxRecDepth 100000 in
set_option maxHeartbeats 1000000 in
theorem refunpack_a_ok (lo hi p0 p1 p2 p3 p4 : Int) (w : World) (g0 : 0 ≤ lo) (g1 : lo ≤ 4294967295) (g2 : 0 ≤ hi) (g3 : hi ≤ 4294967295) (e1 : bits BinOp.and IntKind.u32 (lo / 1048576) 255 = p1) (e2 : bits BinOp.and IntKind.u32 lo 1048575 = p2) (f0 : 0 ≤ p0) (f1 : p0 ≤ 15) (f2 : 0 ≤ p1) (f3 : p1 ≤ 255) (f4 : 0 ≤ p2) (f5 : p2 ≤ 1048575) (e0 : lo / 268435456 = p0) (n0 : (p0 == 1) = false) (e3 : hi / 536870912 = p3) (e4 : bits BinOp.and IntKind.u32 hi 536870911 = p4) (f6 : 0 ≤ p3) (f7 : p3 ≤ 7) (f8 : p4 ≤ 4294967295) (h : Hid (codeOf p0 p1 p2 p3 p4 = 0)) :
    Calls Tryd.prog 30 #[.int .u32 lo, .int .u32 hi] w fun e w' => e = .returned (.tuple #[.agg #[.int .i64 p0, .int .i64 p1, .int .i64 p2, .int .i64 p3, .int .u32 p4], .int .i64 0]) ∧ Below w.heap.size w w' := by
  go_enter Tryd.func30, Tryd.ntmps30
  go_wp2_with (first | (go_at_call 27; (with_reducible refine (refvalid_is _ _ _ _ _ 0 (by omega) h _).mono ?_); rintro e w1 ⟨rfl, hb⟩; obtain ⟨hc, hf⟩ := bcell hb; have hz : w.heap.size + 1 < w1.heap.size := by { have := hb.size; simp at this; omega }))
  obtain ⟨q0, q1, q2, q3, q4⟩ := five_cells (b := w.heap.size) (u0 := .int .i64 0) (u1 := .int .i64 0) (u2 := .int .i64 0) (u3 := .int .i64 0) (u4 := .int .u32 0) (.int .i64 p0) (.int .i64 p1) (.int .i64 p2) (.int .i64 p3) (.int .u32 p4) ((hc w.heap.size 0 (by simp; omega)).trans (by simp)) ((hc w.heap.size 1 (by simp; omega)).trans (by simp)) ((hc w.heap.size 2 (by simp; omega)).trans (by simp)) ((hc w.heap.size 3 (by simp; omega)).trans (by simp)) ((hc w.heap.size 4 (by simp; omega)).trans (by simp)) _ rfl
  refine bodyPost_ret (v := .tuple #[.agg #[.int .i64 p0, .int .i64 p1, .int .i64 p2, .int .i64 p3, .int .u32 p4], .int .i64 0]) (by simp [results, Tryd.results30, go_sem, q0, q1, q2, q3, q4]) rfl ⟨rfl, ?_⟩
  exact (((((((((Below.refl _ _).alloc (Nat.le_refl _) _).alloc (by simp) _).trans (hb.mono (by simp; omega))).setCell (by simp) _).setCell (by simp) _).setCell (by simp) _).setCell (by simp) _).setCell (by simp) _)
set_option maxRecDepth 100000 in
set_option maxHeartbeats 1000000 in
theorem refunpack_a_bad (lo hi p0 p1 p2 p3 p4 : Int) (w : World) (g0 : 0 ≤ lo) (g1 : lo ≤ 4294967295) (g2 : 0 ≤ hi) (g3 : hi ≤ 4294967295) (e1 : bits BinOp.and IntKind.u32 (lo / 1048576) 255 = p1) (e2 : bits BinOp.and IntKind.u32 lo 1048575 = p2) (f0 : 0 ≤ p0) (f1 : p0 ≤ 15) (f2 : 0 ≤ p1) (f3 : p1 ≤ 255) (f4 : 0 ≤ p2) (f5 : p2 ≤ 1048575) (e0 : lo / 268435456 = p0) (n0 : (p0 == 1) = false) (e3 : hi / 536870912 = p3) (e4 : bits BinOp.and IntKind.u32 hi 536870911 = p4) (f6 : 0 ≤ p3) (f7 : p3 ≤ 7) (f8 : p4 ≤ 4294967295) (c : Int) (hcc : (c == 0) = false) (hcn : (c != 0) = true) (h : Hid (codeOf p0 p1 p2 p3 p4 = c)) :
    Calls Tryd.prog 30 #[.int .u32 lo, .int .u32 hi] w fun e w' => e = .returned (.tuple #[.agg #[.int .i64 0, .int .i64 0, .int .i64 0, .int .i64 0, .int .u32 0], .int .i64 c]) ∧ Below w.heap.size w w' := by
  go_enter Tryd.func30, Tryd.ntmps30
  go_wp2_with (first | (go_at_call 27; (with_reducible refine (refvalid_is _ _ _ _ _ c (by omega) h _).mono ?_); rintro e w1 ⟨rfl, hb⟩; obtain ⟨hc, hf⟩ := bcell hb; have hz : w.heap.size + 1 < w1.heap.size := by { have := hb.size; simp at this; omega }))
  obtain ⟨q0, q1, q2, q3, q4⟩ := five_cells (b := w.heap.size) (u0 := .int .i64 0) (u1 := .int .i64 0) (u2 := .int .i64 0) (u3 := .int .i64 0) (u4 := .int .u32 0) (.int .i64 0) (.int .i64 0) (.int .i64 0) (.int .i64 0) (.int .u32 0) ((hc w.heap.size 0 (by simp; omega)).trans (by simp)) ((hc w.heap.size 1 (by simp; omega)).trans (by simp)) ((hc w.heap.size 2 (by simp; omega)).trans (by simp)) ((hc w.heap.size 3 (by simp; omega)).trans (by simp)) ((hc w.heap.size 4 (by simp; omega)).trans (by simp)) _ rfl
  refine bodyPost_ret (v := .tuple #[.agg #[.int .i64 0, .int .i64 0, .int .i64 0, .int .i64 0, .int .u32 0], .int .i64 c]) (by simp [results, Tryd.results30, go_sem, q0, q1, q2, q3, q4]) rfl ⟨rfl, ?_⟩
  exact (((((((((Below.refl _ _).alloc (Nat.le_refl _) _).alloc (by simp) _).trans (hb.mono (by simp; omega))).setCell (by simp) _).setCell (by simp) _).setCell (by simp) _).setCell (by simp) _).setCell (by simp) _)
set_option maxRecDepth 100000 in
set_option maxHeartbeats 1000000 in
theorem refunpack_n_ok (lo hi p1 p2 : Int) (w : World) (g0 : 0 ≤ lo) (g1 : lo ≤ 4294967295) (g2 : 0 ≤ hi) (g3 : hi ≤ 4294967295) (e1 : bits BinOp.and IntKind.u32 (lo / 1048576) 255 = p1) (e2 : bits BinOp.and IntKind.u32 lo 1048575 = p2) (f2 : 0 ≤ p1) (f3 : p1 ≤ 255) (f4 : 0 ≤ p2) (f5 : p2 ≤ 1048575) (e0 : lo / 268435456 = 1) (h : Hid (codeOf 1 p1 p2 0 hi = 0)) :
    Calls Tryd.prog 30 #[.int .u32 lo, .int .u32 hi] w fun e w' => e = .returned (.tuple #[.agg #[.int .i64 1, .int .i64 p1, .int .i64 p2, .int .i64 0, .int .u32 hi], .int .i64 0]) ∧ Below w.heap.size w w' := by
  go_enter Tryd.func30, Tryd.ntmps30
  go_wp2_with (first | (go_at_call 27; (with_reducible refine (refvalid_is _ _ _ _ _ 0 (by omega) h _).mono ?_); rintro e w1 ⟨rfl, hb⟩; obtain ⟨hc, hf⟩ := bcell hb; have hz : w.heap.size + 1 < w1.heap.size := by { have := hb.size; simp at this; omega }))
  obtain ⟨q0, q1, q2, q3, q4⟩ := five_cells (b := w.heap.size) (u0 := .int .i64 0) (u1 := .int .i64 0) (u2 := .int .i64 0) (u3 := .int .i64 0) (u4 := .int .u32 0) (.int .i64 1) (.int .i64 p1) (.int .i64 p2) (.int .i64 0) (.int .u32 hi) ((hc w.heap.size 0 (by simp; omega)).trans (by simp)) ((hc w.heap.size 1 (by simp; omega)).trans (by simp)) ((hc w.heap.size 2 (by simp; omega)).trans (by simp)) ((hc w.heap.size 3 (by simp; omega)).trans (by simp)) ((hc w.heap.size 4 (by simp; omega)).trans (by simp)) _ rfl
  refine bodyPost_ret (v := .tuple #[.agg #[.int .i64 1, .int .i64 p1, .int .i64 p2, .int .i64 0, .int .u32 hi], .int .i64 0]) (by simp [results, Tryd.results30, go_sem, q0, q1, q2, q3, q4]) rfl ⟨rfl, ?_⟩
  exact (((((((((Below.refl _ _).alloc (Nat.le_refl _) _).alloc (by simp) _).trans (hb.mono (by simp; omega))).setCell (by simp) _).setCell (by simp) _).setCell (by simp) _).setCell (by simp) _).setCell (by simp) _)
set_option maxRecDepth 100000 in
set_option maxHeartbeats 1000000 in
theorem refunpack_n_bad (lo hi p1 p2 : Int) (w : World) (g0 : 0 ≤ lo) (g1 : lo ≤ 4294967295) (g2 : 0 ≤ hi) (g3 : hi ≤ 4294967295) (e1 : bits BinOp.and IntKind.u32 (lo / 1048576) 255 = p1) (e2 : bits BinOp.and IntKind.u32 lo 1048575 = p2) (f2 : 0 ≤ p1) (f3 : p1 ≤ 255) (f4 : 0 ≤ p2) (f5 : p2 ≤ 1048575) (e0 : lo / 268435456 = 1) (c : Int) (hcc : (c == 0) = false) (hcn : (c != 0) = true) (h : Hid (codeOf 1 p1 p2 0 hi = c)) :
    Calls Tryd.prog 30 #[.int .u32 lo, .int .u32 hi] w fun e w' => e = .returned (.tuple #[.agg #[.int .i64 0, .int .i64 0, .int .i64 0, .int .i64 0, .int .u32 0], .int .i64 c]) ∧ Below w.heap.size w w' := by
  go_enter Tryd.func30, Tryd.ntmps30
  go_wp2_with (first | (go_at_call 27; (with_reducible refine (refvalid_is _ _ _ _ _ c (by omega) h _).mono ?_); rintro e w1 ⟨rfl, hb⟩; obtain ⟨hc, hf⟩ := bcell hb; have hz : w.heap.size + 1 < w1.heap.size := by { have := hb.size; simp at this; omega }))
  obtain ⟨q0, q1, q2, q3, q4⟩ := five_cells (b := w.heap.size) (u0 := .int .i64 0) (u1 := .int .i64 0) (u2 := .int .i64 0) (u3 := .int .i64 0) (u4 := .int .u32 0) (.int .i64 0) (.int .i64 0) (.int .i64 0) (.int .i64 0) (.int .u32 0) ((hc w.heap.size 0 (by simp; omega)).trans (by simp)) ((hc w.heap.size 1 (by simp; omega)).trans (by simp)) ((hc w.heap.size 2 (by simp; omega)).trans (by simp)) ((hc w.heap.size 3 (by simp; omega)).trans (by simp)) ((hc w.heap.size 4 (by simp; omega)).trans (by simp)) _ rfl
  refine bodyPost_ret (v := .tuple #[.agg #[.int .i64 0, .int .i64 0, .int .i64 0, .int .i64 0, .int .u32 0], .int .i64 c]) (by simp [results, Tryd.results30, go_sem, q0, q1, q2, q3, q4]) rfl ⟨rfl, ?_⟩
  exact (((((((((Below.refl _ _).alloc (Nat.le_refl _) _).alloc (by simp) _).trans (hb.mono (by simp; omega))).setCell (by simp) _).setCell (by simp) _).setCell (by simp) _).setCell (by simp) _).setCell (by simp) _)
end Go.Proofs.YtggnaalcdekccaaDoor
