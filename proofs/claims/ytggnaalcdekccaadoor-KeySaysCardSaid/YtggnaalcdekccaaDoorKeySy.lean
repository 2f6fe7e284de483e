/-
  key.Valid, Pack, Unpack of a key that may not be: which error.
-/
import Derived.Test.YtggnaalcdekccaaDoorKeyBk
namespace Go.Proofs.YtggnaalcdekccaaDoor
open Go.ChangeShapes Go.WideShapes Go.ChangeAt Go.RowKit
set_option linter.unusedVariables false
theorem kvalid_is (k0 k1 k2 k3 k4 : Int) (a b c : Addr) (hc : Hid ((if wB k0 14 = true then b else a) = c)) (h : Hid (rightB k0 k1 k2 k3 k4 = false)) (w : World) (hE : ErrsAt (errV a) (errV b) w) :
    Calls Tryd.prog 32 #[(Value.agg #[.int .i64 k0, .int .i64 k1, .int .i64 k2, .int .i64 k3, .int .u32 k4])] w fun e w' => e = .returned (errV c) ∧ Below w.heap.size w w' := by
  refine (kvalid_any k0 k1 k2 k3 k4 _ _ w hE).mono fun e w' ⟨he, hb⟩ => ⟨?_, hb⟩
  rw [he, ← hc.out]
  by_cases h0 : wB k0 14 = true
  · simp [kErr, h.out, h0]
  · simp [kErr, h.out, h0]
set_option maxRecDepth 100000 in
set_option maxHeartbeats 1000000 in
theorem kpack_err (k0 k1 k2 k3 k4 : Int) (a b c : Addr) (hc : Hid ((if wB k0 14 = true then b else a) = c)) (w : World) (hE : ErrsAt (errV a) (errV b) w) (h : Hid (rightB k0 k1 k2 k3 k4 = false)) :
    Calls Tryd.prog 28 #[(Value.agg #[.int .i64 k0, .int .i64 k1, .int .i64 k2, .int .i64 k3, .int .u32 k4])] w fun e w' => e = .returned (.tuple #[.int .u32 0, .int .u32 0, errV c]) ∧ Below w.heap.size w w' := by
  have HE := (ErrsAt.below hE ((Below.refl _ _).alloc (Nat.le_refl _) _ : Below w.heap.size w (w.alloc (.cells #[.int .i64 k0, .int .i64 k1, .int .i64 k2, .int .i64 k3, .int .u32 k4] 47))))
  go_enter Tryd.func28, Tryd.ntmps28
  go_wp2_with (first | (go_at_call 32; (with_reducible refine (kvalid_is _ _ _ _ _ a b c hc h _ HE).mono ?_); rintro e w1 ⟨rfl, hb⟩; have hk := keepk (k0 := k0) (k1 := k1) (k2 := k2) (k3 := k3) (k4 := k4) (b := w.heap.size) ⟨by simp, by simp, by simp, by simp, by simp, by simp⟩ hb))
  go_ret3
  exact ⟨rfl, ((Below.refl _ _).alloc (Nat.le_refl _) _).trans (hb.mono (by simp))⟩
set_option maxRecDepth 100000 in
set_option maxHeartbeats 1000000 in
theorem kunpack_a_err (lo hi p0 p1 p2 p3 p4 : Int) (a b : Addr) (w : World) (hE : ErrsAt (errV a) (errV b) w) (g0 : 0 ≤ lo) (g1 : lo ≤ 4294967295) (g2 : 0 ≤ hi) (g3 : hi ≤ 4294967295) (e1 : bits BinOp.and IntKind.u32 (lo / 1048576) 255 = p1) (e2 : bits BinOp.and IntKind.u32 lo 1048575 = p2) (f0 : 0 ≤ p0) (f1 : p0 ≤ 15) (f2 : 0 ≤ p1) (f3 : p1 ≤ 255) (f4 : 0 ≤ p2) (f5 : p2 ≤ 1048575) (e0 : lo / 268435456 = p0) (n0 : (p0 == 1) = false) (e3 : hi / 536870912 = p3) (e4 : bits BinOp.and IntKind.u32 hi 536870911 = p4) (f6 : 0 ≤ p3) (f7 : p3 ≤ 7) (c : Addr) (hcc : Hid ((if wB p0 14 = true then b else a) = c)) (h : Hid (rightB p0 p1 p2 p3 p4 = false)) :
    Calls Tryd.prog 29 #[.int .u32 lo, .int .u32 hi] w fun e w' => e = .returned (.tuple #[.agg #[.int .i64 0, .int .i64 0, .int .i64 0, .int .i64 0, .int .u32 0], errV c]) ∧ Below w.heap.size w w' := by
  have HE := ErrsAt.below hE (((Below.refl _ _).alloc (Nat.le_refl _) _).alloc (by simp) _ : Below w.heap.size w ((w.alloc (.cells #[.int .i64 0, .int .i64 0, .int .i64 0, .int .i64 0, .int .u32 0] 47)).alloc (.cells #[.int .i64 p0, .int .i64 p1, .int .i64 p2, .int .i64 p3, .int .u32 p4] 47)))
  go_enter Tryd.func29, Tryd.ntmps29
  go_wp2_with (first | (go_at_call 32; (with_reducible refine (kvalid_is _ _ _ _ _ a b c hcc h _ HE).mono ?_); rintro e w1 ⟨rfl, hb⟩; obtain ⟨hc, hf⟩ := bcell hb; have hz : w.heap.size + 1 < w1.heap.size := by { have := hb.size; simp at this; omega }))
  obtain ⟨q0, q1, q2, q3, q4⟩ := five_cells (b := w.heap.size) (u0 := .int .i64 0) (u1 := .int .i64 0) (u2 := .int .i64 0) (u3 := .int .i64 0) (u4 := .int .u32 0) (.int .i64 0) (.int .i64 0) (.int .i64 0) (.int .i64 0) (.int .u32 0) ((hc w.heap.size 0 (by simp; omega)).trans (by simp)) ((hc w.heap.size 1 (by simp; omega)).trans (by simp)) ((hc w.heap.size 2 (by simp; omega)).trans (by simp)) ((hc w.heap.size 3 (by simp; omega)).trans (by simp)) ((hc w.heap.size 4 (by simp; omega)).trans (by simp)) _ rfl
  refine bodyPost_ret (v := .tuple #[.agg #[.int .i64 0, .int .i64 0, .int .i64 0, .int .i64 0, .int .u32 0], errV c]) (by simp [results, Tryd.results29, go_sem, q0, q1, q2, q3, q4]) rfl ⟨rfl, ?_⟩
  exact (((((((((Below.refl _ _).alloc (Nat.le_refl _) _).alloc (by simp) _).trans (hb.mono (by simp; omega))).setCell (by simp) _).setCell (by simp) _).setCell (by simp) _).setCell (by simp) _).setCell (by simp) _)
set_option maxRecDepth 100000 in
set_option maxHeartbeats 1000000 in
theorem kunpack_n_err (lo hi p1 p2 : Int) (a b : Addr) (w : World) (hE : ErrsAt (errV a) (errV b) w) (g0 : 0 ≤ lo) (g1 : lo ≤ 4294967295) (g2 : 0 ≤ hi) (g3 : hi ≤ 4294967295) (e1 : bits BinOp.and IntKind.u32 (lo / 1048576) 255 = p1) (e2 : bits BinOp.and IntKind.u32 lo 1048575 = p2) (f2 : 0 ≤ p1) (f3 : p1 ≤ 255) (f4 : 0 ≤ p2) (f5 : p2 ≤ 1048575) (e0 : lo / 268435456 = 1) (c : Addr) (hcc : Hid ((if wB 1 14 = true then b else a) = c)) (h : Hid (rightB 1 p1 p2 0 hi = false)) :
    Calls Tryd.prog 29 #[.int .u32 lo, .int .u32 hi] w fun e w' => e = .returned (.tuple #[.agg #[.int .i64 0, .int .i64 0, .int .i64 0, .int .i64 0, .int .u32 0], errV c]) ∧ Below w.heap.size w w' := by
  have HE := ErrsAt.below hE (((Below.refl _ _).alloc (Nat.le_refl _) _).alloc (by simp) _ : Below w.heap.size w ((w.alloc (.cells #[.int .i64 0, .int .i64 0, .int .i64 0, .int .i64 0, .int .u32 0] 47)).alloc (.cells #[.int .i64 1, .int .i64 p1, .int .i64 p2, .int .i64 0, .int .u32 hi] 47)))
  go_enter Tryd.func29, Tryd.ntmps29
  go_wp2_with (first | (go_at_call 32; (with_reducible refine (kvalid_is _ _ _ _ _ a b c hcc h _ HE).mono ?_); rintro e w1 ⟨rfl, hb⟩; obtain ⟨hc, hf⟩ := bcell hb; have hz : w.heap.size + 1 < w1.heap.size := by { have := hb.size; simp at this; omega }))
  obtain ⟨q0, q1, q2, q3, q4⟩ := five_cells (b := w.heap.size) (u0 := .int .i64 0) (u1 := .int .i64 0) (u2 := .int .i64 0) (u3 := .int .i64 0) (u4 := .int .u32 0) (.int .i64 0) (.int .i64 0) (.int .i64 0) (.int .i64 0) (.int .u32 0) ((hc w.heap.size 0 (by simp; omega)).trans (by simp)) ((hc w.heap.size 1 (by simp; omega)).trans (by simp)) ((hc w.heap.size 2 (by simp; omega)).trans (by simp)) ((hc w.heap.size 3 (by simp; omega)).trans (by simp)) ((hc w.heap.size 4 (by simp; omega)).trans (by simp)) _ rfl
  refine bodyPost_ret (v := .tuple #[.agg #[.int .i64 0, .int .i64 0, .int .i64 0, .int .i64 0, .int .u32 0], errV c]) (by simp [results, Tryd.results29, go_sem, q0, q1, q2, q3, q4]) rfl ⟨rfl, ?_⟩
  exact (((((((((Below.refl _ _).alloc (Nat.le_refl _) _).alloc (by simp) _).trans (hb.mono (by simp; omega))).setCell (by simp) _).setCell (by simp) _).setCell (by simp) _).setCell (by simp) _).setCell (by simp) _)
theorem kunpack_err (lo hi p0 p1 p2 p3 p4 : Int) (a b : Addr) (w : World) (hE : ErrsAt (errV a) (errV b) w) (g0 : 0 ≤ lo) (g1 : lo ≤ 4294967295) (g2 : 0 ≤ hi) (g3 : hi ≤ 4294967295) (hp : Hid (Parts lo hi p0 p1 p2 p3 p4)) (c : Addr) (hcc : Hid ((if wB p0 14 = true then b else a) = c)) (h : Hid (rightB p0 p1 p2 p3 p4 = false)) :
    Calls Tryd.prog 29 #[.int .u32 lo, .int .u32 hi] w fun e w' => e = .returned (.tuple #[.agg #[.int .i64 0, .int .i64 0, .int .i64 0, .int .i64 0, .int .u32 0], errV c]) ∧ Below w.heap.size w w' := by
  obtain ⟨e0, e1, e2, ho⟩ := hp.out
  have m1 : bits BinOp.and IntKind.u32 (lo / 1048576) 255 = p1 := by rw [and_mod 8 _ 255 (by omega) (by omega) (by decide) (by decide)]; exact e1
  have m2 : bits BinOp.and IntKind.u32 lo 1048575 = p2 := by rw [and_mod 20 _ 1048575 (by omega) (by omega) (by decide) (by decide)]; exact e2
  rcases ho with ⟨rfl, rfl, rfl⟩ | ⟨n0, e3, e4⟩
  · exact kunpack_n_err lo _ p1 p2 a b w hE g0 g1 g2 g3 m1 m2 (by omega) (by omega) (by omega) (by omega) e0 c hcc h
  · have m3 : bits BinOp.and IntKind.u32 hi 536870911 = p4 := by rw [and_mod 29 _ 536870911 (by omega) (by omega) (by decide) (by decide)]; exact e4
    exact kunpack_a_err lo hi p0 p1 p2 p3 p4 a b w hE g0 g1 g2 g3 m1 m2 (by omega) (by omega) (by omega) (by omega) (by omega) (by omega) e0 (by simpa using n0) e3 m3 (by omega) (by omega) c hcc h
end Go.Proofs.YtggnaalcdekccaaDoor
