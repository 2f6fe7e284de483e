/-
  Gk, Gd, Ge, Gf, Gh, Gi, Gj, Gx, Gl, Gm, Go, Gp, Gr, Gs, Gn, Gq: what GateCalls reaches of them.
-/
import Derived.Test.YtllcakiomihipaaGreatDoorQC3
namespace Go.Proofs.YtllcakiomihipaaGreatDoor
open Go.ChangeShapes Go.WideShapes Go.ChangeAt Go.RowKit
set_option linter.unusedVariables false
theorem keyInfo : (Tryz.prog.info? 31).map (·.size) = some 5 := by kernel_rfl
theorem cells15 {w1 : World} {b : Nat} {v0 v1 v2 v3 v4 v5 v6 v7 v8 v9 v10 v11 v12 v13 v14 : Value} {t : TypeId} (h : w1.heap[b]? = some (.cells #[v0, v1, v2, v3, v4, v5, v6, v7, v8, v9, v10, v11, v12, v13, v14] t (0, 0))) :
    b < w1.heap.size ∧ w1.cell? ⟨b, 0, none⟩ = some v0 ∧ w1.cell? ⟨b, 1, none⟩ = some v1 ∧ w1.cell? ⟨b, 2, none⟩ = some v2 ∧ w1.cell? ⟨b, 3, none⟩ = some v3 ∧ w1.cell? ⟨b, 4, none⟩ = some v4 ∧ w1.cell? ⟨b, 5, none⟩ = some v5 ∧ w1.cell? ⟨b, 6, none⟩ = some v6 ∧ w1.cell? ⟨b, 7, none⟩ = some v7 ∧ w1.cell? ⟨b, 8, none⟩ = some v8 ∧ w1.cell? ⟨b, 9, none⟩ = some v9 ∧ w1.cell? ⟨b, 10, none⟩ = some v10 ∧ w1.cell? ⟨b, 11, none⟩ = some v11 ∧ w1.cell? ⟨b, 12, none⟩ = some v12 ∧ w1.cell? ⟨b, 13, none⟩ = some v13 ∧ w1.cell? ⟨b, 14, none⟩ = some v14 := by
  have hlt : b < w1.heap.size := (Array.getElem?_eq_some_iff.1 h).1
  refine ⟨hlt, ?_⟩
  simp [World.cell?, h]
theorem set15 {w1 : World} {b : Nat} {t : TypeId} {cur : Array Value} (hs : cur.size = 15) (v0 v1 v2 v3 v4 v5 v6 v7 v8 v9 v10 v11 v12 v13 v14 : Value) (h : w1.heap[b]? = some (.cells cur t (0, 0))) :
    (((((((((((((((w1.setCell ⟨b, 0, none⟩ v0).setCell ⟨b, 1, none⟩ v1).setCell ⟨b, 2, none⟩ v2).setCell ⟨b, 3, none⟩ v3).setCell ⟨b, 4, none⟩ v4).setCell ⟨b, 5, none⟩ v5).setCell ⟨b, 6, none⟩ v6).setCell ⟨b, 7, none⟩ v7).setCell ⟨b, 8, none⟩ v8).setCell ⟨b, 9, none⟩ v9).setCell ⟨b, 10, none⟩ v10).setCell ⟨b, 11, none⟩ v11).setCell ⟨b, 12, none⟩ v12).setCell ⟨b, 13, none⟩ v13).setCell ⟨b, 14, none⟩ v14).cell? ⟨b, 0, none⟩ = some v0 ∧ (((((((((((((((w1.setCell ⟨b, 0, none⟩ v0).setCell ⟨b, 1, none⟩ v1).setCell ⟨b, 2, none⟩ v2).setCell ⟨b, 3, none⟩ v3).setCell ⟨b, 4, none⟩ v4).setCell ⟨b, 5, none⟩ v5).setCell ⟨b, 6, none⟩ v6).setCell ⟨b, 7, none⟩ v7).setCell ⟨b, 8, none⟩ v8).setCell ⟨b, 9, none⟩ v9).setCell ⟨b, 10, none⟩ v10).setCell ⟨b, 11, none⟩ v11).setCell ⟨b, 12, none⟩ v12).setCell ⟨b, 13, none⟩ v13).setCell ⟨b, 14, none⟩ v14).cell? ⟨b, 1, none⟩ = some v1 ∧ (((((((((((((((w1.setCell ⟨b, 0, none⟩ v0).setCell ⟨b, 1, none⟩ v1).setCell ⟨b, 2, none⟩ v2).setCell ⟨b, 3, none⟩ v3).setCell ⟨b, 4, none⟩ v4).setCell ⟨b, 5, none⟩ v5).setCell ⟨b, 6, none⟩ v6).setCell ⟨b, 7, none⟩ v7).setCell ⟨b, 8, none⟩ v8).setCell ⟨b, 9, none⟩ v9).setCell ⟨b, 10, none⟩ v10).setCell ⟨b, 11, none⟩ v11).setCell ⟨b, 12, none⟩ v12).setCell ⟨b, 13, none⟩ v13).setCell ⟨b, 14, none⟩ v14).cell? ⟨b, 2, none⟩ = some v2 ∧ (((((((((((((((w1.setCell ⟨b, 0, none⟩ v0).setCell ⟨b, 1, none⟩ v1).setCell ⟨b, 2, none⟩ v2).setCell ⟨b, 3, none⟩ v3).setCell ⟨b, 4, none⟩ v4).setCell ⟨b, 5, none⟩ v5).setCell ⟨b, 6, none⟩ v6).setCell ⟨b, 7, none⟩ v7).setCell ⟨b, 8, none⟩ v8).setCell ⟨b, 9, none⟩ v9).setCell ⟨b, 10, none⟩ v10).setCell ⟨b, 11, none⟩ v11).setCell ⟨b, 12, none⟩ v12).setCell ⟨b, 13, none⟩ v13).setCell ⟨b, 14, none⟩ v14).cell? ⟨b, 3, none⟩ = some v3 ∧ (((((((((((((((w1.setCell ⟨b, 0, none⟩ v0).setCell ⟨b, 1, none⟩ v1).setCell ⟨b, 2, none⟩ v2).setCell ⟨b, 3, none⟩ v3).setCell ⟨b, 4, none⟩ v4).setCell ⟨b, 5, none⟩ v5).setCell ⟨b, 6, none⟩ v6).setCell ⟨b, 7, none⟩ v7).setCell ⟨b, 8, none⟩ v8).setCell ⟨b, 9, none⟩ v9).setCell ⟨b, 10, none⟩ v10).setCell ⟨b, 11, none⟩ v11).setCell ⟨b, 12, none⟩ v12).setCell ⟨b, 13, none⟩ v13).setCell ⟨b, 14, none⟩ v14).cell? ⟨b, 4, none⟩ = some v4 ∧ (((((((((((((((w1.setCell ⟨b, 0, none⟩ v0).setCell ⟨b, 1, none⟩ v1).setCell ⟨b, 2, none⟩ v2).setCell ⟨b, 3, none⟩ v3).setCell ⟨b, 4, none⟩ v4).setCell ⟨b, 5, none⟩ v5).setCell ⟨b, 6, none⟩ v6).setCell ⟨b, 7, none⟩ v7).setCell ⟨b, 8, none⟩ v8).setCell ⟨b, 9, none⟩ v9).setCell ⟨b, 10, none⟩ v10).setCell ⟨b, 11, none⟩ v11).setCell ⟨b, 12, none⟩ v12).setCell ⟨b, 13, none⟩ v13).setCell ⟨b, 14, none⟩ v14).cell? ⟨b, 5, none⟩ = some v5 ∧ (((((((((((((((w1.setCell ⟨b, 0, none⟩ v0).setCell ⟨b, 1, none⟩ v1).setCell ⟨b, 2, none⟩ v2).setCell ⟨b, 3, none⟩ v3).setCell ⟨b, 4, none⟩ v4).setCell ⟨b, 5, none⟩ v5).setCell ⟨b, 6, none⟩ v6).setCell ⟨b, 7, none⟩ v7).setCell ⟨b, 8, none⟩ v8).setCell ⟨b, 9, none⟩ v9).setCell ⟨b, 10, none⟩ v10).setCell ⟨b, 11, none⟩ v11).setCell ⟨b, 12, none⟩ v12).setCell ⟨b, 13, none⟩ v13).setCell ⟨b, 14, none⟩ v14).cell? ⟨b, 6, none⟩ = some v6 ∧ (((((((((((((((w1.setCell ⟨b, 0, none⟩ v0).setCell ⟨b, 1, none⟩ v1).setCell ⟨b, 2, none⟩ v2).setCell ⟨b, 3, none⟩ v3).setCell ⟨b, 4, none⟩ v4).setCell ⟨b, 5, none⟩ v5).setCell ⟨b, 6, none⟩ v6).setCell ⟨b, 7, none⟩ v7).setCell ⟨b, 8, none⟩ v8).setCell ⟨b, 9, none⟩ v9).setCell ⟨b, 10, none⟩ v10).setCell ⟨b, 11, none⟩ v11).setCell ⟨b, 12, none⟩ v12).setCell ⟨b, 13, none⟩ v13).setCell ⟨b, 14, none⟩ v14).cell? ⟨b, 7, none⟩ = some v7 ∧ (((((((((((((((w1.setCell ⟨b, 0, none⟩ v0).setCell ⟨b, 1, none⟩ v1).setCell ⟨b, 2, none⟩ v2).setCell ⟨b, 3, none⟩ v3).setCell ⟨b, 4, none⟩ v4).setCell ⟨b, 5, none⟩ v5).setCell ⟨b, 6, none⟩ v6).setCell ⟨b, 7, none⟩ v7).setCell ⟨b, 8, none⟩ v8).setCell ⟨b, 9, none⟩ v9).setCell ⟨b, 10, none⟩ v10).setCell ⟨b, 11, none⟩ v11).setCell ⟨b, 12, none⟩ v12).setCell ⟨b, 13, none⟩ v13).setCell ⟨b, 14, none⟩ v14).cell? ⟨b, 8, none⟩ = some v8 ∧ (((((((((((((((w1.setCell ⟨b, 0, none⟩ v0).setCell ⟨b, 1, none⟩ v1).setCell ⟨b, 2, none⟩ v2).setCell ⟨b, 3, none⟩ v3).setCell ⟨b, 4, none⟩ v4).setCell ⟨b, 5, none⟩ v5).setCell ⟨b, 6, none⟩ v6).setCell ⟨b, 7, none⟩ v7).setCell ⟨b, 8, none⟩ v8).setCell ⟨b, 9, none⟩ v9).setCell ⟨b, 10, none⟩ v10).setCell ⟨b, 11, none⟩ v11).setCell ⟨b, 12, none⟩ v12).setCell ⟨b, 13, none⟩ v13).setCell ⟨b, 14, none⟩ v14).cell? ⟨b, 9, none⟩ = some v9 ∧ (((((((((((((((w1.setCell ⟨b, 0, none⟩ v0).setCell ⟨b, 1, none⟩ v1).setCell ⟨b, 2, none⟩ v2).setCell ⟨b, 3, none⟩ v3).setCell ⟨b, 4, none⟩ v4).setCell ⟨b, 5, none⟩ v5).setCell ⟨b, 6, none⟩ v6).setCell ⟨b, 7, none⟩ v7).setCell ⟨b, 8, none⟩ v8).setCell ⟨b, 9, none⟩ v9).setCell ⟨b, 10, none⟩ v10).setCell ⟨b, 11, none⟩ v11).setCell ⟨b, 12, none⟩ v12).setCell ⟨b, 13, none⟩ v13).setCell ⟨b, 14, none⟩ v14).cell? ⟨b, 10, none⟩ = some v10 ∧ (((((((((((((((w1.setCell ⟨b, 0, none⟩ v0).setCell ⟨b, 1, none⟩ v1).setCell ⟨b, 2, none⟩ v2).setCell ⟨b, 3, none⟩ v3).setCell ⟨b, 4, none⟩ v4).setCell ⟨b, 5, none⟩ v5).setCell ⟨b, 6, none⟩ v6).setCell ⟨b, 7, none⟩ v7).setCell ⟨b, 8, none⟩ v8).setCell ⟨b, 9, none⟩ v9).setCell ⟨b, 10, none⟩ v10).setCell ⟨b, 11, none⟩ v11).setCell ⟨b, 12, none⟩ v12).setCell ⟨b, 13, none⟩ v13).setCell ⟨b, 14, none⟩ v14).cell? ⟨b, 11, none⟩ = some v11 ∧ (((((((((((((((w1.setCell ⟨b, 0, none⟩ v0).setCell ⟨b, 1, none⟩ v1).setCell ⟨b, 2, none⟩ v2).setCell ⟨b, 3, none⟩ v3).setCell ⟨b, 4, none⟩ v4).setCell ⟨b, 5, none⟩ v5).setCell ⟨b, 6, none⟩ v6).setCell ⟨b, 7, none⟩ v7).setCell ⟨b, 8, none⟩ v8).setCell ⟨b, 9, none⟩ v9).setCell ⟨b, 10, none⟩ v10).setCell ⟨b, 11, none⟩ v11).setCell ⟨b, 12, none⟩ v12).setCell ⟨b, 13, none⟩ v13).setCell ⟨b, 14, none⟩ v14).cell? ⟨b, 12, none⟩ = some v12 ∧ (((((((((((((((w1.setCell ⟨b, 0, none⟩ v0).setCell ⟨b, 1, none⟩ v1).setCell ⟨b, 2, none⟩ v2).setCell ⟨b, 3, none⟩ v3).setCell ⟨b, 4, none⟩ v4).setCell ⟨b, 5, none⟩ v5).setCell ⟨b, 6, none⟩ v6).setCell ⟨b, 7, none⟩ v7).setCell ⟨b, 8, none⟩ v8).setCell ⟨b, 9, none⟩ v9).setCell ⟨b, 10, none⟩ v10).setCell ⟨b, 11, none⟩ v11).setCell ⟨b, 12, none⟩ v12).setCell ⟨b, 13, none⟩ v13).setCell ⟨b, 14, none⟩ v14).cell? ⟨b, 13, none⟩ = some v13 ∧ (((((((((((((((w1.setCell ⟨b, 0, none⟩ v0).setCell ⟨b, 1, none⟩ v1).setCell ⟨b, 2, none⟩ v2).setCell ⟨b, 3, none⟩ v3).setCell ⟨b, 4, none⟩ v4).setCell ⟨b, 5, none⟩ v5).setCell ⟨b, 6, none⟩ v6).setCell ⟨b, 7, none⟩ v7).setCell ⟨b, 8, none⟩ v8).setCell ⟨b, 9, none⟩ v9).setCell ⟨b, 10, none⟩ v10).setCell ⟨b, 11, none⟩ v11).setCell ⟨b, 12, none⟩ v12).setCell ⟨b, 13, none⟩ v13).setCell ⟨b, 14, none⟩ v14).cell? ⟨b, 14, none⟩ = some v14 := by
  have all : ∀ (j : Nat) (hj : j < 15), (w1.setCells b 0 [v0, v1, v2, v3, v4, v5, v6, v7, v8, v9, v10, v11, v12, v13, v14]).cell? ⟨b, 0 + j, none⟩ = some ([v0, v1, v2, v3, v4, v5, v6, v7, v8, v9, v10, v11, v12, v13, v14][j]'hj) := fun j hj => World.cell?_setCells_in b [v0, v1, v2, v3, v4, v5, v6, v7, v8, v9, v10, v11, v12, v13, v14] 0 w1 (by intro i hi; simp [World.cell?, h]; simp at hi; omega) j (by simpa using hj)
  exact ⟨all 0 (by decide), all 1 (by decide), all 2 (by decide), all 3 (by decide), all 4 (by decide), all 5 (by decide), all 6 (by decide), all 7 (by decide), all 8 (by decide), all 9 (by decide), all 10 (by decide), all 11 (by decide), all 12 (by decide), all 13 (by decide), all 14 (by decide)⟩
theorem rowcopy_0 (a : Option Addr) (len cap : Nat) (w : World) (hmin : Nat.min len 3 = 0) :
    ∃ W1, (Builtin.copy_ #[138, 138] 3 #[.slice (some ⟨w.heap.size + 1, 0, none⟩) 3 3, .slice (a) len cap]).run Tryz.prog ((w.alloc (.cells #[.int .i64 0, .int .i64 0, .int .i64 0, .int .i64 0, .int .u32 0, .int .i64 0, .int .i64 0, .int .i64 0, .int .i64 0, .int .u32 0, .int .i64 0, .int .i64 0, .int .i64 0, .int .i64 0, .int .u32 0] 50)).alloc (.cells #[.int .i64 0, .int .i64 0, .int .i64 0, .int .i64 0, .int .u32 0, .int .i64 0, .int .i64 0, .int .i64 0, .int .i64 0, .int .u32 0, .int .i64 0, .int .i64 0, .int .i64 0, .int .i64 0, .int .u32 0] 50)) = .ok (.int .i64 0) W1 ∧ W1.heap[w.heap.size + 1]? = some (.cells #[.int .i64 0, .int .i64 0, .int .i64 0, .int .i64 0, .int .u32 0, .int .i64 0, .int .i64 0, .int .i64 0, .int .i64 0, .int .u32 0, .int .i64 0, .int .i64 0, .int .i64 0, .int .i64 0, .int .u32 0] 50 (0, 0)) ∧ W1.heap[w.heap.size]? = some (.cells #[.int .i64 0, .int .i64 0, .int .i64 0, .int .i64 0, .int .u32 0, .int .i64 0, .int .i64 0, .int .i64 0, .int .i64 0, .int .u32 0, .int .i64 0, .int .i64 0, .int .i64 0, .int .i64 0, .int .u32 0] 50 (0, 0)) ∧ Below w.heap.size w W1 := by
  have hg : ((w.alloc (.cells #[.int .i64 0, .int .i64 0, .int .i64 0, .int .i64 0, .int .u32 0, .int .i64 0, .int .i64 0, .int .i64 0, .int .i64 0, .int .u32 0, .int .i64 0, .int .i64 0, .int .i64 0, .int .i64 0, .int .u32 0] 50)).alloc (.cells #[.int .i64 0, .int .i64 0, .int .i64 0, .int .i64 0, .int .u32 0, .int .i64 0, .int .i64 0, .int .i64 0, .int .i64 0, .int .u32 0, .int .i64 0, .int .i64 0, .int .i64 0, .int .i64 0, .int .u32 0] 50)).heap[w.heap.size + 1]? = some (.cells #[.int .i64 0, .int .i64 0, .int .i64 0, .int .i64 0, .int .u32 0, .int .i64 0, .int .i64 0, .int .i64 0, .int .i64 0, .int .u32 0, .int .i64 0, .int .i64 0, .int .i64 0, .int .i64 0, .int .u32 0] 50 (0, 0)) := by have := heap_alloc_new (w.alloc (.cells #[.int .i64 0, .int .i64 0, .int .i64 0, .int .i64 0, .int .u32 0, .int .i64 0, .int .i64 0, .int .i64 0, .int .i64 0, .int .u32 0, .int .i64 0, .int .i64 0, .int .i64 0, .int .i64 0, .int .u32 0] 50)) (.cells #[.int .i64 0, .int .i64 0, .int .i64 0, .int .i64 0, .int .u32 0, .int .i64 0, .int .i64 0, .int .i64 0, .int .i64 0, .int .u32 0, .int .i64 0, .int .i64 0, .int .i64 0, .int .i64 0, .int .u32 0] 50); simpa using this
  have hg0 : ((w.alloc (.cells #[.int .i64 0, .int .i64 0, .int .i64 0, .int .i64 0, .int .u32 0, .int .i64 0, .int .i64 0, .int .i64 0, .int .i64 0, .int .u32 0, .int .i64 0, .int .i64 0, .int .i64 0, .int .i64 0, .int .u32 0] 50)).alloc (.cells #[.int .i64 0, .int .i64 0, .int .i64 0, .int .i64 0, .int .u32 0, .int .i64 0, .int .i64 0, .int .i64 0, .int .i64 0, .int .u32 0, .int .i64 0, .int .i64 0, .int .i64 0, .int .i64 0, .int .u32 0] 50)).heap[w.heap.size]? = some (.cells #[.int .i64 0, .int .i64 0, .int .i64 0, .int .i64 0, .int .u32 0, .int .i64 0, .int .i64 0, .int .i64 0, .int .i64 0, .int .u32 0, .int .i64 0, .int .i64 0, .int .i64 0, .int .i64 0, .int .u32 0] 50 (0, 0)) := (Below.heap_alloc _ _ _ (by simp)).trans (heap_alloc_new _ _)
  exact ⟨_, run_copy_wide_none ((w.alloc (.cells #[.int .i64 0, .int .i64 0, .int .i64 0, .int .i64 0, .int .u32 0, .int .i64 0, .int .i64 0, .int .i64 0, .int .i64 0, .int .u32 0, .int .i64 0, .int .i64 0, .int .i64 0, .int .i64 0, .int .u32 0] 50)).alloc (.cells #[.int .i64 0, .int .i64 0, .int .i64 0, .int .i64 0, .int .u32 0, .int .i64 0, .int .i64 0, .int .i64 0, .int .i64 0, .int .u32 0, .int .i64 0, .int .i64 0, .int .i64 0, .int .i64 0, .int .u32 0] 50)) 138 138 3 31 5 _ _ 3 3 len cap Tryz.underlying138 keyInfo hmin, hg, hg0, ((Below.refl _ _).alloc (Nat.le_refl _) _).alloc (by simp) _⟩
set_option maxRecDepth 100000 in
set_option maxHeartbeats 1000000 in
theorem krow_0 (a : Option Addr) (len cap : Nat) (w : World) (hmin : Nat.min len 3 = 0) :
    Calls Tryz.prog 103 #[.slice (a) len cap] w fun e w' => e = .returned (.agg #[.int .i64 0, .int .i64 0, .int .i64 0, .int .i64 0, .int .u32 0, .int .i64 0, .int .i64 0, .int .i64 0, .int .i64 0, .int .u32 0, .int .i64 0, .int .i64 0, .int .i64 0, .int .i64 0, .int .u32 0]) ∧ Below w.heap.size w w' := by
  obtain ⟨W1, hrun, h1, h0, hb⟩ := rowcopy_0 a len cap  w hmin 
  have HM := Lib.hid hmin
  have H0 := Lib.hid h0
  have q1 := cells15 h1
  have q0 := cells15 h0
  have f0 : ∀ j, W1.frozen? ⟨w.heap.size, j, none⟩ = false := by intro j; simp [World.frozen?, h0]
  clear hmin h0 h1
  go_enter Tryz.func103, Tryz.ntmps103
  go_wp2
  clear q0 q1 f0 hrun
  have Q := set15 (by rfl) (.int .i64 0) (.int .i64 0) (.int .i64 0) (.int .i64 0) (.int .u32 0) (.int .i64 0) (.int .i64 0) (.int .i64 0) (.int .i64 0) (.int .u32 0) (.int .i64 0) (.int .i64 0) (.int .i64 0) (.int .i64 0) (.int .u32 0) H0.out
  obtain ⟨r0, r1, r2, r3, r4, r5, r6, r7, r8, r9, r10, r11, r12, r13, r14⟩ := Q
  clear H0
  refine bodyPost_ret (v := .agg #[.int .i64 0, .int .i64 0, .int .i64 0, .int .i64 0, .int .u32 0, .int .i64 0, .int .i64 0, .int .i64 0, .int .i64 0, .int .u32 0, .int .i64 0, .int .i64 0, .int .i64 0, .int .i64 0, .int .u32 0]) (by simp [results, Tryz.results103, go_sem, r0, r1, r2, r3, r4, r5, r6, r7, r8, r9, r10, r11, r12, r13, r14]) rfl ⟨rfl, ?_⟩
  exact (((((((((((((((hb.setCell (Nat.le_refl _) _).setCell (Nat.le_refl _) _).setCell (Nat.le_refl _) _).setCell (Nat.le_refl _) _).setCell (Nat.le_refl _) _).setCell (Nat.le_refl _) _).setCell (Nat.le_refl _) _).setCell (Nat.le_refl _) _).setCell (Nat.le_refl _) _).setCell (Nat.le_refl _) _).setCell (Nat.le_refl _) _).setCell (Nat.le_refl _) _).setCell (Nat.le_refl _) _).setCell (Nat.le_refl _) _).setCell (Nat.le_refl _) _)
theorem rowcopy_1 (x : Addr) (len cap : Nat) (x00 x01 x02 x03 x04 : Int) (w : World) (hmin : Nat.min len 3 = 1) (c00 : w.cell? (x.add (0)) = some (.int .i64 x00)) (c01 : w.cell? (x.add (1)) = some (.int .i64 x01)) (c02 : w.cell? (x.add (2)) = some (.int .i64 x02)) (c03 : w.cell? (x.add (3)) = some (.int .i64 x03)) (c04 : w.cell? (x.add (4)) = some (.int .u32 x04)) :
    ∃ W1, (Builtin.copy_ #[138, 138] 3 #[.slice (some ⟨w.heap.size + 1, 0, none⟩) 3 3, .slice (some x) len cap]).run Tryz.prog ((w.alloc (.cells #[.int .i64 0, .int .i64 0, .int .i64 0, .int .i64 0, .int .u32 0, .int .i64 0, .int .i64 0, .int .i64 0, .int .i64 0, .int .u32 0, .int .i64 0, .int .i64 0, .int .i64 0, .int .i64 0, .int .u32 0] 50)).alloc (.cells #[.int .i64 0, .int .i64 0, .int .i64 0, .int .i64 0, .int .u32 0, .int .i64 0, .int .i64 0, .int .i64 0, .int .i64 0, .int .u32 0, .int .i64 0, .int .i64 0, .int .i64 0, .int .i64 0, .int .u32 0] 50)) = .ok (.int .i64 1) W1 ∧ W1.heap[w.heap.size + 1]? = some (.cells #[.int .i64 x00, .int .i64 x01, .int .i64 x02, .int .i64 x03, .int .u32 x04, .int .i64 0, .int .i64 0, .int .i64 0, .int .i64 0, .int .u32 0, .int .i64 0, .int .i64 0, .int .i64 0, .int .i64 0, .int .u32 0] 50 (0, 0)) ∧ W1.heap[w.heap.size]? = some (.cells #[.int .i64 0, .int .i64 0, .int .i64 0, .int .i64 0, .int .u32 0, .int .i64 0, .int .i64 0, .int .i64 0, .int .i64 0, .int .u32 0, .int .i64 0, .int .i64 0, .int .i64 0, .int .i64 0, .int .u32 0] 50 (0, 0)) ∧ Below w.heap.size w W1 := by
  have hg : ((w.alloc (.cells #[.int .i64 0, .int .i64 0, .int .i64 0, .int .i64 0, .int .u32 0, .int .i64 0, .int .i64 0, .int .i64 0, .int .i64 0, .int .u32 0, .int .i64 0, .int .i64 0, .int .i64 0, .int .i64 0, .int .u32 0] 50)).alloc (.cells #[.int .i64 0, .int .i64 0, .int .i64 0, .int .i64 0, .int .u32 0, .int .i64 0, .int .i64 0, .int .i64 0, .int .i64 0, .int .u32 0, .int .i64 0, .int .i64 0, .int .i64 0, .int .i64 0, .int .u32 0] 50)).heap[w.heap.size + 1]? = some (.cells #[.int .i64 0, .int .i64 0, .int .i64 0, .int .i64 0, .int .u32 0, .int .i64 0, .int .i64 0, .int .i64 0, .int .i64 0, .int .u32 0, .int .i64 0, .int .i64 0, .int .i64 0, .int .i64 0, .int .u32 0] 50 (0, 0)) := by have := heap_alloc_new (w.alloc (.cells #[.int .i64 0, .int .i64 0, .int .i64 0, .int .i64 0, .int .u32 0, .int .i64 0, .int .i64 0, .int .i64 0, .int .i64 0, .int .u32 0, .int .i64 0, .int .i64 0, .int .i64 0, .int .i64 0, .int .u32 0] 50)) (.cells #[.int .i64 0, .int .i64 0, .int .i64 0, .int .i64 0, .int .u32 0, .int .i64 0, .int .i64 0, .int .i64 0, .int .i64 0, .int .u32 0, .int .i64 0, .int .i64 0, .int .i64 0, .int .i64 0, .int .u32 0] 50); simpa using this
  have hg0 : ((w.alloc (.cells #[.int .i64 0, .int .i64 0, .int .i64 0, .int .i64 0, .int .u32 0, .int .i64 0, .int .i64 0, .int .i64 0, .int .i64 0, .int .u32 0, .int .i64 0, .int .i64 0, .int .i64 0, .int .i64 0, .int .u32 0] 50)).alloc (.cells #[.int .i64 0, .int .i64 0, .int .i64 0, .int .i64 0, .int .u32 0, .int .i64 0, .int .i64 0, .int .i64 0, .int .i64 0, .int .u32 0, .int .i64 0, .int .i64 0, .int .i64 0, .int .i64 0, .int .u32 0] 50)).heap[w.heap.size]? = some (.cells #[.int .i64 0, .int .i64 0, .int .i64 0, .int .i64 0, .int .u32 0, .int .i64 0, .int .i64 0, .int .i64 0, .int .i64 0, .int .u32 0, .int .i64 0, .int .i64 0, .int .i64 0, .int .i64 0, .int .u32 0] 50 (0, 0)) := (Below.heap_alloc _ _ _ (by simp)).trans (heap_alloc_new _ _)
  have hsrc : ∀ j v, ([.int .i64 x00, .int .i64 x01, .int .i64 x02, .int .i64 x03, .int .u32 x04] : List Value)[j]? = some v → ((w.alloc (.cells #[.int .i64 0, .int .i64 0, .int .i64 0, .int .i64 0, .int .u32 0, .int .i64 0, .int .i64 0, .int .i64 0, .int .i64 0, .int .u32 0, .int .i64 0, .int .i64 0, .int .i64 0, .int .i64 0, .int .u32 0] 50)).alloc (.cells #[.int .i64 0, .int .i64 0, .int .i64 0, .int .i64 0, .int .u32 0, .int .i64 0, .int .i64 0, .int .i64 0, .int .i64 0, .int .u32 0, .int .i64 0, .int .i64 0, .int .i64 0, .int .i64 0, .int .u32 0] 50)).cell? (x.add j) = some v := by
    intro j v hj
    match j, hj with
    | 0, hj => (simp at hj; subst hj; exact (cell?_alloc_old _ (cell?_alloc_old _ c00)))
    | 1, hj => (simp at hj; subst hj; exact (cell?_alloc_old _ (cell?_alloc_old _ c01)))
    | 2, hj => (simp at hj; subst hj; exact (cell?_alloc_old _ (cell?_alloc_old _ c02)))
    | 3, hj => (simp at hj; subst hj; exact (cell?_alloc_old _ (cell?_alloc_old _ c03)))
    | 4, hj => (simp at hj; subst hj; exact (cell?_alloc_old _ (cell?_alloc_old _ c04)))
    | (j + 5), hj => simp at hj
  have hr := run_copy_wide (P := Tryz.prog) ((w.alloc (.cells #[.int .i64 0, .int .i64 0, .int .i64 0, .int .i64 0, .int .u32 0, .int .i64 0, .int .i64 0, .int .i64 0, .int .i64 0, .int .u32 0, .int .i64 0, .int .i64 0, .int .i64 0, .int .i64 0, .int .u32 0] 50)).alloc (.cells #[.int .i64 0, .int .i64 0, .int .i64 0, .int .i64 0, .int .u32 0, .int .i64 0, .int .i64 0, .int .i64 0, .int .i64 0, .int .u32 0, .int .i64 0, .int .i64 0, .int .i64 0, .int .i64 0, .int .u32 0] 50)) 138 138 3 31 5 (w.heap.size + 1) 0 3 3 x len cap _ 50 [.int .i64 x00, .int .i64 x01, .int .i64 x02, .int .i64 x03, .int .u32 x04] Tryz.underlying138 keyInfo hg (by rw [hmin]; rfl) hsrc (by simp) (by simp [Value.oneCell'])
  rw [hmin] at hr
  refine ⟨_, hr, ?_, ?_, below_setRow (((Below.refl _ _).alloc (Nat.le_refl _) _).alloc (by simp) _) (by omega) _⟩
  · rw [setRow_heap _ _ _ _ _ _ hg]
    simp
  · rw [setRow_other _ _ _ _ (by omega)]
    exact hg0
set_option maxRecDepth 100000 in
set_option maxHeartbeats 1000000 in
theorem krow_1 (x : Addr) (len cap : Nat) (x00 x01 x02 x03 x04 : Int) (w : World) (hmin : Nat.min len 3 = 1) (c00 : w.cell? (x.add (0)) = some (.int .i64 x00)) (c01 : w.cell? (x.add (1)) = some (.int .i64 x01)) (c02 : w.cell? (x.add (2)) = some (.int .i64 x02)) (c03 : w.cell? (x.add (3)) = some (.int .i64 x03)) (c04 : w.cell? (x.add (4)) = some (.int .u32 x04)) :
    Calls Tryz.prog 103 #[.slice (some x) len cap] w fun e w' => e = .returned (.agg #[.int .i64 x00, .int .i64 x01, .int .i64 x02, .int .i64 x03, .int .u32 x04, .int .i64 0, .int .i64 0, .int .i64 0, .int .i64 0, .int .u32 0, .int .i64 0, .int .i64 0, .int .i64 0, .int .i64 0, .int .u32 0]) ∧ Below w.heap.size w w' := by
  obtain ⟨W1, hrun, h1, h0, hb⟩ := rowcopy_1 x len cap x00 x01 x02 x03 x04 w hmin c00 c01 c02 c03 c04
  clear c00 c01 c02 c03 c04
  have HM := Lib.hid hmin
  have H0 := Lib.hid h0
  have q1 := cells15 h1
  have q0 := cells15 h0
  have f0 : ∀ j, W1.frozen? ⟨w.heap.size, j, none⟩ = false := by intro j; simp [World.frozen?, h0]
  clear hmin h0 h1
  go_enter Tryz.func103, Tryz.ntmps103
  go_wp2
  clear q0 q1 f0 hrun
  have Q := set15 (by rfl) (.int .i64 x00) (.int .i64 x01) (.int .i64 x02) (.int .i64 x03) (.int .u32 x04) (.int .i64 0) (.int .i64 0) (.int .i64 0) (.int .i64 0) (.int .u32 0) (.int .i64 0) (.int .i64 0) (.int .i64 0) (.int .i64 0) (.int .u32 0) H0.out
  obtain ⟨r0, r1, r2, r3, r4, r5, r6, r7, r8, r9, r10, r11, r12, r13, r14⟩ := Q
  clear H0
  refine bodyPost_ret (v := .agg #[.int .i64 x00, .int .i64 x01, .int .i64 x02, .int .i64 x03, .int .u32 x04, .int .i64 0, .int .i64 0, .int .i64 0, .int .i64 0, .int .u32 0, .int .i64 0, .int .i64 0, .int .i64 0, .int .i64 0, .int .u32 0]) (by simp [results, Tryz.results103, go_sem, r0, r1, r2, r3, r4, r5, r6, r7, r8, r9, r10, r11, r12, r13, r14]) rfl ⟨rfl, ?_⟩
  exact (((((((((((((((hb.setCell (Nat.le_refl _) _).setCell (Nat.le_refl _) _).setCell (Nat.le_refl _) _).setCell (Nat.le_refl _) _).setCell (Nat.le_refl _) _).setCell (Nat.le_refl _) _).setCell (Nat.le_refl _) _).setCell (Nat.le_refl _) _).setCell (Nat.le_refl _) _).setCell (Nat.le_refl _) _).setCell (Nat.le_refl _) _).setCell (Nat.le_refl _) _).setCell (Nat.le_refl _) _).setCell (Nat.le_refl _) _).setCell (Nat.le_refl _) _)
end Go.Proofs.YtllcakiomihipaaGreatDoor
namespace Go.Proofs.YtllcakiomihipaaGreatDoor
open Go.ChangeShapes Go.WideShapes Go.ChangeAt Go.RowKit
set_option linter.unusedVariables false
set_option linter.unusedSimpArgs false
/-- Another word in a register. -/
def sR (rg : Nat → Int) (i : Nat) (x : Int) : Nat → Int := fun j => if j = i then x else rg j
/-- Another key in a register. -/
def sK (kk : Nat → Nat → Int) (i : Nat) (y0 y1 y2 y3 y4 : Int) : Nat → Nat → Int := fun q r => if q = i then (if r = 0 then y0 else if r = 1 then y1 else if r = 2 then y2 else if r = 3 then y3 else if r = 4 then y4 else kk q r) else kk q r
section
variable (rg : Nat → Int) (pc st ft : Int) (kk : Nat → Nat → Int) (wt : Int)
theorem RW_reg (i : Nat) (hi : i < 8) (x : Int) : uF (RW rg pc st ft kk wt) i (.int .u32 x) = RW (sR rg i x) pc st ft kk wt := by
  funext j
  unfold uF RW sR
  by_cases h : j = i
  · subst h; rw [if_pos rfl, if_pos hi, if_pos rfl]
  · rw [if_neg h]
    by_cases h1 : j < 8
    · rw [if_pos h1, if_pos h1, if_neg h]
    · rw [if_neg h1, if_neg h1]
theorem RW_kreg (q r : Nat) (hq : q < 19) (hr : r < 5) (x : Int) (kk' : Nat → Nat → Int) (h1 : kk' q r = x) (h2 : ∀ a b, b < 5 → ¬ (a = q ∧ b = r) → kk' a b = kk a b) : uF (RW rg pc st ft kk wt) (11 + q * 5 + r) (kval r x) = RW rg pc st ft kk' wt := by
  funext j
  unfold uF RW
  by_cases h : j = 11 + q * 5 + r
  · subst h
    rw [if_pos rfl, if_neg (by omega), if_neg (by omega), if_neg (by omega), if_neg (by omega), if_pos (by omega), show (11 + q * 5 + r - 11) % 5 = r by omega, show (11 + q * 5 + r - 11) / 5 = q by omega, h1]
  · rw [if_neg h]
    by_cases a1 : j < 8
    · rw [if_pos a1, if_pos a1]
    · rw [if_neg a1, if_neg a1]
      by_cases a2 : j = 8
      · rw [if_pos a2, if_pos a2]
      · rw [if_neg a2, if_neg a2]
        by_cases a3 : j = 9
        · rw [if_pos a3, if_pos a3]
        · rw [if_neg a3, if_neg a3]
          by_cases a4 : j = 10
          · rw [if_pos a4, if_pos a4]
          · rw [if_neg a4, if_neg a4]
            by_cases a5 : j < 106
            · rw [if_pos a5, if_pos a5, h2 _ _ (by omega) (by omega)]
            · rw [if_neg a5, if_neg a5]
theorem RW_key5 (q : Nat) (hq : q < 19) (y0 y1 y2 y3 y4 : Int) : uF (uF (uF (uF (uF (RW rg pc st ft kk wt) (11 + q * 5) (.int .i64 y0)) (11 + q * 5 + 1) (.int .i64 y1)) (11 + q * 5 + 2) (.int .i64 y2)) (11 + q * 5 + 3) (.int .i64 y3)) (11 + q * 5 + 4) (.int .u32 y4) = RW rg pc st ft (sK kk q y0 y1 y2 y3 y4) wt := by
  have s0 := RW_kreg rg pc st ft kk wt q 0 hq (by decide) y0 (fun a b => if a = q ∧ b = 0 then y0 else kk a b) (if_pos ⟨rfl, rfl⟩) (fun a b _ h => if_neg h)
  have s1 := RW_kreg rg pc st ft (fun a b => if a = q ∧ b = 0 then y0 else kk a b) wt q 1 hq (by decide) y1 (fun a b => if a = q ∧ b = 1 then y1 else if a = q ∧ b = 0 then y0 else kk a b) (if_pos ⟨rfl, rfl⟩) (fun a b _ h => if_neg h)
  have s2 := RW_kreg rg pc st ft (fun a b => if a = q ∧ b = 1 then y1 else if a = q ∧ b = 0 then y0 else kk a b) wt q 2 hq (by decide) y2 (fun a b => if a = q ∧ b = 2 then y2 else if a = q ∧ b = 1 then y1 else if a = q ∧ b = 0 then y0 else kk a b) (if_pos ⟨rfl, rfl⟩) (fun a b _ h => if_neg h)
  have s3 := RW_kreg rg pc st ft (fun a b => if a = q ∧ b = 2 then y2 else if a = q ∧ b = 1 then y1 else if a = q ∧ b = 0 then y0 else kk a b) wt q 3 hq (by decide) y3 (fun a b => if a = q ∧ b = 3 then y3 else if a = q ∧ b = 2 then y2 else if a = q ∧ b = 1 then y1 else if a = q ∧ b = 0 then y0 else kk a b) (if_pos ⟨rfl, rfl⟩) (fun a b _ h => if_neg h)
  have s4 := RW_kreg rg pc st ft (fun a b => if a = q ∧ b = 3 then y3 else if a = q ∧ b = 2 then y2 else if a = q ∧ b = 1 then y1 else if a = q ∧ b = 0 then y0 else kk a b) wt q 4 hq (by decide) y4 (sK kk q y0 y1 y2 y3 y4) (by simp [sK]) (fun a b hb h => by
    unfold sK
    by_cases e : a = q
    · obtain rfl | rfl | rfl | rfl | rfl := five b hb
      · simp [e]
      · simp [e]
      · simp [e]
      · simp [e]
      · exact absurd ⟨e, rfl⟩ h
    · rw [if_neg e, if_neg (fun x => e x.1), if_neg (fun x => e x.1), if_neg (fun x => e x.1), if_neg (fun x => e x.1)])
  rw [Nat.add_zero] at s0
  have e0 : kval 0 y0 = .int .i64 y0 := rfl
  have e1 : kval 1 y1 = .int .i64 y1 := rfl
  have e2 : kval 2 y2 = .int .i64 y2 := rfl
  have e3 : kval 3 y3 = .int .i64 y3 := rfl
  have e4 : kval 4 y4 = .int .u32 y4 := rfl
  rw [e0] at s0
  rw [e1] at s1
  rw [e2] at s2
  rw [e3] at s3
  rw [e4] at s4
  rw [s0, s1, s2, s3, s4]
end
theorem sK_right {kk : Nat → Nat → Int} (h : ∀ q, q < 19 → KRight kk q) (i : Nat) (y0 y1 y2 y3 y4 : Int) (hy : rightB y0 y1 y2 y3 y4 = true) : ∀ q, q < 19 → KRight (sK kk i y0 y1 y2 y3 y4) q := fun q hq => by
  have h1 := h q hq
  unfold KRight at h1 ⊢
  unfold sK
  by_cases e : q = i
  · simp only [e, if_true]
    exact hy
  · simp only [e, if_false]
    exact h1
theorem setCells_app (b : Nat) : ∀ (xs ys : List Value) (w : World) (o : Nat), w.setCells b o (xs ++ ys) = (w.setCells b o xs).setCells b (o + xs.length) ys
  | [], ys, w, o => by simp [World.setCells]
  | x :: xs, ys, w, o => by
    simp only [List.cons_append, World.setCells, List.length_cons]
    rw [setCells_app b xs ys _ _, show o + 1 + xs.length = o + (xs.length + 1) by omega]
section
variable {w0 wb w w' : World} {L : BLoc} {X : SLoc} {nd B : Nat} {A : List Nat} {F : Nat → Nat → Value} {l : List Int} {J : Nat} {rg : Nat → Int} {pc st ft : Int} {kk : Nat → Nat → Int} {wt : Int}
theorem GB.word (h : GB w0 wb w L X nd B A F l J (RW rg pc st ft kk wt)) (i : Nat) (hi : i < 8) (x : Int) : GB w0 wb (w.setCell ⟨J, i, none⟩ (.int .u32 x)) L X nd B A F l J (RW (sR rg i x) pc st ft kk wt) := by
  rw [← RW_reg rg pc st ft kk wt i hi x]; exact h.set i _
theorem GB.key (h : GB w0 wb w L X nd B A F l J (RW rg pc st ft kk wt)) (q : Nat) (hq : q < 19) (y0 y1 y2 y3 y4 : Int) : GB w0 wb (w.setCells J (11 + q * 5) [.int .i64 y0, .int .i64 y1, .int .i64 y2, .int .i64 y3, .int .u32 y4]) L X nd B A F l J (RW rg pc st ft (sK kk q y0 y1 y2 y3 y4) wt) := by
  rw [← RW_key5 rg pc st ft kk wt q hq y0 y1 y2 y3 y4]
  exact ((((h.set (11 + q * 5) _).set (11 + q * 5 + 1) _).set (11 + q * 5 + 2) _).set (11 + q * 5 + 3) _).set (11 + q * 5 + 4) _
end
end Go.Proofs.YtllcakiomihipaaGreatDoor
namespace Go.Proofs.YtllcakiomihipaaGreatDoor
open Go.ChangeShapes Go.WideShapes Go.ChangeAt Go.RowKit
set_option linter.unusedVariables false
set_option linter.unusedSimpArgs false
theorem keyInfo5 : (Tryz.prog.info? 31).map (·.size) = some 5 := by kernel_rfl
theorem idx0 (w : World) : (Instr.index 50 (.agg #[.int .i64 0, .int .i64 0, .int .i64 0, .int .i64 0, .int .u32 0, .int .i64 0, .int .i64 0, .int .i64 0, .int .i64 0, .int .u32 0, .int .i64 0, .int .i64 0, .int .i64 0, .int .i64 0, .int .u32 0]) (.int .i64 0)).run Tryz.prog w = .ok (.agg #[.int .i64 0, .int .i64 0, .int .i64 0, .int .i64 0, .int .u32 0]) w := by
  kernel_rfl
section
variable {w0 wb w w' W : World} {L : BLoc} {X : SLoc} {nd B : Nat} {A : List Nat} {F : Nat → Nat → Value} {l : List Int} {J NB : Nat} {rg : Nat → Int} {pc st ft : Int} {kk : Nat → Nat → Int} {wt : Int} {ls : List Value} {f f' : Nat → Value}
/-- What holds while a domain takes what it is sent. -/
structure TKs (w0 wb W : World) (L : BLoc) (X : SLoc) (nd B : Nat) (A : List Nat) (F : Nat → Nat → Value) (l : List Int) (J NB : Nat) (ls : List Value) (f : Nat → Value) : Prop where
  gb : GB w0 wb W L X nd B A F l J f
  nt : W.rangeAt NB 0 ls
  ne : NB ≠ J
  lt : NB < W.heap.size
theorem TKs.below (h : TKs w0 wb W L X nd B A F l J NB ls f) (hb : Below W.heap.size W w') : TKs w0 wb w' L X nd B A F l J NB ls f := ⟨h.gb.below hb, range_below h.nt hb h.lt, h.ne, Nat.lt_of_lt_of_le h.lt hb.size⟩
theorem TKs.drew (h : TKs w0 wb W L X nd B A F l J NB ls f) : TKs w0 wb W.drew L X nd B A F l J NB ls f := h.below (Below.refl _ _).drew
theorem TKs.same (h : TKs w0 wb W L X nd B A F l J NB ls f) (o : Nat) (cs : List Value) (hg : GB w0 wb (W.setCells J o cs) L X nd B A F l J f') : TKs w0 wb (W.setCells J o cs) L X nd B A F l J NB ls f' := ⟨hg, range_same h.nt (heapSet NB J h.ne cs W o), h.ne, by rw [heapSize]; exact h.lt⟩
theorem TKs.word (h : TKs w0 wb W L X nd B A F l J NB ls (RW rg pc st ft kk wt)) (i : Nat) (hi : i < 8) (x : Int) : TKs w0 wb (W.setCell ⟨J, i, none⟩ (.int .u32 x)) L X nd B A F l J NB ls (RW (sR rg i x) pc st ft kk wt) := h.same i [.int .u32 x] (h.gb.word i hi x)
theorem TKs.key (h : TKs w0 wb W L X nd B A F l J NB ls (RW rg pc st ft kk wt)) (q : Nat) (hq : q < 19) (y0 y1 y2 y3 y4 : Int) : TKs w0 wb (W.setCells J (11 + q * 5) [.int .i64 y0, .int .i64 y1, .int .i64 y2, .int .i64 y3, .int .u32 y4]) L X nd B A F l J NB ls (RW rg pc st ft (sK kk q y0 y1 y2 y3 y4) wt) := h.same _ _ (h.gb.key q hq y0 y1 y2 y3 y4)
theorem TKs.words (h : TKs w0 wb W L X nd B A F l J NB ls (RW rg pc st ft kk wt)) (a b c : Int) : TKs w0 wb (W.setCells J 1 [.int .u32 a, .int .u32 b, .int .u32 c]) L X nd B A F l J NB ls (RW (sR (sR (sR rg 1 a) 2 b) 3 c) pc st ft kk wt) := ((h.word 1 (by decide) a).word 2 (by decide) b).word 3 (by decide) c
theorem TKs.keys (h : TKs w0 wb W L X nd B A F l J NB ls (RW rg pc st ft kk wt)) (m0 m1 m2 m3 m4 : Int) (n0 n1 n2 n3 n4 : Int) (p0 p1 p2 p3 p4 : Int) : TKs w0 wb (W.setCells J 71 [.int .i64 m0, .int .i64 m1, .int .i64 m2, .int .i64 m3, .int .u32 m4, .int .i64 n0, .int .i64 n1, .int .i64 n2, .int .i64 n3, .int .u32 n4, .int .i64 p0, .int .i64 p1, .int .i64 p2, .int .i64 p3, .int .u32 p4]) L X nd B A F l J NB ls (RW rg pc st ft (sK (sK (sK kk 12 m0 m1 m2 m3 m4) 13 n0 n1 n2 n3 n4) 14 p0 p1 p2 p3 p4) wt) := by
  have e := setCells_app J [.int .i64 m0, .int .i64 m1, .int .i64 m2, .int .i64 m3, .int .u32 m4] [.int .i64 n0, .int .i64 n1, .int .i64 n2, .int .i64 n3, .int .u32 n4, .int .i64 p0, .int .i64 p1, .int .i64 p2, .int .i64 p3, .int .u32 p4] W 71
  have e2 := fun V => setCells_app J [.int .i64 n0, .int .i64 n1, .int .i64 n2, .int .i64 n3, .int .u32 n4] [.int .i64 p0, .int .i64 p1, .int .i64 p2, .int .i64 p3, .int .u32 p4] V 76
  simp only [List.cons_append, List.nil_append, List.length_cons, List.length_nil, Nat.reduceAdd] at e e2
  rw [e, e2]
  exact ((h.key 12 (by decide) m0 m1 m2 m3 m4).key 13 (by decide) n0 n1 n2 n3 n4).key 14 (by decide) p0 p1 p2 p3 p4
set_option maxRecDepth 100000 in
set_option maxHeartbeats 2000000 in
theorem ctake_ok (h : GB w0 wb w L X nd B A F l J (RW rg pc st ft kk wt)) (o a b c bd : Int) (m0 m1 m2 m3 m4 : Int) (n0 n1 n2 n3 n4 : Int) (p0 p1 p2 p3 p4 : Int) :
    Calls Tryz.prog 62 #[.pointer (some ⟨J, 0, none⟩), (Value.agg #[.int .u32 o, .int .u32 a, .int .u32 b, .int .u32 c, .int .i64 m0, .int .i64 m1, .int .i64 m2, .int .i64 m3, .int .u32 m4, .int .i64 n0, .int .i64 n1, .int .i64 n2, .int .i64 n3, .int .u32 n4, .int .i64 p0, .int .i64 p1, .int .i64 p2, .int .i64 p3, .int .u32 p4]), .int .u32 bd, .slice none 0 0] w fun e w' => (∃ v, e = .returned v) ∧ GB w0 wb w' L X nd B A F l J (RW (sR (sR (sR (sR (sR rg 0 o) 1 a) 2 b) 3 c) 4 bd) pc st ft (sK (sK (sK (sK kk 12 m0 m1 m2 m3 m4) 13 n0 n1 n2 n3 n4) 14 p0 p1 p2 p3 p4) 15 0 0 0 0 0) wt) := by
  have H := Lib.hid h
  have hJ := (h.gs.a J (by simp)).1
  clear h
  go_enter Tryz.func62, Tryz.ntmps62
  go_upto_region 1 with fail
  generalize hg : World.alloc w _ = wA
  obtain ⟨NB, hNB⟩ : ∃ NB, NB = w.heap.size := ⟨_, rfl⟩
  have HA : Hid (TKs w0 wb wA L X nd B A F l J NB ([.int .u32 o, .int .u32 a, .int .u32 b, .int .u32 c, .int .i64 m0, .int .i64 m1, .int .i64 m2, .int .i64 m3, .int .u32 m4, .int .i64 n0, .int .i64 n1, .int .i64 n2, .int .i64 n3, .int .u32 n4, .int .i64 p0, .int .i64 p1, .int .i64 p2, .int .i64 p3, .int .u32 p4] : List Value) (RW rg pc st ft kk wt)) := Lib.hid (by rw [← hg, hNB]; exact ⟨H.out.below ((Below.refl _ _).alloc (Nat.le_refl _) _), cbox _ _ _, by omega, by simp⟩)
  rw [← hNB]
  clear hg hNB hJ H
  have n0' := CallC.cell HA.out.nt 0 _ rfl
  have j0 := HA.out.gb.cell 0 (by decide)
  have z0 := HA.out.gb.free 0 (by decide)
  go_still_tail 7, (by kernel_rfl)
  change wpList _ _ _ _ _ wA.drew
  go_upto_region 2 with fail
  clear n0' j0 z0
  obtain ⟨w1, hw1⟩ : ∃ w1, w1 = (wA.setCell ⟨J, 0, none⟩ (.int .u32 o)).drew := ⟨_, rfl⟩
  have H1 : Hid (TKs w0 wb w1 L X nd B A F l J NB ([.int .u32 o, .int .u32 a, .int .u32 b, .int .u32 c, .int .i64 m0, .int .i64 m1, .int .i64 m2, .int .i64 m3, .int .u32 m4, .int .i64 n0, .int .i64 n1, .int .i64 n2, .int .i64 n3, .int .u32 n4, .int .i64 p0, .int .i64 p1, .int .i64 p2, .int .i64 p3, .int .u32 p4] : List Value) (RW (sR rg 0 o) pc st ft kk wt)) := Lib.hid (by rw [hw1]; exact (HA.out.word 0 (by decide) o).drew)
  rw [← hw1]
  clear hw1 HA
  obtain ⟨wD, hwD⟩ : ∃ wD, wD = w1.drew := ⟨_, rfl⟩
  have H1 : Hid (TKs w0 wb wD L X nd B A F l J NB ([.int .u32 o, .int .u32 a, .int .u32 b, .int .u32 c, .int .i64 m0, .int .i64 m1, .int .i64 m2, .int .i64 m3, .int .u32 m4, .int .i64 n0, .int .i64 n1, .int .i64 n2, .int .i64 n3, .int .u32 n4, .int .i64 p0, .int .i64 p1, .int .i64 p2, .int .i64 p3, .int .u32 p4] : List Value) (RW (sR rg 0 o) pc st ft kk wt)) := Lib.hid (by rw [hwD]; exact H1.out.drew)
  have hrun := run_copy_cells (P := Tryz.prog) wD 42 42 3 26 J 1 7 7 ⟨NB, 1, none⟩ 3 3 [.int .u32 a, .int .u32 b, .int .u32 c] Tryz.underlying42 (by kernel_rfl) rfl (fun j v hv => by
    match j, hv with
    | 0, hv => cases hv; exact CallC.cell H1.out.nt 1 _ rfl
    | 1, hv => cases hv; exact CallC.cell H1.out.nt 2 _ rfl
    | 2, hv => cases hv; exact CallC.cell H1.out.nt 3 _ rfl) (fun j hj => by have hj' : j < 3 := hj; rw [H1.out.gb.cell (1 + j) (by omega)]; rfl) (fun j hj => by have hj' : j < 3 := hj; exact H1.out.gb.free (1 + j) (by omega)) (by simp [Value.oneCell'])
  refine wp_region_noPanic ?_
  refine wp_region_held_drew (S := fun w' => True) (by kernel_rfl) trivial (fun hHeld => ?_)
  rw [← hwD]; clear hwD
  refine wpAnyH_take (i := 0) (v := ?_) (by rfl) (by kernel_rfl) (by kernel_rfl) (by kernel_rfl) (fun _ _ _ h => h) (Or.inl ⟨by kernel_rfl, ?_⟩) (by assumption) ?_; rotate_left 1; (focus (intro w hSw; (try dsimp only at hSw); simp only [List.getElem_toArray, List.getElem_cons_succ, List.getElem_cons_zero]; all_goals go_simp; all_goals (try with_reducible rfl))); (try simp only [Act.put, List.getElem_toArray, List.getElem_cons_succ, List.getElem_cons_zero, List.setIfInBounds_toArray, List.set_cons_zero, List.set_cons_succ])
  refine wpAnyH_take (i := 1) (v := ?_) (by rfl) (by kernel_rfl) (by kernel_rfl) (by kernel_rfl) (fun _ _ _ h => h) (Or.inl ⟨by kernel_rfl, ?_⟩) (by assumption) ?_; rotate_left 1; (focus (intro w hSw; (try dsimp only at hSw); simp only [List.getElem_toArray, List.getElem_cons_succ, List.getElem_cons_zero]; all_goals go_simp; all_goals (try with_reducible rfl))); (try simp only [Act.put, List.getElem_toArray, List.getElem_cons_succ, List.getElem_cons_zero, List.setIfInBounds_toArray, List.set_cons_zero, List.set_cons_succ])
  refine wpAnyH_take (i := 2) (v := ?_) (by rfl) (by kernel_rfl) (by kernel_rfl) (by kernel_rfl) (fun _ _ _ h => h) (Or.inl ⟨by kernel_rfl, ?_⟩) (by assumption) ?_; rotate_left 1; (focus (intro w hSw; (try dsimp only at hSw); simp only [List.getElem_toArray, List.getElem_cons_succ, List.getElem_cons_zero]; all_goals go_simp; all_goals (try with_reducible rfl))); (try simp only [Act.put, List.getElem_toArray, List.getElem_cons_succ, List.getElem_cons_zero, List.setIfInBounds_toArray, List.set_cons_zero, List.set_cons_succ])
  refine wpAnyH_take (i := 3) (v := ?_) (by rfl) (by kernel_rfl) (by kernel_rfl) (by kernel_rfl) (fun _ _ _ h => h) (Or.inl ⟨by kernel_rfl, ?_⟩) (by assumption) ?_; rotate_left 1; (focus (intro w hSw; (try dsimp only at hSw); simp only [List.getElem_toArray, List.getElem_cons_succ, List.getElem_cons_zero]; all_goals go_simp; all_goals (try with_reducible rfl))); (try simp only [Act.put, List.getElem_toArray, List.getElem_cons_succ, List.getElem_cons_zero, List.setIfInBounds_toArray, List.set_cons_zero, List.set_cons_succ])
  refine wpAnyH_take (i := 4) (v := ?_) (by rfl) (by kernel_rfl) (by kernel_rfl) (by kernel_rfl) (fun _ _ _ h => h) (Or.inl ⟨by kernel_rfl, ?_⟩) (by assumption) ?_; rotate_left 1; (focus (intro w hSw; (try dsimp only at hSw); simp only [List.getElem_toArray, List.getElem_cons_succ, List.getElem_cons_zero]; all_goals go_simp; all_goals (try with_reducible rfl))); (try simp only [Act.put, List.getElem_toArray, List.getElem_cons_succ, List.getElem_cons_zero, List.setIfInBounds_toArray, List.set_cons_zero, List.set_cons_succ])
  refine wpAnyH_take (i := 5) (v := ?_) (by rfl) (by kernel_rfl) (by kernel_rfl) (by kernel_rfl) (fun _ _ _ h => h) (Or.inl ⟨by kernel_rfl, ?_⟩) (by assumption) ?_; rotate_left 1; (focus (intro w hSw; (try dsimp only at hSw); simp only [List.getElem_toArray, List.getElem_cons_succ, List.getElem_cons_zero]; all_goals go_simp; all_goals (try with_reducible rfl))); (try simp only [Act.put, List.getElem_toArray, List.getElem_cons_succ, List.getElem_cons_zero, List.setIfInBounds_toArray, List.set_cons_zero, List.set_cons_succ])
  refine wpAnyH_take (i := 6) (v := ?_) (by rfl) (by kernel_rfl) (by kernel_rfl) (by kernel_rfl) (fun _ _ _ h => h) (Or.inl ⟨by kernel_rfl, ?_⟩) (by assumption) ?_; rotate_left 1; (focus (intro w hSw; (try dsimp only at hSw); simp only [List.getElem_toArray, List.getElem_cons_succ, List.getElem_cons_zero]; all_goals go_simp; all_goals (try with_reducible rfl))); (try simp only [Act.put, List.getElem_toArray, List.getElem_cons_succ, List.getElem_cons_zero, List.setIfInBounds_toArray, List.set_cons_zero, List.set_cons_succ])
  refine wpAnyH_ready (rs := [7]) (by kernel_rfl) (by simp) ?_; refine AllReadyH.cons (by rfl) (fun K hK => ?_) AllReadyH.nil; rw [if_pos (by kernel_rfl)]; simp only [List.getElem_toArray, List.getElem_cons_succ, List.getElem_cons_zero]
  go_wp2_with fail
  clear hrun
  generalize hA : World.setCells _ J 1 _ = w3
  have H3 : Hid (TKs w0 wb w3 L X nd B A F l J NB ([.int .u32 o, .int .u32 a, .int .u32 b, .int .u32 c, .int .i64 m0, .int .i64 m1, .int .i64 m2, .int .i64 m3, .int .u32 m4, .int .i64 n0, .int .i64 n1, .int .i64 n2, .int .i64 n3, .int .u32 n4, .int .i64 p0, .int .i64 p1, .int .i64 p2, .int .i64 p3, .int .u32 p4] : List Value) (RW (sR (sR (sR (sR rg 0 o) 1 a) 2 b) 3 c) pc st ft kk wt)) := Lib.hid (by rw [← hA]; exact H1.out.words a b c)
  clear hA H1
  refine hK.out _ _ trivial (fun hHeld => ?_)
  clear hK K hHeld
  (try simp only [Act.put, List.getElem_toArray, List.getElem_cons_succ, List.getElem_cons_zero, List.setIfInBounds_toArray, List.set_cons_zero, List.set_cons_succ])
  refine wpAnyH_done (by kernel_rfl) ?_ _
  refine NoPanic.normal ?_
  go_upto_region 3 with fail
  have j4 := H3.out.gb.cell 4 (by decide)
  have z4 := H3.out.gb.free 4 (by decide)
  go_upto_region 4 with fail
  clear j4 z4
  obtain ⟨w4, hw4⟩ : ∃ w4, w4 = (w3.setCell ⟨J, 4, none⟩ (.int .u32 bd)).drew := ⟨_, rfl⟩
  have H4 : Hid (TKs w0 wb w4 L X nd B A F l J NB ([.int .u32 o, .int .u32 a, .int .u32 b, .int .u32 c, .int .i64 m0, .int .i64 m1, .int .i64 m2, .int .i64 m3, .int .u32 m4, .int .i64 n0, .int .i64 n1, .int .i64 n2, .int .i64 n3, .int .u32 n4, .int .i64 p0, .int .i64 p1, .int .i64 p2, .int .i64 p3, .int .u32 p4] : List Value) (RW (sR (sR (sR (sR (sR rg 0 o) 1 a) 2 b) 3 c) 4 bd) pc st ft kk wt)) := Lib.hid (by rw [hw4]; exact (H3.out.word 4 (by decide) bd).drew)
  have hrun := run_copy_cells_wide (P := Tryz.prog) w4 138 138 3 31 5 J 71 4 4 ⟨NB, 4, none⟩ 3 3 [.int .i64 m0, .int .i64 m1, .int .i64 m2, .int .i64 m3, .int .u32 m4, .int .i64 n0, .int .i64 n1, .int .i64 n2, .int .i64 n3, .int .u32 n4, .int .i64 p0, .int .i64 p1, .int .i64 p2, .int .i64 p3, .int .u32 p4] Tryz.underlying138 keyInfo5 rfl (fun j v hv => by
    have h := CallC.cell H4.out.nt (4 + j) v
    have e2 : ({ block := NB, off := 4 } : Addr).add j = ⟨NB, 4 + j, none⟩ := by simp [Addr.add]
    rw [e2]
    exact h (by
      have e : ([.int .u32 o, .int .u32 a, .int .u32 b, .int .u32 c, .int .i64 m0, .int .i64 m1, .int .i64 m2, .int .i64 m3, .int .u32 m4, .int .i64 n0, .int .i64 n1, .int .i64 n2, .int .i64 n3, .int .u32 n4, .int .i64 p0, .int .i64 p1, .int .i64 p2, .int .i64 p3, .int .u32 p4] : List Value) = [.int .u32 o, .int .u32 a, .int .u32 b, .int .u32 c] ++ [.int .i64 m0, .int .i64 m1, .int .i64 m2, .int .i64 m3, .int .u32 m4, .int .i64 n0, .int .i64 n1, .int .i64 n2, .int .i64 n3, .int .u32 n4, .int .i64 p0, .int .i64 p1, .int .i64 p2, .int .i64 p3, .int .u32 p4] := rfl
      rw [e, List.getElem?_append_right (by simp)]
      simpa using hv)) (fun j hj => by have hj' : j < 15 := hj; rw [H4.out.gb.cell (71 + j) (by omega)]; rfl) (fun j hj => by have hj' : j < 15 := hj; exact H4.out.gb.free (71 + j) (by omega)) (by simp [Value.oneCell'])
  refine wp_region_noPanic ?_
  refine wp_region_held_drew (S := fun w' => True) (by kernel_rfl) trivial (fun hHeld => ?_)
  rw [← hw4]
  clear hw4 H3
  refine wpAnyH_take (i := 0) (v := ?_) (by rfl) (by kernel_rfl) (by kernel_rfl) (by kernel_rfl) (fun _ _ _ h => h) (Or.inl ⟨by kernel_rfl, ?_⟩) (by assumption) ?_; rotate_left 1; (focus (intro w hSw; (try dsimp only at hSw); simp only [List.getElem_toArray, List.getElem_cons_succ, List.getElem_cons_zero]; all_goals go_simp; all_goals (try with_reducible rfl))); (try simp only [Act.put, List.getElem_toArray, List.getElem_cons_succ, List.getElem_cons_zero, List.setIfInBounds_toArray, List.set_cons_zero, List.set_cons_succ])
  refine wpAnyH_take (i := 1) (v := ?_) (by rfl) (by kernel_rfl) (by kernel_rfl) (by kernel_rfl) (fun _ _ _ h => h) (Or.inl ⟨by kernel_rfl, ?_⟩) (by assumption) ?_; rotate_left 1; (focus (intro w hSw; (try dsimp only at hSw); simp only [List.getElem_toArray, List.getElem_cons_succ, List.getElem_cons_zero]; all_goals go_simp; all_goals (try with_reducible rfl))); (try simp only [Act.put, List.getElem_toArray, List.getElem_cons_succ, List.getElem_cons_zero, List.setIfInBounds_toArray, List.set_cons_zero, List.set_cons_succ])
  refine wpAnyH_take (i := 2) (v := ?_) (by rfl) (by kernel_rfl) (by kernel_rfl) (by kernel_rfl) (fun _ _ _ h => h) (Or.inl ⟨by kernel_rfl, ?_⟩) (by assumption) ?_; rotate_left 1; (focus (intro w hSw; (try dsimp only at hSw); simp only [List.getElem_toArray, List.getElem_cons_succ, List.getElem_cons_zero]; all_goals go_simp; all_goals (try with_reducible rfl))); (try simp only [Act.put, List.getElem_toArray, List.getElem_cons_succ, List.getElem_cons_zero, List.setIfInBounds_toArray, List.set_cons_zero, List.set_cons_succ])
  refine wpAnyH_take (i := 3) (v := ?_) (by rfl) (by kernel_rfl) (by kernel_rfl) (by kernel_rfl) (fun _ _ _ h => h) (Or.inl ⟨by kernel_rfl, ?_⟩) (by assumption) ?_; rotate_left 1; (focus (intro w hSw; (try dsimp only at hSw); simp only [List.getElem_toArray, List.getElem_cons_succ, List.getElem_cons_zero]; all_goals go_simp; all_goals (try with_reducible rfl))); (try simp only [Act.put, List.getElem_toArray, List.getElem_cons_succ, List.getElem_cons_zero, List.setIfInBounds_toArray, List.set_cons_zero, List.set_cons_succ])
  refine wpAnyH_take (i := 4) (v := ?_) (by rfl) (by kernel_rfl) (by kernel_rfl) (by kernel_rfl) (fun _ _ _ h => h) (Or.inl ⟨by kernel_rfl, ?_⟩) (by assumption) ?_; rotate_left 1; (focus (intro w hSw; (try dsimp only at hSw); simp only [List.getElem_toArray, List.getElem_cons_succ, List.getElem_cons_zero]; all_goals go_simp; all_goals (try with_reducible rfl))); (try simp only [Act.put, List.getElem_toArray, List.getElem_cons_succ, List.getElem_cons_zero, List.setIfInBounds_toArray, List.set_cons_zero, List.set_cons_succ])
  refine wpAnyH_take (i := 5) (v := ?_) (by rfl) (by kernel_rfl) (by kernel_rfl) (by kernel_rfl) (fun _ _ _ h => h) (Or.inl ⟨by kernel_rfl, ?_⟩) (by assumption) ?_; rotate_left 1; (focus (intro w hSw; (try dsimp only at hSw); simp only [List.getElem_toArray, List.getElem_cons_succ, List.getElem_cons_zero]; all_goals go_simp; all_goals (try with_reducible rfl))); (try simp only [Act.put, List.getElem_toArray, List.getElem_cons_succ, List.getElem_cons_zero, List.setIfInBounds_toArray, List.set_cons_zero, List.set_cons_succ])
  refine wpAnyH_ready (rs := [6]) (by kernel_rfl) (by simp) ?_; refine AllReadyH.cons (by rfl) (fun K hK => ?_) AllReadyH.nil; rw [if_pos (by kernel_rfl)]; simp only [List.getElem_toArray, List.getElem_cons_succ, List.getElem_cons_zero]
  go_wp2_with fail
  clear hrun
  generalize hA : World.setCells _ J 71 _ = w5
  have H5 : Hid (TKs w0 wb w5 L X nd B A F l J NB ([.int .u32 o, .int .u32 a, .int .u32 b, .int .u32 c, .int .i64 m0, .int .i64 m1, .int .i64 m2, .int .i64 m3, .int .u32 m4, .int .i64 n0, .int .i64 n1, .int .i64 n2, .int .i64 n3, .int .u32 n4, .int .i64 p0, .int .i64 p1, .int .i64 p2, .int .i64 p3, .int .u32 p4] : List Value) (RW (sR (sR (sR (sR (sR rg 0 o) 1 a) 2 b) 3 c) 4 bd) pc st ft (sK (sK (sK kk 12 m0 m1 m2 m3 m4) 13 n0 n1 n2 n3 n4) 14 p0 p1 p2 p3 p4) wt)) := Lib.hid (by rw [← hA]; exact H4.out.keys m0 m1 m2 m3 m4 n0 n1 n2 n3 n4 p0 p1 p2 p3 p4)
  clear hA H4
  refine hK.out _ _ trivial (fun hHeld => ?_)
  clear hK K hHeld
  (try simp only [Act.put, List.getElem_toArray, List.getElem_cons_succ, List.getElem_cons_zero, List.setIfInBounds_toArray, List.set_cons_zero, List.set_cons_succ])
  refine wpAnyH_done (by kernel_rfl) ?_ _
  refine NoPanic.normal ?_
  go_upto_region 5 with fail
  refine wp_region_noPanic ?_
  refine wp_region_held_drew (S := fun w' => True) (by kernel_rfl) trivial (fun hHeld => ?_)
  obtain ⟨w6, hw6⟩ : ∃ w6, w6 = w5.drew := ⟨_, rfl⟩
  have H6 : Hid (TKs w0 wb w6 L X nd B A F l J NB ([.int .u32 o, .int .u32 a, .int .u32 b, .int .u32 c, .int .i64 m0, .int .i64 m1, .int .i64 m2, .int .i64 m3, .int .u32 m4, .int .i64 n0, .int .i64 n1, .int .i64 n2, .int .i64 n3, .int .u32 n4, .int .i64 p0, .int .i64 p1, .int .i64 p2, .int .i64 p3, .int .u32 p4] : List Value) (RW (sR (sR (sR (sR (sR rg 0 o) 1 a) 2 b) 3 c) 4 bd) pc st ft (sK (sK (sK kk 12 m0 m1 m2 m3 m4) 13 n0 n1 n2 n3 n4) 14 p0 p1 p2 p3 p4) wt)) := Lib.hid (by rw [hw6]; exact H5.out.drew)
  rw [← hw6]
  clear hw6 H5
  refine wpAnyH_take (i := 0) (v := ?_) (by rfl) (by kernel_rfl) (by kernel_rfl) (by kernel_rfl) (fun _ _ _ h => h) (Or.inl ⟨by kernel_rfl, ?_⟩) (by assumption) ?_; rotate_left 1; (focus (intro w hSw; (try dsimp only at hSw); simp only [List.getElem_toArray, List.getElem_cons_succ, List.getElem_cons_zero]; all_goals go_simp; all_goals (try with_reducible rfl))); (try simp only [Act.put, List.getElem_toArray, List.getElem_cons_succ, List.getElem_cons_zero, List.setIfInBounds_toArray, List.set_cons_zero, List.set_cons_succ])
  refine wpAnyH_take (i := 1) (v := ?_) (by rfl) (by kernel_rfl) (by kernel_rfl) (by kernel_rfl) (fun _ _ _ h => h) (Or.inl ⟨by kernel_rfl, ?_⟩) (by assumption) ?_; rotate_left 1; (focus (intro w hSw; (try dsimp only at hSw); simp only [List.getElem_toArray, List.getElem_cons_succ, List.getElem_cons_zero]; all_goals go_simp; all_goals (try with_reducible rfl))); (try simp only [Act.put, List.getElem_toArray, List.getElem_cons_succ, List.getElem_cons_zero, List.setIfInBounds_toArray, List.set_cons_zero, List.set_cons_succ])
  refine wpAnyH_take (i := 4) (v := ?_) (by rfl) (by kernel_rfl) (by kernel_rfl) (by kernel_rfl) (fun _ _ _ h => h) (Or.inl ⟨by kernel_rfl, ?_⟩) (by assumption) ?_; rotate_left 1; (focus (intro w hSw; (try dsimp only at hSw); simp only [List.getElem_toArray, List.getElem_cons_succ, List.getElem_cons_zero]; all_goals go_simp; all_goals (try with_reducible rfl))); (try simp only [Act.put, List.getElem_toArray, List.getElem_cons_succ, List.getElem_cons_zero, List.setIfInBounds_toArray, List.set_cons_zero, List.set_cons_succ])
  refine wpAnyH_take (i := 5) (v := ?_) (by rfl) (by kernel_rfl) (by kernel_rfl) (by kernel_rfl) (fun _ _ _ h => h) (Or.inl ⟨by kernel_rfl, ?_⟩) (by assumption) ?_; rotate_left 1; (focus (intro w hSw; (try dsimp only at hSw); simp only [List.getElem_toArray, List.getElem_cons_succ, List.getElem_cons_zero]; all_goals go_simp; all_goals (try with_reducible rfl))); (try simp only [Act.put, List.getElem_toArray, List.getElem_cons_succ, List.getElem_cons_zero, List.setIfInBounds_toArray, List.set_cons_zero, List.set_cons_succ])
  refine wpAnyH_ready (rs := [2]) (by kernel_rfl) (by simp) ?_; refine AllReadyH.cons (by rfl) (fun K hK => ?_) AllReadyH.nil; rw [if_pos (by kernel_rfl)]; simp only [List.getElem_toArray, List.getElem_cons_succ, List.getElem_cons_zero]
  have hm0 : Nat.min 0 3 = 0 := rfl
  go_wp2_with (first | (go_at_call 103; (with_reducible refine (krow_0 none 0 0 _ hm0).mono ?_); rintro e w7 ⟨rfl, hb⟩; have H7 := Lib.hid (H6.out.below hb); clear hb))
  refine hK.out _ _ trivial (fun hHeld => ?_)
  clear hK K hHeld
  (try simp only [Act.put, List.getElem_toArray, List.getElem_cons_succ, List.getElem_cons_zero, List.setIfInBounds_toArray, List.set_cons_zero, List.set_cons_succ])
  refine wpAnyH_take (i := 3) (v := .agg #[.int .i64 0, .int .i64 0, .int .i64 0, .int .i64 0, .int .u32 0]) (by rfl) (by kernel_rfl) (by kernel_rfl) (by kernel_rfl) (fun _ _ _ h => h) (Or.inl ⟨by kernel_rfl, ?_⟩) (by assumption) ?_
  · intro w hSw
    simp only [List.getElem_toArray, List.getElem_cons_succ, List.getElem_cons_zero]
    go_simp
    rw [idx0]
    rfl
  (try simp only [Act.put, List.getElem_toArray, List.getElem_cons_succ, List.getElem_cons_zero, List.setIfInBounds_toArray, List.set_cons_zero, List.set_cons_succ])
  refine wpAnyH_take (i := 6) (v := ?_) (by rfl) (by kernel_rfl) (by kernel_rfl) (by kernel_rfl) (fun _ _ _ h => h) (Or.inl ⟨by kernel_rfl, ?_⟩) (by assumption) ?_; rotate_left 1; (focus (intro w hSw; (try dsimp only at hSw); simp only [List.getElem_toArray, List.getElem_cons_succ, List.getElem_cons_zero]; all_goals go_simp; all_goals (try with_reducible rfl))); (try simp only [Act.put, List.getElem_toArray, List.getElem_cons_succ, List.getElem_cons_zero, List.setIfInBounds_toArray, List.set_cons_zero, List.set_cons_succ])
  refine wpAnyH_ready (rs := [7]) (by kernel_rfl) (by simp) ?_; refine AllReadyH.cons (by rfl) (fun K hK => ?_) AllReadyH.nil; rw [if_pos (by kernel_rfl)]; simp only [List.getElem_toArray, List.getElem_cons_succ, List.getElem_cons_zero]
  refine wp_store_mid _ _ _ (by rfl) J 86 #[.int .i64 0, .int .i64 0, .int .i64 0, .int .i64 0, .int .u32 0] (by rfl) (by rfl) (fun j hj => by have hj' : j < 5 := hj; have h := H7.out.gb.th (86 + j) (by omega); rwa [Nat.zero_add] at h) infoKey5 (by simp [Value.oneCell']) ?_
  have H8 := Lib.hid (H7.out.key 15 (by decide) 0 0 0 0 0)
  refine hK.out _ _ trivial (fun hHeld => ?_)
  clear hK K hHeld
  (try simp only [Act.put, List.getElem_toArray, List.getElem_cons_succ, List.getElem_cons_zero, List.setIfInBounds_toArray, List.set_cons_zero, List.set_cons_succ])
  refine wpAnyH_done (by kernel_rfl) ?_ _
  refine NoPanic.normal ?_
  go_wp2_with fail
  go_end0
  exact ⟨⟨_, rfl⟩, H8.out.gb⟩
end
end Go.Proofs.YtllcakiomihipaaGreatDoor
namespace Go.Proofs.YtllcakiomihipaaGreatDoor
open Go.ChangeShapes Go.WideShapes Go.ChangeAt Go.RowKit
set_option linter.unusedVariables false
set_option linter.unusedSimpArgs false
section
variable {w0 wb w w' W : World} {L : BLoc} {X : SLoc} {nd B : Nat} {A : List Nat} {F : Nat → Nat → Value} {l : List Int} {J NB : Nat} {rg : Nat → Int} {pc st ft : Int} {kk : Nat → Nat → Int} {wt : Int} {f f' : Nat → Value}
set_option maxRecDepth 100000 in
set_option maxHeartbeats 2000000 in
theorem leave1_is (h : GB w0 wb w L X nd B A F l J (RW rg pc st ft kk wt)) :
    Calls Tryz.prog 101 #[.pointer (some ⟨J, 0, none⟩)] w fun e w' => (∃ v, e = .returned v) ∧ GB w0 wb w' L X nd B A F l J (RW rg pc 1 ft kk wt) := by
  have H := Lib.hid h
  clear h
  have j9 := H.out.cell 9 (by decide)
  have z9 := H.out.free 9 (by decide)
  go_enter Tryz.func101, Tryz.ntmps101
  go_wp2_with fail
  go_end0
  exact ⟨⟨_, rfl⟩, by rw [← RW_st rg pc st ft kk wt 1]; exact H.out.set 9 _⟩
set_option maxRecDepth 100000 in
set_option maxHeartbeats 2000000 in
theorem avail_is (h : GS w0 w L X nd B A F l) (x : Int) (i : Nat) (hx : Hid (x = (i : Int))) (hi : i < nd) (rg : Nat → Int) (pc st ft : Int) (kk : Nat → Nat → Int) (wt : Int) (hF : Hid (F i = RW rg pc st ft kk wt)) :
    Calls Tryz.prog 34 #[.pointer (some ⟨X.s, 0, none⟩), .int .i64 x] w fun e w' => e = .returned (.bool (decide (st = 1))) ∧ Below w.heap.size w w' := by
  have H := Lib.hid h
  have HOne : Hid (∀ j, j < 107 → (RW rg pc st ft kk wt j).oneCell' = true) := Lib.hid (fun j _ => RW_one _ _ _ _ _ _ j)
  have HOneF : Hid (∀ j, j < 107 → (F i j).oneCell' = true) := Lib.hid (by rw [hF.out]; exact HOne.out)
  have c1 := h.c1
  clear h
  go_enter Tryz.func34, Tryz.ntmps34
  go_upto_region 2 with (first
    | (go_at_call 10; (with_reducible refine ((H.out).get x i hx hi HOneF).mono ?_); rintro e w1 ⟨rfl, hb⟩; have HB1 := Lib.hid hb; clear hb)
    | (refine wpList_store_mid (by rfl) _ _ _ (by rfl) w1.heap.size 0 (rowL (F i)).toArray (by rfl) (by rfl) (by rw [rowL_size]; exact nthere_new _ _ 107 zsize _) (by rw [rowL_size]; exact infoDomS) (rowL_one (F i) HOneF.out) ?_))
  generalize hg : World.setCells _ w1.heap.size 0 _ = w2
  obtain ⟨J, hJ⟩ : ∃ J, J = w1.heap.size := ⟨_, rfl⟩
  have H2 : Hid (GB w0 w w2 L X nd B A F l J (RW rg pc st ft kk wt) ∧ Below w.heap.size w w2) := Lib.hid (by rw [← hg, hJ, ← hF.out]; exact ⟨GB.made H.out HB1.out (F i) _ zsize _, nbelow_cells (HB1.out.alloc HB1.out.size _) HB1.out.size _ _⟩)
  rw [← hJ]
  clear hg hJ c1
  have j9 := H2.out.1.cell 9 (by decide)
  rw [RW_9] at j9
  go_wp2_with fail
  go_ret
  exact ⟨rfl, H2.out.2⟩
set_option maxRecDepth 100000 in
set_option maxHeartbeats 2000000 in
theorem change_leave (h : GS w0 w L X nd B A F l) (x : Int) (i : Nat) (hx : Hid (x = (i : Int))) (hi : i < nd) (rg : Nat → Int) (pc st ft : Int) (kk : Nat → Nat → Int) (wt : Int) (hF : Hid (F i = RW rg pc st ft kk wt)) (hR : Hid (∀ q, q < 19 → KRight kk q)) (t1 : 0 ≤ ft) (t2 : ft ≤ 6) (u1 : 0 ≤ wt) (u2 : wt ≤ 536870911) (vs vr : Value) (hE : ErrsAt vs vr w0) :
    Calls Tryz.prog 47 #[.pointer (some ⟨X.s, 0, none⟩), .int .i64 x, .func (.func 101) #[] #[]] w fun e w' => (∃ v, e = .returned v) ∧ GS w0 w' L X nd B A (setF F i (RW rg pc 1 ft kk wt)) l ∧ GK A w w' := by
  have H := Lib.hid h
  have HOne : Hid (∀ j, j < 107 → (RW rg pc st ft kk wt j).oneCell' = true) := Lib.hid (fun j _ => RW_one _ _ _ _ _ _ j)
  have HOneF : Hid (∀ j, j < 107 → (F i j).oneCell' = true) := Lib.hid (by rw [hF.out]; exact HOne.out)
  have HE := Lib.hid hE
  have c1 := h.c1
  clear h hE
  go_enter Tryz.func47, Tryz.ntmps47
  go_upto_region 2 with (first
    | (go_at_call 10; (with_reducible refine ((H.out).get x i hx hi HOneF).mono ?_); rintro e w1 ⟨rfl, hb⟩; have HB1 := Lib.hid hb; clear hb)
    | (refine wpList_store_mid (by rfl) _ _ _ (by rfl) w1.heap.size 0 (rowL (F i)).toArray (by rfl) (by rfl) (by rw [rowL_size]; exact nthere_new _ _ 107 zsize _) (by rw [rowL_size]; exact infoDomS) (rowL_one (F i) HOneF.out) ?_))
  generalize hg : World.setCells _ w1.heap.size 0 _ = w2
  obtain ⟨J, hJ⟩ : ∃ J, J = w1.heap.size := ⟨_, rfl⟩
  have H2 : Hid (GB w0 w w2 L X nd B A F l J (RW rg pc st ft kk wt)) := Lib.hid (by rw [← hg, hJ, ← hF.out]; exact GB.made H.out HB1.out (F i) _ zsize _)
  rw [← hJ]
  clear hg hJ c1
  go_upto_region 3 with (first | (go_at_call 101; (with_reducible refine (leave1_is H2.out).mono ?_); rintro e w3 ⟨⟨v, rfl⟩, hg⟩; have H3 := Lib.hid hg; clear hg))
  have HSC : Hid (∀ W, Below w3.heap.size w3 W → (World.cell? W ⟨X.s, 1, none⟩ = some (.pointer (some ⟨L.dP, 0, none⟩)) ∧ World.rangeAt W J 0 (rowL (RW rg pc 1 ft kk wt)))) := (Lib.hid (fun W hW => ⟨((H3.out).below hW).gs.c1, ((H3.out).below hW).r⟩)); obtain ⟨wD, hwD⟩ : ∃ wD, wD = w3.drew := ⟨_, rfl⟩; have HBd : Hid (Below w3.heap.size w3 wD) := (Lib.hid (by rw [hwD]; exact (Below.refl _ _).drew)); refine wp_region_noPanic ?_; refine wp_region_held_drew (S := fun W => (World.cell? W ⟨X.s, 1, none⟩ = some (.pointer (some ⟨L.dP, 0, none⟩)) ∧ World.rangeAt W J 0 (rowL (RW rg pc 1 ft kk wt)))) (by kernel_rfl) (by rw [← hwD]; exact HSC.out _ HBd.out) (fun hHeld => ?_); rw [← hwD] at hHeld ⊢; clear hwD; refine wpAnyH_take (i := 0) (v := ?_) (by rfl) (by kernel_rfl) (by kernel_rfl) (by kernel_rfl) (fun _ _ _ h => h) (Or.inl ⟨by kernel_rfl, ?_⟩) (by assumption) ?_; rotate_left 1; (focus (intro w hSw; (try dsimp only at hSw); simp only [List.getElem_toArray, List.getElem_cons_succ, List.getElem_cons_zero]; all_goals go_simp; all_goals (try with_reducible rfl))); (try simp only [Act.put, List.getElem_toArray, List.getElem_cons_succ, List.getElem_cons_zero, List.setIfInBounds_toArray, List.set_cons_zero, List.set_cons_succ]); refine wpAnyH_take (i := 1) (v := ?_) (by rfl) (by kernel_rfl) (by kernel_rfl) (by kernel_rfl) (fun _ _ _ h => h) (Or.inl ⟨by kernel_rfl, ?_⟩) (by assumption) ?_; rotate_left 1; (focus (intro w hSw; (try dsimp only at hSw); simp only [List.getElem_toArray, List.getElem_cons_succ, List.getElem_cons_zero]; all_goals go_simp; all_goals (try with_reducible rfl))); (try simp only [Act.put, List.getElem_toArray, List.getElem_cons_succ, List.getElem_cons_zero, List.setIfInBounds_toArray, List.set_cons_zero, List.set_cons_succ]); refine wpAnyH_take (i := 2) (v := ?_) (by rfl) (by kernel_rfl) (by kernel_rfl) (by kernel_rfl) (fun _ _ _ h => h) (Or.inl ⟨by kernel_rfl, ?_⟩) (by assumption) ?_; rotate_left 1; (focus (intro w hSw; (try dsimp only at hSw); simp only [List.getElem_toArray, List.getElem_cons_succ, List.getElem_cons_zero]; all_goals go_simp; all_goals (try with_reducible rfl))); (try simp only [Act.put, List.getElem_toArray, List.getElem_cons_succ, List.getElem_cons_zero, List.setIfInBounds_toArray, List.set_cons_zero, List.set_cons_succ]); refine wpAnyH_take (i := 3) (v := ?_) (by rfl) (by kernel_rfl) (by kernel_rfl) (by kernel_rfl) (fun _ _ _ h => h) (Or.inl ⟨by kernel_rfl, ?_⟩) (by assumption) ?_; rotate_left 1; (focus (intro w hSw; (try dsimp only at hSw); simp only [List.getElem_toArray, List.getElem_cons_succ, List.getElem_cons_zero]; all_goals go_simp; all_goals (try with_reducible rfl))); (try simp only [Act.put, List.getElem_toArray, List.getElem_cons_succ, List.getElem_cons_zero, List.setIfInBounds_toArray, List.set_cons_zero, List.set_cons_succ]); refine wpAnyH_take (i := 4) (v := ?_) (by rfl) (by kernel_rfl) (by kernel_rfl) (by kernel_rfl) (fun _ _ _ h => h) (Or.inl ⟨by kernel_rfl, ?_⟩) (by assumption) ?_; rotate_left 1; (focus (intro w hSw; (try dsimp only at hSw); simp only [List.getElem_toArray, List.getElem_cons_succ, List.getElem_cons_zero]; all_goals go_simp; all_goals (try with_reducible rfl))); (try simp only [Act.put, List.getElem_toArray, List.getElem_cons_succ, List.getElem_cons_zero, List.setIfInBounds_toArray, List.set_cons_zero, List.set_cons_succ]); refine wpAnyH_take (i := 5) (v := .agg (rowL (RW rg pc 1 ft kk wt)).toArray) (by rfl) (by kernel_rfl) (by kernel_rfl) (by kernel_rfl) (fun _ _ _ h => h) (yieldsIf_load_mid (by kernel_rfl) 34 (.tmp 6) (by rfl) J 0 (by rfl) (rowL (RW rg pc 1 ft kk wt)) _ (fun w h => h.2) Tryz.underlying34 rfl (by rw [rowL_len]; exact infoDomS)) (by assumption) ?_; (try simp only [Act.put, List.getElem_toArray, List.getElem_cons_succ, List.getElem_cons_zero, List.setIfInBounds_toArray, List.set_cons_zero, List.set_cons_succ]); refine wpAnyH_ready (rs := [6]) (by kernel_rfl) (by simp) ?_; refine AllReadyH.cons (by rfl) (fun K hK => ?_) AllReadyH.nil; rw [if_pos (by kernel_rfl)]; simp only [List.getElem_toArray, List.getElem_cons_succ, List.getElem_cons_zero]; go_wp2_with (first | (go_at_call 11; (with_reducible refine (((H3.out.gs.below HBd.out).put x i hx hi rg pc 1 ft kk wt hR (by decide) (by decide) t1 t2 u1 u2 vs vr HE.out)).mono ?_); rintro e w4 ⟨rfl, hgs, hgk⟩; have H4 := Lib.hid hgs; have K4 := Lib.hid hgk; clear hgs hgk)); refine hK.out _ _ ⟨H4.out.c1, range_same ((H3.out).below HBd.out).r (K4.out.eq J (by simp))⟩ (fun hHeld => ?_); clear hK K; (try simp only [Act.put, List.getElem_toArray, List.getElem_cons_succ, List.getElem_cons_zero, List.setIfInBounds_toArray, List.set_cons_zero, List.set_cons_succ]); refine wpAnyH_done (by kernel_rfl) ?_ _; refine NoPanic.normal ?_
  go_wp2_with fail
  go_end0
  exact ⟨⟨_, rfl⟩, H4.out.tail, H3.out.gk.trans ((GS.keep HBd.out H3.out.gs).tail.trans K4.out.tail)⟩
theorem GS.wake_no (h : GS w0 w L X nd B A F l) (i : Nat) (hi : i < nd) : Calls Tryz.prog 156 #[.pointer (some ⟨L.dP, 0, none⟩), .int .i64 (i : Int)] w fun e w' => e = .returned (.slice none 0 0) ∧ Below w.heap.size w w' := by
  obtain ⟨D, h1, h2⟩ := h.sj
  have := h.nn
  exact dwake_no i (by omega) (Lib.hid (by rw [h2.dt]; exact decide_eq_true hi)) w h1.k.d
set_option maxRecDepth 100000 in
set_option maxHeartbeats 2000000 in
theorem free_is (h : GS w0 w L X nd B A F l) (x : Int) (i : Nat) (hx : Hid (x = (i : Int))) (hi : i < nd) (b : Nat) (hc : w.cell? ⟨b, 0, none⟩ = some (.int .i64 x)) :
    Calls Tryz.prog 102 #[.pointer (some ⟨X.s, 0, none⟩), .slice (some ⟨b, 0, none⟩) 1 1] w fun e w' => (∃ v, e = .returned v) ∧ Below w.heap.size w w' := by
  have H := Lib.hid h
  have c1 := h.c1
  obtain rfl := hx.out
  clear h
  go_enter Tryz.func102, Tryz.ntmps102
  have HI := Lib.hid hi
  go_wp2_with fail
  refine wp_loop_rounds 2 ?_
  rw [rounds_succ]
  go_upto_region 4 with (first | (go_at_call 156; (with_reducible refine (H.out.wake_no i HI.out).mono ?_); rintro e w1 ⟨rfl, hb⟩; have HB1 := Lib.hid hb; clear hb))
  refine wp_loop_once ?_
  go_wp2_with fail
  rw [rounds_succ]
  go_wp2_with fail
  go_end0
  exact ⟨⟨_, rfl⟩, HB1.out⟩
set_option maxRecDepth 100000 in
set_option maxHeartbeats 2000000 in
theorem leave_ret (h : GS w0 w L X nd B A F l) (x : Int) (i : Nat) (hx : Hid (x = (i : Int))) (hi : i < nd) (rg : Nat → Int) (pc st ft : Int) (kk : Nat → Nat → Int) (wt : Int) (hF : Hid (F i = RW rg pc st ft kk wt)) (hR : Hid (∀ q, q < 19 → KRight kk q)) (t1 : 0 ≤ ft) (t2 : ft ≤ 6) (u1 : 0 ≤ wt) (u2 : wt ≤ 536870911) (vs vr : Value) (hE : ErrsAt vs vr w0) :
    Calls Tryz.prog 61 #[.pointer (some ⟨X.s, 0, none⟩), .int .i64 x, .int .i64 1] w fun e w' => (∃ v, e = .returned v) ∧ GS w0 w' L X nd B A (setF F i (RW rg pc 1 ft kk wt)) l ∧ GK A w w' := by
  have H := Lib.hid h
  have c1 := h.c1
  clear h
  go_enter Tryz.func61, Tryz.ntmps61
  go_wp2_with (first
    | (go_at_call 47; (with_reducible refine (change_leave H.out x i hx hi rg pc st ft kk wt hF hR t1 t2 u1 u2 vs vr hE).mono ?_); rintro e w1 ⟨⟨v, rfl⟩, hg, hk⟩; have H1 := Lib.hid hg; have K1 := Lib.hid hk; clear hg hk; have c2 := H1.out.c1; have HA := Lib.hid (free_is (H1.out.below (w' := w1.alloc (.cells #[.int .i64 x] 3)) ((Below.refl _ _).alloc (Nat.le_refl _) _)) x i hx hi w1.heap.size (by simp)))
    | (go_at_call 102; (with_reducible refine HA.out.mono ?_); rintro e w2 ⟨⟨v2, rfl⟩, hb⟩; have HB2 : Hid (Below w1.heap.size w1 w2) := Lib.hid (((Below.refl _ _).alloc (Nat.le_refl _) _).trans (hb.mono (by simp))); clear hb))
  go_end0
  exact ⟨⟨_, rfl⟩, H1.out.below HB2.out, K1.out.trans (GS.keep HB2.out H1.out)⟩
set_option maxRecDepth 100000 in
set_option maxHeartbeats 2000000 in
theorem leave_fork (h : GS w0 w L X nd B A F l) (x : Int) (hx : V.wfI x) (hl : l.length ≤ 1000) (hB : B ≤ 1000) :
    Calls Tryz.prog 61 #[.pointer (some ⟨X.s, 0, none⟩), .int .i64 x, .int .i64 2] w fun e w' => (∃ v, e = .returned v) ∧ GS w0 w' L X nd (B + 1) A F (V.putAll l [x]) ∧ GK A w w' := by
  have H := Lib.hid h
  have c5 := h.c5
  clear h
  go_enter Tryz.func61, Tryz.ntmps61
  go_wp2_with (first
    | (go_at_call 63; (with_reducible refine (H.out.qput x hx hl hB).mono ?_); rintro e w1 ⟨⟨v, rfl⟩, hg, hk⟩; have H1 := Lib.hid hg; have K1 := Lib.hid hk; clear hg hk))
  go_end0
  exact ⟨⟨_, rfl⟩, H1.out, K1.out⟩
end
end Go.Proofs.YtllcakiomihipaaGreatDoor
namespace Go.Proofs.YtllcakiomihipaaGreatDoor
open Go.ChangeShapes Go.WideShapes Go.ChangeAt Go.RowKit
set_option linter.unusedVariables false
set_option linter.unusedSimpArgs false
section
variable {w0 wb w w' W : World} {L : BLoc} {X : SLoc} {nd B : Nat} {A : List Nat} {F : Nat → Nat → Value} {l : List Int} {J NB : Nat}
set_option maxRecDepth 100000 in
set_option maxHeartbeats 400000 in
theorem take_fork (h : GS w0 w L X nd B A F l) (x : Int) (i : Nat) (hx : Hid (x = (i : Int))) (hi : i < nd) (rg : Nat → Int) (pc ft : Int) (kk : Nat → Nat → Int) (wt : Int) (hF : Hid (F i = RW rg pc 3 ft kk wt)) (hR : Hid (∀ q, q < 19 → KRight kk q)) (t1 : 0 ≤ ft) (t2 : ft ≤ 6) (u1 : 0 ≤ wt) (u2 : wt ≤ 536870911) (vs vr : Value) (hE : ErrsAt vs vr w0) (hxq : V.wfI x) (hl : l.length ≤ 1000) (hB : B ≤ 1000) (m0 m1 m2 m3 m4 : Int) (n0 n1 n2 n3 n4 : Int) (p0 p1 p2 p3 p4 : Int) (o a b c : Int) :
    Calls Tryz.prog 33 #[.pointer (some ⟨X.s, 0, none⟩), .int .i64 x, .int .i64 2, (Value.agg #[.int .u32 o, .int .u32 a, .int .u32 b, .int .u32 c, .int .i64 m0, .int .i64 m1, .int .i64 m2, .int .i64 m3, .int .u32 m4, .int .i64 n0, .int .i64 n1, .int .i64 n2, .int .i64 n3, .int .u32 n4, .int .i64 p0, .int .i64 p1, .int .i64 p2, .int .i64 p3, .int .u32 p4])] w fun e w' => (∃ v, e = .returned v) ∧ GS w0 w' L X nd (B + 1) A F (V.putAll l [x]) ∧ GK A w w' := by
  have H := Lib.hid h
  have HOne : Hid (∀ j, j < 107 → (RW rg pc 3 ft kk wt j).oneCell' = true) := Lib.hid (fun j _ => RW_one _ _ _ _ _ _ j)
  have HOneF : Hid (∀ j, j < 107 → (F i j).oneCell' = true) := Lib.hid (by rw [hF.out]; exact HOne.out)
  have HE := Lib.hid hE
  clear h hE
  go_enter Tryz.func33, Tryz.ntmps33
  go_upto_region 1 with fail
  generalize hgA : World.alloc w _ = wA
  obtain ⟨NB, hNB⟩ : ∃ NB, NB = w.heap.size := ⟨_, rfl⟩
  have HA : Hid (GS w0 wA L X nd B (NB :: A) F l ∧ Below w.heap.size w wA ∧ wA.rangeAt NB 0 ([.int .u32 o, .int .u32 a, .int .u32 b, .int .u32 c, .int .i64 m0, .int .i64 m1, .int .i64 m2, .int .i64 m3, .int .u32 m4, .int .i64 n0, .int .i64 n1, .int .i64 n2, .int .i64 n3, .int .u32 n4, .int .i64 p0, .int .i64 p1, .int .i64 p2, .int .i64 p3, .int .u32 p4] : List Value) ∧ NB < wA.heap.size) := Lib.hid (by rw [← hgA, hNB]; exact ⟨H.out.more ((Below.refl _ _).alloc (Nat.le_refl _) _) _ (Nat.le_refl _) (by simp), (Below.refl _ _).alloc (Nat.le_refl _) _, cbox _ _ _, by simp⟩)
  have c1 := HA.out.1.c1
  rw [← hNB]
  clear hgA hNB
  go_upto_region 2 with (first
    | (go_at_call 10; (with_reducible refine ((HA.out.1).get x i hx hi HOneF).mono ?_); rintro e w1 ⟨rfl, hb⟩; have HB1 := Lib.hid hb; clear hb)
    | (refine wpList_store_mid (by rfl) _ _ _ (by rfl) w1.heap.size 0 (rowL (F i)).toArray (by rfl) (by rfl) (by rw [rowL_size]; exact nthere_new _ _ 107 zsize _) (by rw [rowL_size]; exact infoDomS) (rowL_one (F i) HOneF.out) ?_))
  generalize hg : World.setCells _ w1.heap.size 0 _ = w2
  obtain ⟨J, hJ⟩ : ∃ J, J = w1.heap.size := ⟨_, rfl⟩
  have H2 : Hid (GB w0 wA w2 L X nd B (NB :: A) F l J (RW rg pc 3 ft kk wt) ∧ Below wA.heap.size wA w2) := Lib.hid (by rw [← hg, hJ, ← hF.out]; exact ⟨GB.made HA.out.1 HB1.out (F i) _ zsize _, nbelow_cells (HB1.out.alloc HB1.out.size _) HB1.out.size _ _⟩)
  rw [← hJ]
  clear hg hJ c1
  have j9 := H2.out.1.cell 9 (by decide)
  rw [RW_9] at j9
  go_wp2_with (first | (go_at_call 61; (with_reducible refine (leave_fork H2.out.1.gs.tail.tail x hxq hl hB).mono ?_); rintro e w3 ⟨⟨v, rfl⟩, hg, hk⟩; have H3 := Lib.hid hg; have K3 := Lib.hid hk; clear hg hk))
  (try simp only [Exit.inBlock, Exit.then]); refine bodyPost_ret (results_none rfl _ _ _) rfl ?_
  exact ⟨⟨_, rfl⟩, H3.out, (GS.keep HA.out.2.1 H.out).trans (H2.out.1.gk.tail.trans K3.out)⟩
set_option maxRecDepth 100000 in
set_option maxHeartbeats 400000 in
theorem take_call (h : GS w0 w L X nd B A F l) (x : Int) (i : Nat) (hx : Hid (x = (i : Int))) (hi : i < nd) (rg : Nat → Int) (pc ft : Int) (kk : Nat → Nat → Int) (wt : Int) (hF : Hid (F i = RW rg pc 3 ft kk wt)) (hR : Hid (∀ q, q < 19 → KRight kk q)) (t1 : 0 ≤ ft) (t2 : ft ≤ 6) (u1 : 0 ≤ wt) (u2 : wt ≤ 536870911) (vs vr : Value) (hE : ErrsAt vs vr w0) (hxq : V.wfI x) (hl : l.length ≤ 1000) (hB : B ≤ 1000) (m0 m1 m2 m3 m4 : Int) (n0 n1 n2 n3 n4 : Int) (p0 p1 p2 p3 p4 : Int) (o a b c : Int) (hm : rightB m0 m1 m2 m3 m4 = true) (hn : rightB n0 n1 n2 n3 n4 = true) (hp : rightB p0 p1 p2 p3 p4 = true) :
    Calls Tryz.prog 33 #[.pointer (some ⟨X.s, 0, none⟩), .int .i64 x, .int .i64 0, (Value.agg #[.int .u32 o, .int .u32 a, .int .u32 b, .int .u32 c, .int .i64 m0, .int .i64 m1, .int .i64 m2, .int .i64 m3, .int .u32 m4, .int .i64 n0, .int .i64 n1, .int .i64 n2, .int .i64 n3, .int .u32 n4, .int .i64 p0, .int .i64 p1, .int .i64 p2, .int .i64 p3, .int .u32 p4])] w fun e w' => (∃ v, e = .returned v) ∧ (∃ rg' kk', (∀ q, q < 19 → KRight kk' q) ∧ rg' 0 = o ∧ GS w0 w' L X nd (B + 1) A (setF F i (RW rg' pc 3 ft kk' wt)) (V.putAll l [x])) ∧ GK A w w' := by
  have H := Lib.hid h
  have HOne : Hid (∀ j, j < 107 → (RW rg pc 3 ft kk wt j).oneCell' = true) := Lib.hid (fun j _ => RW_one _ _ _ _ _ _ j)
  have HOneF : Hid (∀ j, j < 107 → (F i j).oneCell' = true) := Lib.hid (by rw [hF.out]; exact HOne.out)
  have HE := Lib.hid hE
  clear h hE
  go_enter Tryz.func33, Tryz.ntmps33
  go_upto_region 1 with fail
  generalize hgA : World.alloc w _ = wA
  obtain ⟨NB, hNB⟩ : ∃ NB, NB = w.heap.size := ⟨_, rfl⟩
  have HA : Hid (GS w0 wA L X nd B (NB :: A) F l ∧ Below w.heap.size w wA ∧ wA.rangeAt NB 0 ([.int .u32 o, .int .u32 a, .int .u32 b, .int .u32 c, .int .i64 m0, .int .i64 m1, .int .i64 m2, .int .i64 m3, .int .u32 m4, .int .i64 n0, .int .i64 n1, .int .i64 n2, .int .i64 n3, .int .u32 n4, .int .i64 p0, .int .i64 p1, .int .i64 p2, .int .i64 p3, .int .u32 p4] : List Value) ∧ NB < wA.heap.size) := Lib.hid (by rw [← hgA, hNB]; exact ⟨H.out.more ((Below.refl _ _).alloc (Nat.le_refl _) _) _ (Nat.le_refl _) (by simp), (Below.refl _ _).alloc (Nat.le_refl _) _, cbox _ _ _, by simp⟩)
  have c1 := HA.out.1.c1
  rw [← hNB]
  clear hgA hNB
  go_upto_region 2 with (first
    | (go_at_call 10; (with_reducible refine ((HA.out.1).get x i hx hi HOneF).mono ?_); rintro e w1 ⟨rfl, hb⟩; have HB1 := Lib.hid hb; clear hb)
    | (refine wpList_store_mid (by rfl) _ _ _ (by rfl) w1.heap.size 0 (rowL (F i)).toArray (by rfl) (by rfl) (by rw [rowL_size]; exact nthere_new _ _ 107 zsize _) (by rw [rowL_size]; exact infoDomS) (rowL_one (F i) HOneF.out) ?_))
  generalize hg : World.setCells _ w1.heap.size 0 _ = w2
  obtain ⟨J, hJ⟩ : ∃ J, J = w1.heap.size := ⟨_, rfl⟩
  have H2 : Hid (GB w0 wA w2 L X nd B (NB :: A) F l J (RW rg pc 3 ft kk wt) ∧ Below wA.heap.size wA w2) := Lib.hid (by rw [← hg, hJ, ← hF.out]; exact ⟨GB.made HA.out.1 HB1.out (F i) _ zsize _, nbelow_cells (HB1.out.alloc HB1.out.size _) HB1.out.size _ _⟩)
  rw [← hJ]
  clear hg hJ c1
  have j9 := H2.out.1.cell 9 (by decide)
  rw [RW_9] at j9
  have HN : Hid (w2.rangeAt NB 0 ([.int .u32 o, .int .u32 a, .int .u32 b, .int .u32 c, .int .i64 m0, .int .i64 m1, .int .i64 m2, .int .i64 m3, .int .u32 m4, .int .i64 n0, .int .i64 n1, .int .i64 n2, .int .i64 n3, .int .u32 n4, .int .i64 p0, .int .i64 p1, .int .i64 p2, .int .i64 p3, .int .u32 p4] : List Value)) := Lib.hid (range_below HA.out.2.2.1 H2.out.2 HA.out.2.2.2)
  go_upto_region 4 with (first
    | (refine wpList_load_mid (by rfl) _ _ (by rfl) NB 0 (by rfl) ([.int .u32 o, .int .u32 a, .int .u32 b, .int .u32 c, .int .i64 m0, .int .i64 m1, .int .i64 m2, .int .i64 m3, .int .u32 m4, .int .i64 n0, .int .i64 n1, .int .i64 n2, .int .i64 n3, .int .u32 n4, .int .i64 p0, .int .i64 p1, .int .i64 p2, .int .i64 p3, .int .u32 p4] : List Value) _ HN.out Tryz.underlying52 rfl infoNote ?_)
    | (go_at_call 62; (with_reducible refine (ctake_ok H2.out.1 o a b c 0 m0 m1 m2 m3 m4 n0 n1 n2 n3 n4 p0 p1 p2 p3 p4).mono ?_); rintro e w3 ⟨⟨v, rfl⟩, hg⟩; have H3 := Lib.hid hg; clear hg j9))
  obtain ⟨rg', hrg⟩ : ∃ rg', rg' = sR (sR (sR (sR (sR rg 0 o) 1 a) 2 b) 3 c) 4 0 := ⟨_, rfl⟩
  obtain ⟨kk', hkk⟩ : ∃ kk', kk' = sK (sK (sK (sK kk 12 m0 m1 m2 m3 m4) 13 n0 n1 n2 n3 n4) 14 p0 p1 p2 p3 p4) 15 0 0 0 0 0 := ⟨_, rfl⟩
  rw [← hrg, ← hkk] at H3
  have HR2 : Hid (∀ q, q < 19 → KRight kk' q) := Lib.hid (by rw [hkk]; exact sK_right (sK_right (sK_right (sK_right hR.out 12 _ _ _ _ _ hm) 13 _ _ _ _ _ hn) 14 _ _ _ _ _ hp) 15 0 0 0 0 0 (by decide))
  have hr0 : rg' 0 = o := by rw [hrg]; rfl
  clear hrg hkk
  have HSC : Hid (∀ W, Below w3.heap.size w3 W → (World.cell? W ⟨X.s, 1, none⟩ = some (.pointer (some ⟨L.dP, 0, none⟩)) ∧ World.rangeAt W J 0 (rowL (RW rg' pc 3 ft kk' wt)))) := (Lib.hid (fun W hW => ⟨((H3.out).below hW).gs.c1, ((H3.out).below hW).r⟩)); obtain ⟨wD, hwD⟩ : ∃ wD, wD = w3.drew := ⟨_, rfl⟩; have HBd : Hid (Below w3.heap.size w3 wD) := (Lib.hid (by rw [hwD]; exact (Below.refl _ _).drew)); refine wp_region_noPanic ?_; refine wp_region_held_drew (S := fun W => (World.cell? W ⟨X.s, 1, none⟩ = some (.pointer (some ⟨L.dP, 0, none⟩)) ∧ World.rangeAt W J 0 (rowL (RW rg' pc 3 ft kk' wt)))) (by kernel_rfl) (by rw [← hwD]; exact HSC.out _ HBd.out) (fun hHeld => ?_); rw [← hwD] at hHeld ⊢; clear hwD; refine wpAnyH_take (i := 0) (v := ?_) (by rfl) (by kernel_rfl) (by kernel_rfl) (by kernel_rfl) (fun _ _ _ h => h) (Or.inl ⟨by kernel_rfl, ?_⟩) (by assumption) ?_; rotate_left 1; (focus (intro w hSw; (try dsimp only at hSw); simp only [List.getElem_toArray, List.getElem_cons_succ, List.getElem_cons_zero]; all_goals go_simp; all_goals (try with_reducible rfl))); (try simp only [Act.put, List.getElem_toArray, List.getElem_cons_succ, List.getElem_cons_zero, List.setIfInBounds_toArray, List.set_cons_zero, List.set_cons_succ]); refine wpAnyH_take (i := 1) (v := ?_) (by rfl) (by kernel_rfl) (by kernel_rfl) (by kernel_rfl) (fun _ _ _ h => h) (Or.inl ⟨by kernel_rfl, ?_⟩) (by assumption) ?_; rotate_left 1; (focus (intro w hSw; (try dsimp only at hSw); simp only [List.getElem_toArray, List.getElem_cons_succ, List.getElem_cons_zero]; all_goals go_simp; all_goals (try with_reducible rfl))); (try simp only [Act.put, List.getElem_toArray, List.getElem_cons_succ, List.getElem_cons_zero, List.setIfInBounds_toArray, List.set_cons_zero, List.set_cons_succ]); refine wpAnyH_take (i := 2) (v := ?_) (by rfl) (by kernel_rfl) (by kernel_rfl) (by kernel_rfl) (fun _ _ _ h => h) (Or.inl ⟨by kernel_rfl, ?_⟩) (by assumption) ?_; rotate_left 1; (focus (intro w hSw; (try dsimp only at hSw); simp only [List.getElem_toArray, List.getElem_cons_succ, List.getElem_cons_zero]; all_goals go_simp; all_goals (try with_reducible rfl))); (try simp only [Act.put, List.getElem_toArray, List.getElem_cons_succ, List.getElem_cons_zero, List.setIfInBounds_toArray, List.set_cons_zero, List.set_cons_succ]); refine wpAnyH_take (i := 3) (v := ?_) (by rfl) (by kernel_rfl) (by kernel_rfl) (by kernel_rfl) (fun _ _ _ h => h) (Or.inl ⟨by kernel_rfl, ?_⟩) (by assumption) ?_; rotate_left 1; (focus (intro w hSw; (try dsimp only at hSw); simp only [List.getElem_toArray, List.getElem_cons_succ, List.getElem_cons_zero]; all_goals go_simp; all_goals (try with_reducible rfl))); (try simp only [Act.put, List.getElem_toArray, List.getElem_cons_succ, List.getElem_cons_zero, List.setIfInBounds_toArray, List.set_cons_zero, List.set_cons_succ]); refine wpAnyH_take (i := 4) (v := ?_) (by rfl) (by kernel_rfl) (by kernel_rfl) (by kernel_rfl) (fun _ _ _ h => h) (Or.inl ⟨by kernel_rfl, ?_⟩) (by assumption) ?_; rotate_left 1; (focus (intro w hSw; (try dsimp only at hSw); simp only [List.getElem_toArray, List.getElem_cons_succ, List.getElem_cons_zero]; all_goals go_simp; all_goals (try with_reducible rfl))); (try simp only [Act.put, List.getElem_toArray, List.getElem_cons_succ, List.getElem_cons_zero, List.setIfInBounds_toArray, List.set_cons_zero, List.set_cons_succ]); refine wpAnyH_take (i := 5) (v := .agg (rowL (RW rg' pc 3 ft kk' wt)).toArray) (by rfl) (by kernel_rfl) (by kernel_rfl) (by kernel_rfl) (fun _ _ _ h => h) (yieldsIf_load_mid (by kernel_rfl) 34 (.tmp 8) (by rfl) J 0 (by rfl) (rowL (RW rg' pc 3 ft kk' wt)) _ (fun w h => h.2) Tryz.underlying34 rfl (by rw [rowL_len]; exact infoDomS)) (by assumption) ?_; (try simp only [Act.put, List.getElem_toArray, List.getElem_cons_succ, List.getElem_cons_zero, List.setIfInBounds_toArray, List.set_cons_zero, List.set_cons_succ]); refine wpAnyH_ready (rs := [6]) (by kernel_rfl) (by simp) ?_; refine AllReadyH.cons (by rfl) (fun K hK => ?_) AllReadyH.nil; rw [if_pos (by kernel_rfl)]; simp only [List.getElem_toArray, List.getElem_cons_succ, List.getElem_cons_zero]; go_wp2_with (first | (go_at_call 11; (with_reducible refine (((H3.out.gs.below HBd.out).put x i hx hi rg' pc 3 ft kk' wt HR2 (by decide) (by decide) t1 t2 u1 u2 vs vr HE.out)).mono ?_); rintro e w4 ⟨rfl, hgs, hgk⟩; have H4 := Lib.hid hgs; have K4 := Lib.hid hgk; clear hgs hgk)); refine hK.out _ _ ⟨H4.out.c1, range_same ((H3.out).below HBd.out).r (K4.out.eq J (by simp))⟩ (fun hHeld => ?_); clear hK K; (try simp only [Act.put, List.getElem_toArray, List.getElem_cons_succ, List.getElem_cons_zero, List.setIfInBounds_toArray, List.set_cons_zero, List.set_cons_succ]); refine wpAnyH_done (by kernel_rfl) ?_ _; refine NoPanic.normal ?_
  have c5 := H4.out.c5
  go_wp2_with (first
    | (go_at_call 63; (with_reducible refine (H4.out.qput x hxq hl hB).mono ?_); rintro e w5 ⟨⟨v, rfl⟩, hg, hk⟩; have H5 := Lib.hid hg; have K5 := Lib.hid hk; clear hg hk))
  go_end0
  exact ⟨⟨_, rfl⟩, ⟨rg', kk', HR2.out, hr0, H5.out.tail.tail⟩, (GS.keep HA.out.2.1 H.out).trans (H3.out.gk.tail.trans ((GS.keep HBd.out H3.out.gs).tail.tail.trans (K4.out.tail.tail.trans K5.out.tail.tail)))⟩
end
end Go.Proofs.YtllcakiomihipaaGreatDoor
namespace Go.Proofs.YtllcakiomihipaaGreatDoor
open Go.ChangeShapes Go.WideShapes Go.ChangeAt Go.RowKit
set_option linter.unusedVariables false
set_option linter.unusedSimpArgs false
/-- The rows of a new system's domains, the first of which runs. -/
def F1 : Nat → Nat → Value := setF (fun _ => R0) 0 (RW (fun _ => 0) 0 3 0 (fun _ _ => 0) 0)
set_option maxRecDepth 100000 in
set_option maxHeartbeats 400000 in
theorem two_is (vs vr : Value) (w : World) (hE : ErrsAt vs vr w) : Calls Tryz.prog 9 #[] w fun e w' => ∃ L X, e = .returned (.pointer (some ⟨X.s, 0, none⟩)) ∧ GS w w' L X 4 0 [] F1 [] := by
  have HE := Lib.hid hE
  clear hE
  go_enter Tryz.func9, Tryz.ntmps9
  go_wp2_with (first
    | (go_at_call 26; (with_reducible refine (script_ok _).mono ?_); rintro e w1 ⟨L, X, x, rfl, hs, hn, hb⟩; have HS := Lib.hid hs; have HN := Lib.hid hn.out; have bc := hs.b.c3; have hnb : 0 < L.n := by { have := hn.out.2.2.2.2.1; omega }; have HN4 : Hid (0 < L.dn ∧ 1 < L.dn ∧ 2 < L.dn ∧ 3 < L.dn) := Lib.hid (by have := hn.out.2.2.1; omega); clear hs hn hb)
    | (go_at_call 27; (with_reducible refine (sj_rootg hnb _ HS.out.sj).mono ?_); rintro e w2 ⟨rfl, hj, hu⟩; have H2 := Lib.hid (And.intro hj hu); clear bc; have bc := hj.b.c3; clear hj hu))
  refine wp_loop_rounds 5 ?_
  rw [rounds_succ]
  go_wp2_with (first | (go_at_call 28; (with_reducible refine (sj_domg 0 HN4.out.1 (by decide) _ H2.out.1).mono ?_); rintro e w3 ⟨rfl, hj, hu⟩; have H3 := Lib.hid (And.intro hj (UpT.trans H2.out.2 hu)); have bc := hj.b.c3; clear hj hu))
  rw [rounds_succ]
  go_wp2_with (first | (go_at_call 28; (with_reducible refine (sj_domg 1 HN4.out.2.1 (by decide) _ H3.out.1).mono ?_); rintro e w4 ⟨rfl, hj, hu⟩; have H4 := Lib.hid (And.intro hj (UpT.trans H3.out.2 hu)); have bc := hj.b.c3; clear hj hu))
  rw [rounds_succ]
  go_wp2_with (first | (go_at_call 28; (with_reducible refine (sj_domg 2 HN4.out.2.2.1 (by decide) _ H4.out.1).mono ?_); rintro e w5 ⟨rfl, hj, hu⟩; have H5 := Lib.hid (And.intro hj (UpT.trans H4.out.2 hu)); have bc := hj.b.c3; clear hj hu))
  rw [rounds_succ]
  go_wp2_with (first | (go_at_call 28; (with_reducible refine (sj_domg 3 HN4.out.2.2.2 (by decide) _ H5.out.1).mono ?_); rintro e w6 ⟨rfl, hj, hu⟩; have H6 := Lib.hid (And.intro hj (UpT.trans H5.out.2 hu)); have bc := hj.b.c3; clear hj hu))
  rw [rounds_succ]
  have HG : Hid (GS w w6 L X 4 0 [] (fun _ => R0) []) := Lib.hid (by
    have h := HS.out
    have hX := h.fl
    exact gs_start (by unfold FLg; exact hX) 4 (by have := HN4.out; omega) H6.out.1 (vng h.q0 h.q1 h.qz H6.out.2 h.lo.2.1))
  have HR := Lib.hid (run_is HG.out 0 0 (Lib.hid rfl) (by decide) (fun _ => 0) 0 1 0 (fun _ _ => 0) 0 (Lib.hid rfl) (Lib.hid (fun _ _ => (show rightB 0 0 0 0 0 = true by decide))) (by decide) (by decide) (by decide) (by decide) vs vr HE.out)
  go_wp2_with (first
    | (go_at_call 14; (with_reducible refine HR.out.mono ?_); rintro e w7 ⟨⟨v, rfl⟩, hg, hk⟩; have H7 := Lib.hid hg; clear hg hk))
  go_ret
  exact ⟨L, X, rfl, H7.out⟩
end Go.Proofs.YtllcakiomihipaaGreatDoor
namespace Go.Proofs.YtllcakiomihipaaGreatDoor
open Go.ChangeShapes Go.WideShapes Go.ChangeAt Go.RowKit
set_option linter.unusedVariables false
set_option linter.unusedSimpArgs false
section
variable {w0 wb w w' W : World} {L : BLoc} {X : SLoc} {nd B : Nat} {A : List Nat} {F : Nat → Nat → Value} {l : List Int} {J NB : Nat}
theorem results_cell_tmp {fn : Func} {a t : Tmp} {ty : TypeId} (h : fn.results = #[.cell a ty, .tmp t]) (tmps : Array Value) (ad : Addr) (ha : tmps.getD a undef = .pointer (some ad)) (P : Program) (w : World) (v : Value) (hl : (loadVar ty ad).run P w = .ok v w) : (results fn tmps).run P w = .ok (.tuple #[v, tmps.getD t undef]) w := by
  have ha' : tmps[a]?.getD undef = .pointer (some ad) := by simpa using ha
  simp [results, h, ha', asAddr, hl]
/-- What holds in Invoke: its key, its note, its result lie in boxes of their own. -/
structure IV (w0 w W : World) (L : BLoc) (X : SLoc) (nd B : Nat) (A : List Nat) (F : Nat → Nat → Value) (l : List Int) (KB NB RB : Nat) (ks ns rs : List Value) : Prop where
  gs : GS w0 W L X nd B (RB :: NB :: KB :: A) F l
  gk : GK A w W
  kc : W.rangeAt KB 0 ks
  nc : W.rangeAt NB 0 ns
  rc : W.rangeAt RB 0 rs
  rt : World.there W RB 0 21
  kt : World.there W KB 0 5
  ot : World.there W NB 0 19
  lt : w.heap.size ≤ KB ∧ KB < NB ∧ NB < RB ∧ RB < W.heap.size
  na : ∀ k ∈ A, k < w.heap.size
  xs : X.s < w.heap.size
theorem IV.below {KB NB RB : Nat} {ks ns rs : List Value} (h : IV w0 w W L X nd B A F l KB NB RB ks ns rs) (hb : Below W.heap.size W w') : IV w0 w w' L X nd B A F l KB NB RB ks ns rs :=
  ⟨h.gs.below hb, h.gk.trans ((GS.keep hb h.gs).tail.tail.tail), range_below h.kc hb (by have := h.lt; omega), range_below h.nc hb (by have := h.lt; omega), range_below h.rc hb (by have := h.lt; omega), nthere_below h.rt hb (by have := h.lt; omega), nthere_below h.kt hb (by have := h.lt; omega), nthere_below h.ot hb (by have := h.lt; omega), by have := h.lt; have := hb.size; omega, h.na, h.xs⟩
theorem IV.made (h : GS w0 w L X nd B A F l) (ks ns rs : List Value) (T1 T2 T3 : TypeId) (hk : ks.length = 5) (hn : ns.length = 19) (hr : rs.length = 21) : IV w0 w (((w.alloc (.cells ks.toArray T1)).alloc (.cells ns.toArray T2)).alloc (.cells rs.toArray T3)) L X nd B A F l w.heap.size (w.heap.size + 1) (w.heap.size + 1 + 1) ks ns rs := by
  have b1 : Below w.heap.size w (w.alloc (.cells ks.toArray T1)) := (Below.refl _ _).alloc (Nat.le_refl _) _
  have b2 : Below (w.alloc (.cells ks.toArray T1)).heap.size (w.alloc (.cells ks.toArray T1)) ((w.alloc (.cells ks.toArray T1)).alloc (.cells ns.toArray T2)) := (Below.refl _ _).alloc (Nat.le_refl _) _
  have b3 : Below ((w.alloc (.cells ks.toArray T1)).alloc (.cells ns.toArray T2)).heap.size ((w.alloc (.cells ks.toArray T1)).alloc (.cells ns.toArray T2)) (((w.alloc (.cells ks.toArray T1)).alloc (.cells ns.toArray T2)).alloc (.cells rs.toArray T3)) := (Below.refl _ _).alloc (Nat.le_refl _) _
  have z1 : (w.alloc (.cells ks.toArray T1)).heap.size = w.heap.size + 1 := by simp
  have z2 : ((w.alloc (.cells ks.toArray T1)).alloc (.cells ns.toArray T2)).heap.size = w.heap.size + 1 + 1 := by simp
  have b23 := b2.trans (b3.mono b2.size)
  have g := ((h.more b1 w.heap.size (Nat.le_refl _) (by simp)).more b2 (w.heap.size + 1) (by simp) (by simp)).more b3 (w.heap.size + 1 + 1) (by rw [z2]; exact Nat.le_refl _) (by simp)
  have r1 := cbox w ks T1
  have r2 := cbox (w.alloc (.cells ks.toArray T1)) ns T2
  have r3 := cbox ((w.alloc (.cells ks.toArray T1)).alloc (.cells ns.toArray T2)) rs T3
  have t1 := nthere_new w ks.toArray 5 (by simpa using hk) T1
  have t2 := nthere_new (w.alloc (.cells ks.toArray T1)) ns.toArray 19 (by simpa using hn) T2
  have t3 := nthere_new ((w.alloc (.cells ks.toArray T1)).alloc (.cells ns.toArray T2)) rs.toArray 21 (by simpa using hr) T3
  rw [z1] at r2 t2
  rw [z2] at r3 t3
  exact ⟨g, GS.keep (b1.trans (b23.mono b1.size)) h, range_below r1 b23 (by rw [z1]; omega), range_below r2 b3 (by rw [z2]; omega), r3, t3, nthere_below t1 b23 (by rw [z1]; omega), nthere_below t2 b3 (by rw [z2]; omega), by simp, fun k hk => (h.a k hk).1, h.xs.1⟩
theorem IV.put {KB NB RB : Nat} {ks ns rs : List Value} (h : IV w0 w W L X nd B A F l KB NB RB ks ns rs) (rs' : List Value) (hl : rs'.length = 21) : IV w0 w (W.setCells RB 0 rs') L X nd B A F l KB NB RB ks ns rs' := by
  have hlt := h.lt
  have hx := h.xs
  exact ⟨h.gs.cells RB (by simp) (by omega) 0 rs', h.gk.trans (GK.cells (fun hm => by have := h.na _ hm; omega) W 0 rs'), range_same h.kc (heapSet KB RB (by omega) rs' W 0), range_same h.nc (heapSet NB RB (by omega) rs' W 0), World.rangeAt_setCells_same _ _ 0 rs' (by rw [hl]; exact h.rt), World.there_setCells h.rt _ _ _, World.there_setCells h.kt _ _ _, World.there_setCells h.ot _ _ _, by rw [heapSize]; exact hlt, h.na, hx⟩
end
end Go.Proofs.YtllcakiomihipaaGreatDoor
namespace Go.Proofs.YtllcakiomihipaaGreatDoor
open Go.ChangeShapes Go.WideShapes Go.ChangeAt Go.RowKit
set_option linter.unusedVariables false
set_option linter.unusedSimpArgs false
section
variable {w0 wb w w' W : World} {L : BLoc} {X : SLoc} {nd B : Nat} {A : List Nat} {F : Nat → Nat → Value} {l : List Int} {J NB : Nat}
theorem IV.turn {B' : Nat} {F' : Nat → Nat → Value} {l' : List Int} {KB NB RB : Nat} {ks ns rs : List Value} (h : IV w0 w W L X nd B A F l KB NB RB ks ns rs) (hg : GS w0 w' L X nd B' (RB :: NB :: KB :: A) F' l') (hk : GK (RB :: NB :: KB :: A) W w') : IV w0 w w' L X nd B' A F' l' KB NB RB ks ns rs :=
  ⟨hg, h.gk.trans hk.tail.tail.tail, range_same h.kc (hk.eq KB (by simp)), range_same h.nc (hk.eq NB (by simp)), range_same h.rc (hk.eq RB (by simp)), nthere_same h.rt (hk.eq RB (by simp)), nthere_same h.kt (hk.eq KB (by simp)), nthere_same h.ot (hk.eq NB (by simp)), by have := h.lt; have := hk.sz; omega, h.na, h.xs⟩
theorem IV.putk {KB NB RB : Nat} {ks ns rs : List Value} (h : IV w0 w W L X nd B A F l KB NB RB ks ns rs) (ks' : List Value) (hl : ks'.length = 5) : IV w0 w (W.setCells KB 0 ks') L X nd B A F l KB NB RB ks' ns rs := by
  have hlt := h.lt
  have hx := h.xs
  exact ⟨h.gs.cells KB (by simp) (by omega) 0 ks', h.gk.trans (GK.cells (fun hm => by have := h.na _ hm; omega) W 0 ks'), World.rangeAt_setCells_same _ _ 0 ks' (by rw [hl]; exact h.kt), range_same h.nc (heapSet NB KB (by omega) ks' W 0), range_same h.rc (heapSet RB KB (by omega) ks' W 0), World.there_setCells h.rt _ _ _, World.there_setCells h.kt _ _ _, World.there_setCells h.ot _ _ _, by rw [heapSize]; exact hlt, h.na, hx⟩
theorem IV.putn {KB NB RB : Nat} {ks ns rs : List Value} (h : IV w0 w W L X nd B A F l KB NB RB ks ns rs) (o : Nat) (cs ns' : List Value) (hn : (W.setCells NB o cs).rangeAt NB 0 ns') : IV w0 w (W.setCells NB o cs) L X nd B A F l KB NB RB ks ns' rs := by
  have hlt := h.lt
  have hx := h.xs
  exact ⟨h.gs.cells NB (by simp) (by omega) o cs, h.gk.trans (GK.cells (fun hm => by have := h.na _ hm; omega) W o cs), range_same h.kc (heapSet KB NB (by omega) cs W o), hn, range_same h.rc (heapSet RB NB (by omega) cs W o), World.there_setCells h.rt _ _ _, World.there_setCells h.kt _ _ _, World.there_setCells h.ot _ _ _, by rw [heapSize]; exact hlt, h.na, hx⟩
theorem range_key5 {b : Nat} {cs : List Value} (h : W.rangeAt b 0 cs) (i : Nat) (v0 v1 v2 v3 v4 : Value) : (W.setCells b i [v0, v1, v2, v3, v4]).rangeAt b 0 (((((cs.set i v0).set (i + 1) v1).set (i + 1 + 1) v2).set (i + 1 + 1 + 1) v3).set (i + 1 + 1 + 1 + 1) v4) :=
  range_set (range_set (range_set (range_set (range_set h i v0) (i + 1) v1) (i + 1 + 1) v2) (i + 1 + 1 + 1) v3) (i + 1 + 1 + 1 + 1) v4
end
end Go.Proofs.YtllcakiomihipaaGreatDoor
namespace Go.Proofs.YtllcakiomihipaaGreatDoor
open Go.ChangeShapes Go.WideShapes Go.ChangeAt Go.RowKit
set_option linter.unusedVariables false
set_option linter.unusedSimpArgs false
section
variable {w0 wb w w' W : World} {L : BLoc} {X : SLoc} {nd B : Nat} {A : List Nat} {F : Nat → Nat → Value} {l : List Int} {J NB : Nat}
set_option maxRecDepth 100000 in
set_option maxHeartbeats 4000000 in
theorem inv_go (h : GS w0 w L X nd B A F l) (x : Int) (i : Nat) (hx : Hid (x = (i : Int))) (hi : i < nd) (rg : Nat → Int) (pc ft : Int) (kk : Nat → Nat → Int) (wt : Int) (hF : Hid (F i = RW rg pc 3 ft kk wt)) (how : Int) (h0 : 0 ≤ how) (h2 : how ≤ 2) (hxq : V.wfI x) (hl : l.length ≤ 1000) (k0 k1 k2 k3 k4 : Int) (m0 m1 m2 m3 m4 : Int) (n0 n1 n2 n3 n4 : Int) (p0 p1 p2 p3 p4 : Int) (o a b c : Int) (u0 u1 u2 u3 u4 : Int) (hSm : ∀ W, GS w0 W L X nd B [] F (V.offI l x) → Calls Tryz.prog 21 #[.pointer (some ⟨X.s, 0, none⟩), (Value.agg #[.int .i64 m0, .int .i64 m1, .int .i64 m2, .int .i64 m3, .int .u32 m4])] W fun e w' => e = .returned (Value.agg #[.int .i64 u0, .int .i64 u1, .int .i64 u2, .int .i64 u3, .int .u32 u4]) ∧ Below W.heap.size W w') (v0 v1 v2 v3 v4 : Int) (hSn : ∀ W, GS w0 W L X nd B [] F (V.offI l x) → Calls Tryz.prog 21 #[.pointer (some ⟨X.s, 0, none⟩), (Value.agg #[.int .i64 n0, .int .i64 n1, .int .i64 n2, .int .i64 n3, .int .u32 n4])] W fun e w' => e = .returned (Value.agg #[.int .i64 v0, .int .i64 v1, .int .i64 v2, .int .i64 v3, .int .u32 v4]) ∧ Below W.heap.size W w') (z0 z1 z2 z3 z4 : Int) (hSp : ∀ W, GS w0 W L X nd B [] F (V.offI l x) → Calls Tryz.prog 21 #[.pointer (some ⟨X.s, 0, none⟩), (Value.agg #[.int .i64 p0, .int .i64 p1, .int .i64 p2, .int .i64 p3, .int .u32 p4])] W fun e w' => e = .returned (Value.agg #[.int .i64 z0, .int .i64 z1, .int .i64 z2, .int .i64 z3, .int .u32 z4]) ∧ Below W.heap.size W w') (r0 r1 r2 r3 r4 : Int) (hS : ∀ W, GS w0 W L X nd B [] F (V.offI l x) → Calls Tryz.prog 21 #[.pointer (some ⟨X.s, 0, none⟩), (Value.agg #[.int .i64 k0, .int .i64 k1, .int .i64 k2, .int .i64 k3, .int .u32 k4])] W fun e w' => e = .returned (Value.agg #[.int .i64 r0, .int .i64 r1, .int .i64 r2, .int .i64 r3, .int .u32 r4]) ∧ Below W.heap.size W w') (oo aa bb cc : Int) (s0 s1 s2 s3 s4 : Int) (t0 t1 t2 t3 t4 : Int) (y0 y1 y2 y3 y4 : Int) (hAn : ∀ W, GS w0 W L X nd B [] F (V.offI l x) → Calls Tryz.prog 32 #[.pointer (some ⟨X.s, 0, none⟩), (Value.agg #[.int .i64 r0, .int .i64 r1, .int .i64 r2, .int .i64 r3, .int .u32 r4]), (Value.agg #[.int .u32 o, .int .u32 a, .int .u32 b, .int .u32 c, .int .i64 u0, .int .i64 u1, .int .i64 u2, .int .i64 u3, .int .u32 u4, .int .i64 v0, .int .i64 v1, .int .i64 v2, .int .i64 v3, .int .u32 v4, .int .i64 z0, .int .i64 z1, .int .i64 z2, .int .i64 z3, .int .u32 z4])] W fun e w' => e = .returned (.tuple #[(Value.agg #[.int .u32 oo, .int .u32 aa, .int .u32 bb, .int .u32 cc, .int .i64 s0, .int .i64 s1, .int .i64 s2, .int .i64 s3, .int .u32 s4, .int .i64 t0, .int .i64 t1, .int .i64 t2, .int .i64 t3, .int .u32 t4, .int .i64 y0, .int .i64 y1, .int .i64 y2, .int .i64 y3, .int .u32 y4]), .bool true]) ∧ Below W.heap.size W w') (Q : Nat → (Nat → Nat → Value) → List Int → Prop) (hT : ∀ A' W, GS w0 W L X nd B A' F (V.offI l x) → Calls Tryz.prog 33 #[.pointer (some ⟨X.s, 0, none⟩), .int .i64 x, .int .i64 how, (Value.agg #[.int .u32 oo, .int .u32 aa, .int .u32 bb, .int .u32 cc, .int .i64 s0, .int .i64 s1, .int .i64 s2, .int .i64 s3, .int .u32 s4, .int .i64 t0, .int .i64 t1, .int .i64 t2, .int .i64 t3, .int .u32 t4, .int .i64 y0, .int .i64 y1, .int .i64 y2, .int .i64 y3, .int .u32 y4])] W fun e w' => (∃ v, e = .returned v) ∧ (∃ B' F' l', Q B' F' l' ∧ GS w0 w' L X nd B' A' F' l') ∧ GK A' W w') :
    Calls Tryz.prog 12 #[.pointer (some ⟨X.s, 0, none⟩), .int .i64 x, .int .i64 how, (Value.agg #[.int .i64 k0, .int .i64 k1, .int .i64 k2, .int .i64 k3, .int .u32 k4]), (Value.agg #[.int .u32 o, .int .u32 a, .int .u32 b, .int .u32 c, .int .i64 m0, .int .i64 m1, .int .i64 m2, .int .i64 m3, .int .u32 m4, .int .i64 n0, .int .i64 n1, .int .i64 n2, .int .i64 n3, .int .u32 n4, .int .i64 p0, .int .i64 p1, .int .i64 p2, .int .i64 p3, .int .u32 p4])] w fun e w' => e = .returned (.tuple #[.agg ([.int .i64 0, .int .i64 (-1), .int .u32 oo, .int .u32 aa, .int .u32 bb, .int .u32 cc, .int .i64 s0, .int .i64 s1, .int .i64 s2, .int .i64 s3, .int .u32 s4, .int .i64 t0, .int .i64 t1, .int .i64 t2, .int .i64 t3, .int .u32 t4, .int .i64 y0, .int .i64 y1, .int .i64 y2, .int .i64 y3, .int .u32 y4] : List Value).toArray, .nilIface]) ∧ (∃ B' F' l', Q B' F' l' ∧ GS w0 w' L X nd B' A F' l') ∧ GK A w w' := by
  have HAn := Lib.hid hAn
  have HT := Lib.hid hT
  clear hAn hT
  have H := Lib.hid h
  have HOne : Hid (∀ j, j < 107 → (RW rg pc 3 ft kk wt j).oneCell' = true) := Lib.hid (fun j _ => RW_one _ _ _ _ _ _ j)
  have HOneF : Hid (∀ j, j < 107 → (F i j).oneCell' = true) := Lib.hid (by rw [hF.out]; exact HOne.out)
  have HS := Lib.hid hS
  have HM := Lib.hid hSm
  have HN2 := Lib.hid hSn
  have HP2 := Lib.hid hSp
  clear h hS hSm hSn hSp
  go_enter Tryz.func12, Tryz.ntmps12
  go_upto_region 1 with fail
  generalize hgA : World.alloc _ _ = wA; obtain ⟨KB, NB, RB, hKB, hNB, hRB⟩ : ∃ KB NB RB, KB = w.heap.size ∧ NB = w.heap.size + 1 ∧ RB = w.heap.size + 1 + 1 := ⟨_, _, _, rfl, rfl, rfl⟩; have HA : Hid (IV w0 w wA L X nd B A F l KB NB RB [.int .i64 k0, .int .i64 k1, .int .i64 k2, .int .i64 k3, .int .u32 k4] ([.int .u32 o, .int .u32 a, .int .u32 b, .int .u32 c, .int .i64 m0, .int .i64 m1, .int .i64 m2, .int .i64 m3, .int .u32 m4, .int .i64 n0, .int .i64 n1, .int .i64 n2, .int .i64 n3, .int .u32 n4, .int .i64 p0, .int .i64 p1, .int .i64 p2, .int .i64 p3, .int .u32 p4] : List Value) [.int .i64 0, .int .i64 0, .int .u32 0, .int .u32 0, .int .u32 0, .int .u32 0, .int .i64 0, .int .i64 0, .int .i64 0, .int .i64 0, .int .u32 0, .int .i64 0, .int .i64 0, .int .i64 0, .int .i64 0, .int .u32 0, .int .i64 0, .int .i64 0, .int .i64 0, .int .i64 0, .int .u32 0]) := (Lib.hid (by rw [← hgA, hKB, hNB, hRB]; exact IV.made H.out [.int .i64 k0, .int .i64 k1, .int .i64 k2, .int .i64 k3, .int .u32 k4] ([.int .u32 o, .int .u32 a, .int .u32 b, .int .u32 c, .int .i64 m0, .int .i64 m1, .int .i64 m2, .int .i64 m3, .int .u32 m4, .int .i64 n0, .int .i64 n1, .int .i64 n2, .int .i64 n3, .int .u32 n4, .int .i64 p0, .int .i64 p1, .int .i64 p2, .int .i64 p3, .int .u32 p4] : List Value) [.int .i64 0, .int .i64 0, .int .u32 0, .int .u32 0, .int .u32 0, .int .u32 0, .int .i64 0, .int .i64 0, .int .i64 0, .int .i64 0, .int .u32 0, .int .i64 0, .int .i64 0, .int .i64 0, .int .i64 0, .int .u32 0, .int .i64 0, .int .i64 0, .int .i64 0, .int .i64 0, .int .u32 0] _ _ _ rfl rfl rfl)); rw [← hRB, ← hNB, ← hKB]; clear hgA hKB hNB hRB
  have c1 := HA.out.gs.c1
  go_upto_region 2 with (first
    | (go_at_call 10; (with_reducible refine (HA.out.gs.get x i hx hi HOneF).mono ?_); rintro e w1 ⟨rfl, hb⟩; have H1 := Lib.hid (HA.out.below hb); clear hb)
    | (refine wpList_store_mid (by rfl) _ _ _ (by rfl) w1.heap.size 0 (rowL (F i)).toArray (by rfl) (by rfl) (by rw [rowL_size]; exact nthere_new _ _ 107 zsize _) (by rw [rowL_size]; exact infoDomS) (rowL_one (F i) HOneF.out) ?_))
  generalize hg : World.setCells _ w1.heap.size 0 _ = w2
  have H2 := Lib.hid (show IV w0 w w2 L X nd B A F l KB NB RB _ _ _ ∧ w2.rangeAt w1.heap.size 0 (rowL (RW rg pc 3 ft kk wt)) by rw [← hg, ← hF.out]; exact ⟨H1.out.below (nbelow_cells ((Below.refl _ _).alloc (Nat.le_refl _) _) (Nat.le_refl _) _ _), World.rangeAt_setCells_same _ _ 0 (rowL (F i)) (by rw [rowL_len]; exact nthere_new _ _ 107 zsize _)⟩)
  clear hg
  have j9 : w2.cell? ⟨w1.heap.size, 9, none⟩ = some (.int .i64 3) := rangeD H2.out.2 9 (by decide)
  have H2 := Lib.hid H2.out.1
  have c5 := H2.out.gs.c5
  go_upto_region 9 with (first
    | (go_at_call 31; (with_reducible refine (H2.out.gs.drop x hxq hl).mono ?_); rintro e w3 ⟨⟨t, rfl⟩, hg, hk⟩; have H3 := Lib.hid (H2.out.turn hg hk); clear hg hk c5 j9))
  have k1' := H3.out.kc
  go_upto_region 10 with (first
    | (refine wpList_load_mid (by rfl) _ _ (by rfl) KB 0 (by rfl) [.int .i64 k0, .int .i64 k1, .int .i64 k2, .int .i64 k3, .int .u32 k4] _ k1' Tryz.underlying31 rfl keyInfo5 ?_)
    | (go_at_call 21; (with_reducible refine (HS.out _ (H3.out.gs.sub (by simp))).mono ?_); rintro e w4 ⟨rfl, hb⟩; have H4 := Lib.hid (H3.out.below hb); clear hb k1')
    | (refine wpList_store_mid (by rfl) _ _ _ (by rfl) KB 0 #[.int .i64 r0, .int .i64 r1, .int .i64 r2, .int .i64 r3, .int .u32 r4] (by rfl) (by rfl) H4.out.kt keyInfo5 (by simp [Value.oneCell']) ?_))
  generalize hg : World.setCells w4 KB 0 _ = w5
  have H5 := Lib.hid (show IV w0 w w5 L X nd B A F (V.offI l x) KB NB RB [.int .i64 r0, .int .i64 r1, .int .i64 r2, .int .i64 r3, .int .u32 r4] _ _ by rw [← hg]; exact H4.out.putk [.int .i64 r0, .int .i64 r1, .int .i64 r2, .int .i64 r3, .int .u32 r4] rfl)
  clear hg
  have HN5 : Hid (w5.rangeAt NB 4 [.int .i64 m0, .int .i64 m1, .int .i64 m2, .int .i64 m3, .int .u32 m4, .int .i64 n0, .int .i64 n1, .int .i64 n2, .int .i64 n3, .int .u32 n4, .int .i64 p0, .int .i64 p1, .int .i64 p2, .int .i64 p3, .int .u32 p4]) := Lib.hid (fun j v hv => by
    have h := CallC.cell H5.out.nc (4 + j) v
    exact h (by
      have e : ([.int .u32 o, .int .u32 a, .int .u32 b, .int .u32 c, .int .i64 m0, .int .i64 m1, .int .i64 m2, .int .i64 m3, .int .u32 m4, .int .i64 n0, .int .i64 n1, .int .i64 n2, .int .i64 n3, .int .u32 n4, .int .i64 p0, .int .i64 p1, .int .i64 p2, .int .i64 p3, .int .u32 p4] : List Value) = [.int .u32 o, .int .u32 a, .int .u32 b, .int .u32 c] ++ [.int .i64 m0, .int .i64 m1, .int .i64 m2, .int .i64 m3, .int .u32 m4, .int .i64 n0, .int .i64 n1, .int .i64 n2, .int .i64 n3, .int .u32 n4, .int .i64 p0, .int .i64 p1, .int .i64 p2, .int .i64 p3, .int .u32 p4] := rfl
      rw [e, List.getElem?_append_right (by simp)]
      simpa using hv))
  go_wp2_with (first
    | (refine wpList_load_mid (by rfl) _ _ (by rfl) NB 4 (by rfl) [.int .i64 m0, .int .i64 m1, .int .i64 m2, .int .i64 m3, .int .u32 m4, .int .i64 n0, .int .i64 n1, .int .i64 n2, .int .i64 n3, .int .u32 n4, .int .i64 p0, .int .i64 p1, .int .i64 p2, .int .i64 p3, .int .u32 p4] _ HN5.out Tryz.underlying50 rfl (by kernel_rfl) ?_))
  refine wp_loop_rounds 4 ?_
  rw [rounds_succ]; have hix : (Instr.index 50 (.agg [.int .i64 m0, .int .i64 m1, .int .i64 m2, .int .i64 m3, .int .u32 m4, .int .i64 n0, .int .i64 n1, .int .i64 n2, .int .i64 n3, .int .u32 n4, .int .i64 p0, .int .i64 p1, .int .i64 p2, .int .i64 p3, .int .u32 p4].toArray) (.int .i64 0)).run Tryz.prog w5 = .ok (.agg (List.toArray [.int .i64 m0, .int .i64 m1, .int .i64 m2, .int .i64 m3, .int .u32 m4])) w5 := (by kernel_rfl); simp only [List.toArray] at hix; go_upto_region 13 with fail; generalize hg : World.alloc w5 _ = w6; obtain ⟨XB, hXB⟩ : ∃ XB, XB = w5.heap.size := ⟨_, rfl⟩; have H6 := Lib.hid (show IV w0 w w6 L X nd B A F (V.offI l x) KB NB RB _ _ _ ∧ w6.rangeAt XB 0 [.int .i64 m0, .int .i64 m1, .int .i64 m2, .int .i64 m3, .int .u32 m4] by rw [← hg, hXB]; exact ⟨H5.out.below ((Below.refl _ _).alloc (Nat.le_refl _) _), cbox _ [.int .i64 m0, .int .i64 m1, .int .i64 m2, .int .i64 m3, .int .u32 m4] _⟩); rw [← hXB]; clear hg hXB hix; go_upto_region 14 with (first | (refine wpList_load_mid (by rfl) _ _ (by rfl) XB 0 (by rfl) [.int .i64 m0, .int .i64 m1, .int .i64 m2, .int .i64 m3, .int .u32 m4] _ H6.out.2 Tryz.underlying31 rfl keyInfo5 ?_) | (go_at_call 21; (with_reducible refine (HM.out _ (H6.out.1.gs.sub (by simp))).mono ?_); rintro e w7 ⟨rfl, hb⟩; have H7 := Lib.hid (H6.out.1.below hb); clear hb) | (refine wpList_store_mid (by rfl) _ _ _ (by rfl) NB 4 (List.toArray [.int .i64 u0, .int .i64 u1, .int .i64 u2, .int .i64 u3, .int .u32 u4]) (by rfl) (by rfl) (fun j hj => by have hj' : j < 5 := hj; have h := H7.out.ot (4 + j) (by omega); rwa [Nat.zero_add] at h) keyInfo5 (by simp [Value.oneCell']) ?_)); generalize hg : World.setCells w7 NB 4 _ = w8; have H8 := Lib.hid (show IV w0 w w8 L X nd B A F (V.offI l x) KB NB RB _ ([.int .u32 o, .int .u32 a, .int .u32 b, .int .u32 c, .int .i64 u0, .int .i64 u1, .int .i64 u2, .int .i64 u3, .int .u32 u4, .int .i64 n0, .int .i64 n1, .int .i64 n2, .int .i64 n3, .int .u32 n4, .int .i64 p0, .int .i64 p1, .int .i64 p2, .int .i64 p3, .int .u32 p4] : List Value) _ by rw [← hg]; exact H7.out.putn 4 [.int .i64 u0, .int .i64 u1, .int .i64 u2, .int .i64 u3, .int .u32 u4] _ (range_key5 H7.out.nc 4 _ _ _ _ _)); clear hg; go_wp2_with fail
  rw [rounds_succ]; have hix : (Instr.index 50 (.agg [.int .i64 m0, .int .i64 m1, .int .i64 m2, .int .i64 m3, .int .u32 m4, .int .i64 n0, .int .i64 n1, .int .i64 n2, .int .i64 n3, .int .u32 n4, .int .i64 p0, .int .i64 p1, .int .i64 p2, .int .i64 p3, .int .u32 p4].toArray) (.int .i64 1)).run Tryz.prog w8 = .ok (.agg (List.toArray [.int .i64 n0, .int .i64 n1, .int .i64 n2, .int .i64 n3, .int .u32 n4])) w8 := (by kernel_rfl); simp only [List.toArray] at hix; go_upto_region 13 with fail; generalize hg : World.alloc w8 _ = w6; obtain ⟨XB, hXB⟩ : ∃ XB, XB = w8.heap.size := ⟨_, rfl⟩; have H6 := Lib.hid (show IV w0 w w6 L X nd B A F (V.offI l x) KB NB RB _ _ _ ∧ w6.rangeAt XB 0 [.int .i64 n0, .int .i64 n1, .int .i64 n2, .int .i64 n3, .int .u32 n4] by rw [← hg, hXB]; exact ⟨H8.out.below ((Below.refl _ _).alloc (Nat.le_refl _) _), cbox _ [.int .i64 n0, .int .i64 n1, .int .i64 n2, .int .i64 n3, .int .u32 n4] _⟩); rw [← hXB]; clear hg hXB hix; go_upto_region 14 with (first | (refine wpList_load_mid (by rfl) _ _ (by rfl) XB 0 (by rfl) [.int .i64 n0, .int .i64 n1, .int .i64 n2, .int .i64 n3, .int .u32 n4] _ H6.out.2 Tryz.underlying31 rfl keyInfo5 ?_) | (go_at_call 21; (with_reducible refine (HN2.out _ (H6.out.1.gs.sub (by simp))).mono ?_); rintro e w7 ⟨rfl, hb⟩; have H7 := Lib.hid (H6.out.1.below hb); clear hb) | (refine wpList_store_mid (by rfl) _ _ _ (by rfl) NB 9 (List.toArray [.int .i64 v0, .int .i64 v1, .int .i64 v2, .int .i64 v3, .int .u32 v4]) (by rfl) (by rfl) (fun j hj => by have hj' : j < 5 := hj; have h := H7.out.ot (9 + j) (by omega); rwa [Nat.zero_add] at h) keyInfo5 (by simp [Value.oneCell']) ?_)); generalize hg : World.setCells w7 NB 9 _ = w9; have H9 := Lib.hid (show IV w0 w w9 L X nd B A F (V.offI l x) KB NB RB _ ([.int .u32 o, .int .u32 a, .int .u32 b, .int .u32 c, .int .i64 u0, .int .i64 u1, .int .i64 u2, .int .i64 u3, .int .u32 u4, .int .i64 v0, .int .i64 v1, .int .i64 v2, .int .i64 v3, .int .u32 v4, .int .i64 p0, .int .i64 p1, .int .i64 p2, .int .i64 p3, .int .u32 p4] : List Value) _ by rw [← hg]; exact H7.out.putn 9 [.int .i64 v0, .int .i64 v1, .int .i64 v2, .int .i64 v3, .int .u32 v4] _ (range_key5 H7.out.nc 9 _ _ _ _ _)); clear hg; go_wp2_with fail
  rw [rounds_succ]; have hix : (Instr.index 50 (.agg [.int .i64 m0, .int .i64 m1, .int .i64 m2, .int .i64 m3, .int .u32 m4, .int .i64 n0, .int .i64 n1, .int .i64 n2, .int .i64 n3, .int .u32 n4, .int .i64 p0, .int .i64 p1, .int .i64 p2, .int .i64 p3, .int .u32 p4].toArray) (.int .i64 2)).run Tryz.prog w9 = .ok (.agg (List.toArray [.int .i64 p0, .int .i64 p1, .int .i64 p2, .int .i64 p3, .int .u32 p4])) w9 := (by kernel_rfl); simp only [List.toArray] at hix; go_upto_region 13 with fail; generalize hg : World.alloc w9 _ = w6; obtain ⟨XB, hXB⟩ : ∃ XB, XB = w9.heap.size := ⟨_, rfl⟩; have H6 := Lib.hid (show IV w0 w w6 L X nd B A F (V.offI l x) KB NB RB _ _ _ ∧ w6.rangeAt XB 0 [.int .i64 p0, .int .i64 p1, .int .i64 p2, .int .i64 p3, .int .u32 p4] by rw [← hg, hXB]; exact ⟨H9.out.below ((Below.refl _ _).alloc (Nat.le_refl _) _), cbox _ [.int .i64 p0, .int .i64 p1, .int .i64 p2, .int .i64 p3, .int .u32 p4] _⟩); rw [← hXB]; clear hg hXB hix; go_upto_region 14 with (first | (refine wpList_load_mid (by rfl) _ _ (by rfl) XB 0 (by rfl) [.int .i64 p0, .int .i64 p1, .int .i64 p2, .int .i64 p3, .int .u32 p4] _ H6.out.2 Tryz.underlying31 rfl keyInfo5 ?_) | (go_at_call 21; (with_reducible refine (HP2.out _ (H6.out.1.gs.sub (by simp))).mono ?_); rintro e w7 ⟨rfl, hb⟩; have H7 := Lib.hid (H6.out.1.below hb); clear hb) | (refine wpList_store_mid (by rfl) _ _ _ (by rfl) NB 14 (List.toArray [.int .i64 z0, .int .i64 z1, .int .i64 z2, .int .i64 z3, .int .u32 z4]) (by rfl) (by rfl) (fun j hj => by have hj' : j < 5 := hj; have h := H7.out.ot (14 + j) (by omega); rwa [Nat.zero_add] at h) keyInfo5 (by simp [Value.oneCell']) ?_)); generalize hg : World.setCells w7 NB 14 _ = w10; have H10 := Lib.hid (show IV w0 w w10 L X nd B A F (V.offI l x) KB NB RB _ ([.int .u32 o, .int .u32 a, .int .u32 b, .int .u32 c, .int .i64 u0, .int .i64 u1, .int .i64 u2, .int .i64 u3, .int .u32 u4, .int .i64 v0, .int .i64 v1, .int .i64 v2, .int .i64 v3, .int .u32 v4, .int .i64 z0, .int .i64 z1, .int .i64 z2, .int .i64 z3, .int .u32 z4] : List Value) _ by rw [← hg]; exact H7.out.putn 14 [.int .i64 z0, .int .i64 z1, .int .i64 z2, .int .i64 z3, .int .u32 z4] _ (range_key5 H7.out.nc 14 _ _ _ _ _)); clear hg; go_wp2_with fail
  rw [rounds_succ]
  clear H1 H2 H3 H4 H5 H6 H7 H8 H9 HA HN5
  go_upto_region 15 with fail
  have hkc := H10.out.kc
  have hnc := H10.out.nc
  have HG10 := Lib.hid (H10.out.gs.sub (A' := []) (by simp))
  go_upto_region 16 with (first
    | (refine wpList_load_mid (by rfl) _ _ (by rfl) KB 0 (by rfl) [.int .i64 r0, .int .i64 r1, .int .i64 r2, .int .i64 r3, .int .u32 r4] _ hkc Tryz.underlying31 rfl keyInfo5 ?_; clear hkc)
    | (refine wpList_load_mid (by rfl) _ _ (by rfl) NB 0 (by rfl) ([.int .u32 o, .int .u32 a, .int .u32 b, .int .u32 c, .int .i64 u0, .int .i64 u1, .int .i64 u2, .int .i64 u3, .int .u32 u4, .int .i64 v0, .int .i64 v1, .int .i64 v2, .int .i64 v3, .int .u32 v4, .int .i64 z0, .int .i64 z1, .int .i64 z2, .int .i64 z3, .int .u32 z4] : List Value) _ hnc Tryz.underlying52 rfl infoNote ?_)
    | (go_at_call 32; (with_reducible refine (HAn.out _ HG10.out).mono ?_); rintro e w11 ⟨rfl, hb⟩; have H11 := Lib.hid (H10.out.below hb); clear hb hnc)
    | (refine wpList_store_mid (by rfl) _ _ _ (by rfl) w11.heap.size 0 (([.int .u32 oo, .int .u32 aa, .int .u32 bb, .int .u32 cc, .int .i64 s0, .int .i64 s1, .int .i64 s2, .int .i64 s3, .int .u32 s4, .int .i64 t0, .int .i64 t1, .int .i64 t2, .int .i64 t3, .int .u32 t4, .int .i64 y0, .int .i64 y1, .int .i64 y2, .int .i64 y3, .int .u32 y4] : List Value) : List Value).toArray (by rfl) (by rfl) (nthere_new _ _ 19 (by rfl) _) infoNote (note_one _ _ _ _ _ _ _ _ _ _ _ _ _ _ _ _ _ _ _) ?_; generalize hg : World.setCells _ w11.heap.size 0 _ = w12))
  obtain ⟨SB, hSB⟩ : ∃ SB, SB = w11.heap.size := ⟨_, rfl⟩
  have H12 := Lib.hid (show IV w0 w w12 L X nd B A F (V.offI l x) KB NB RB _ _ _ ∧ GS w0 w12 L X nd B (SB :: RB :: NB :: KB :: A) F (V.offI l x) ∧ w12.rangeAt SB 0 ([.int .u32 oo, .int .u32 aa, .int .u32 bb, .int .u32 cc, .int .i64 s0, .int .i64 s1, .int .i64 s2, .int .i64 s3, .int .u32 s4, .int .i64 t0, .int .i64 t1, .int .i64 t2, .int .i64 t3, .int .u32 t4, .int .i64 y0, .int .i64 y1, .int .i64 y2, .int .i64 y3, .int .u32 y4] : List Value) by
    have b := nbelow_cells ((Below.refl _ _).alloc (Nat.le_refl _) _ : Below w11.heap.size w11 (w11.alloc (.cells ([.int .u32 0, .int .u32 0, .int .u32 0, .int .u32 0, .int .i64 0, .int .i64 0, .int .i64 0, .int .i64 0, .int .u32 0, .int .i64 0, .int .i64 0, .int .i64 0, .int .i64 0, .int .u32 0, .int .i64 0, .int .i64 0, .int .i64 0, .int .i64 0, .int .u32 0] : List Value).toArray 52))) (Nat.le_refl _) ([.int .u32 oo, .int .u32 aa, .int .u32 bb, .int .u32 cc, .int .i64 s0, .int .i64 s1, .int .i64 s2, .int .i64 s3, .int .u32 s4, .int .i64 t0, .int .i64 t1, .int .i64 t2, .int .i64 t3, .int .u32 t4, .int .i64 y0, .int .i64 y1, .int .i64 y2, .int .i64 y3, .int .u32 y4] : List Value) 0
    rw [← hg, hSB]
    exact ⟨H11.out.below b, H11.out.gs.more b _ (Nat.le_refl _) (by rw [heapSize]; simp), World.rangeAt_setCells_same _ _ 0 ([.int .u32 oo, .int .u32 aa, .int .u32 bb, .int .u32 cc, .int .i64 s0, .int .i64 s1, .int .i64 s2, .int .i64 s3, .int .u32 s4, .int .i64 t0, .int .i64 t1, .int .i64 t2, .int .i64 t3, .int .u32 t4, .int .i64 y0, .int .i64 y1, .int .i64 y2, .int .i64 y3, .int .u32 y4] : List Value) (nthere_new _ _ 19 (by rfl) _)⟩)
  rw [← hSB]
  clear hg hSB H10 H11 HG10
  have hsc := H12.out.2.2
  have HG12 := Lib.hid H12.out.2.1
  go_upto_region 18 with (first
    | (refine wpList_load_mid (by rfl) _ _ (by rfl) SB 0 (by rfl) ([.int .u32 oo, .int .u32 aa, .int .u32 bb, .int .u32 cc, .int .i64 s0, .int .i64 s1, .int .i64 s2, .int .i64 s3, .int .u32 s4, .int .i64 t0, .int .i64 t1, .int .i64 t2, .int .i64 t3, .int .u32 t4, .int .i64 y0, .int .i64 y1, .int .i64 y2, .int .i64 y3, .int .u32 y4] : List Value) _ hsc Tryz.underlying52 rfl infoNote ?_)
    | (go_at_call 33; (with_reducible refine (HT.out _ _ HG12.out).mono ?_); rintro e w13 ⟨⟨vT, rfl⟩, hq, hk⟩; have H13 := Lib.hid hq; have K13 := Lib.hid hk; have HN13 := Lib.hid (range_same H12.out.2.2 (hk.eq SB (by simp))); have HR13 := Lib.hid (nthere_same H12.out.1.rt (hk.eq RB (by simp))); clear hq hk hsc))
  have hsc := HN13.out
  go_wp2_with (first
    | (refine wpList_load_mid (by rfl) _ _ (by rfl) SB 0 (by rfl) ([.int .u32 oo, .int .u32 aa, .int .u32 bb, .int .u32 cc, .int .i64 s0, .int .i64 s1, .int .i64 s2, .int .i64 s3, .int .u32 s4, .int .i64 t0, .int .i64 t1, .int .i64 t2, .int .i64 t3, .int .u32 t4, .int .i64 y0, .int .i64 y1, .int .i64 y2, .int .i64 y3, .int .u32 y4] : List Value) _ hsc Tryz.underlying52 rfl infoNote ?_)
    | (refine wpList_store_mid (by rfl) _ _ _ (by rfl) RB 0 ([.int .i64 0, .int .i64 (-1), .int .u32 oo, .int .u32 aa, .int .u32 bb, .int .u32 cc, .int .i64 s0, .int .i64 s1, .int .i64 s2, .int .i64 s3, .int .u32 s4, .int .i64 t0, .int .i64 t1, .int .i64 t2, .int .i64 t3, .int .u32 t4, .int .i64 y0, .int .i64 y1, .int .i64 y2, .int .i64 y3, .int .u32 y4] : List Value).toArray (by rfl) (by rfl) HR13.out (by kernel_rfl) (by simp [Value.oneCell']) ?_; generalize hg : World.setCells _ RB 0 _ = w19))
  obtain ⟨B9, F9, l9, hQ9, hG9⟩ := H13.out
  have H19 := Lib.hid (show GS w0 w19 L X nd B9 (SB :: RB :: NB :: KB :: A) F9 l9 ∧ GK A w13 w19 ∧ w19.rangeAt RB 0 ([.int .i64 0, .int .i64 (-1), .int .u32 oo, .int .u32 aa, .int .u32 bb, .int .u32 cc, .int .i64 s0, .int .i64 s1, .int .i64 s2, .int .i64 s3, .int .u32 s4, .int .i64 t0, .int .i64 t1, .int .i64 t2, .int .i64 t3, .int .u32 t4, .int .i64 y0, .int .i64 y1, .int .i64 y2, .int .i64 y3, .int .u32 y4] : List Value) by
    have hlt := H12.out.1.lt
    have hxs := H12.out.1.xs
    have hna := H12.out.1.na
    rw [← hg]
    exact ⟨hG9.cells RB (by simp) (by omega) 0 _, GK.cells (fun hm => by have := hna _ hm; omega) _ _ _, World.rangeAt_setCells_same _ _ 0 ([.int .i64 0, .int .i64 (-1), .int .u32 oo, .int .u32 aa, .int .u32 bb, .int .u32 cc, .int .i64 s0, .int .i64 s1, .int .i64 s2, .int .i64 s3, .int .u32 s4, .int .i64 t0, .int .i64 t1, .int .i64 t2, .int .i64 t3, .int .u32 t4, .int .i64 y0, .int .i64 y1, .int .i64 y2, .int .i64 y3, .int .u32 y4] : List Value) HR13.out⟩)
  clear hg hG9
  go_wp2_with fail
  have hld := run_loadVar_mid (P := Tryz.prog) w19 RB 0 54 ([.int .i64 0, .int .i64 (-1), .int .u32 oo, .int .u32 aa, .int .u32 bb, .int .u32 cc, .int .i64 s0, .int .i64 s1, .int .i64 s2, .int .i64 s3, .int .u32 s4, .int .i64 t0, .int .i64 t1, .int .i64 t2, .int .i64 t3, .int .u32 t4, .int .i64 y0, .int .i64 y1, .int .i64 y2, .int .i64 y3, .int .u32 y4] : List Value) _ H19.out.2.2 Tryz.underlying54 rfl (by kernel_rfl)
  (try simp only [Exit.inBlock, Exit.then])
  exact bodyPost_ret (results_cell_tmp (a := 10) (t := 11) (by rfl) _ ⟨RB, 0, none⟩ (by rfl) _ _ _ hld) rfl ⟨rfl, ⟨B9, F9, l9, hQ9, H19.out.1.tail.tail.tail.tail⟩, H12.out.1.gk.trans (K13.out.tail.tail.tail.tail.trans H19.out.2.1)⟩
end
end Go.Proofs.YtllcakiomihipaaGreatDoor
namespace Go.Proofs.YtllcakiomihipaaGreatDoor
open Go.ChangeShapes Go.WideShapes Go.ChangeAt Go.RowKit
set_option linter.unusedVariables false
set_option linter.unusedSimpArgs false
theorem KeyC.sameg {w w' : World} {b : Nat} {k0 k1 k2 k3 k4 : Int} (h : KeyC w b k0 k1 k2 k3 k4) (hb : w'.heap[b]? = w.heap[b]?) (hs : w.heap.size ≤ w'.heap.size) : KeyC w' b k0 k1 k2 k3 k4 :=
  ⟨Nat.lt_of_lt_of_le h.lt hs, (World.cell?_of_block (a := ⟨b, 0, none⟩) hb).trans h.c0, (World.cell?_of_block (a := ⟨b, 1, none⟩) hb).trans h.c1, (World.cell?_of_block (a := ⟨b, 2, none⟩) hb).trans h.c2, (World.cell?_of_block (a := ⟨b, 3, none⟩) hb).trans h.c3, (World.cell?_of_block (a := ⟨b, 4, none⟩) hb).trans h.c4, fun j => (World.frozen?_of_block (a := ⟨b, j, none⟩) hb).trans (h.fr j)⟩
section
variable {cs : List Value} {s : Nat} {k0 k1 k2 k3 k4 o x : Int}
set_option maxRecDepth 100000 in
set_option maxHeartbeats 400000 in
theorem cnumber_0 (hc : Hid (CallC cs s k0 k1 k2 k3 k4 0 x)) (w : World) : Calls Tryz.prog 88 #[(.agg cs.toArray)] w fun e w' => e = .returned (Value.agg #[.int .u32 0, .int .u32 k4, .int .u32 0, .int .u32 0, .int .i64 0, .int .i64 0, .int .i64 0, .int .i64 0, .int .u32 0, .int .i64 0, .int .i64 0, .int .i64 0, .int .i64 0, .int .u32 0, .int .i64 0, .int .i64 0, .int .i64 0, .int .i64 0, .int .u32 0]) ∧ Below w.heap.size w w' := by
  go_enter Tryz.func88, Tryz.ntmps88; go_upto_region 1 with fail; generalize hA : World.alloc w _ = wK; obtain ⟨C, hC⟩ : ∃ C, C = w.heap.size := ⟨_, rfl⟩; have HK : Hid (Below w.heap.size w wK ∧ wK.rangeAt C 0 cs ∧ wK.heap.size = C + 1) := Lib.hid (by rw [← hA, hC]; exact ⟨(Below.refl _ _).alloc (Nat.le_refl _) _, cbox _ _ _, by simp⟩); have HCl : Hid (w.heap.size ≤ C) := Lib.hid (by rw [hC]; exact Nat.le_refl _); rw [← hC]; clear hA hC; generalize hA : World.alloc wK _ = wA; obtain ⟨R, hR⟩ : ∃ R, R = C + 1 := ⟨_, rfl⟩; have HA : Hid (Below w.heap.size w wA ∧ wA.rangeAt C 0 cs ∧ World.there wA R 0 19 ∧ C < R ∧ R < wA.heap.size) := Lib.hid (by rw [← hA, hR, ← HK.out.2.2]; exact ⟨HK.out.1.alloc HK.out.1.size _, range_below HK.out.2.1 ((Below.refl _ _).alloc (Nat.le_refl _) _) (by have := HK.out.2.2; omega), nthere_new _ _ 19 (by rfl) _, by have := HK.out.2.2; omega, by simp⟩); rw [← hR]; clear hA hR
  have q6 := CallC.cell HA.out.2.1 6 _ hc.out.c6
  have q5 := CallC.cell HA.out.2.1 5 _ hc.out.c5
  go_wp2_with (first | (go_at_call 115; (with_reducible refine (owords_one k4 wA.heap.size 1 _ (by simp)).mono ?_); rintro e w2 ⟨rfl, hb⟩; have HB2 : Hid (Below wA.heap.size wA w2) := Lib.hid (((Below.refl wA.heap.size wA).alloc (Nat.le_refl _) _).trans (hb.mono (by simp))); have HT2 := Lib.hid (nthere_below HA.out.2.2.1 HB2.out HA.out.2.2.2.2); clear hb) | (refine wpList_store_mid (by rfl) _ _ _ (by rfl) R 0 ([.int .u32 0, .int .u32 k4, .int .u32 0, .int .u32 0, .int .i64 0, .int .i64 0, .int .i64 0, .int .i64 0, .int .u32 0, .int .i64 0, .int .i64 0, .int .i64 0, .int .i64 0, .int .u32 0, .int .i64 0, .int .i64 0, .int .i64 0, .int .i64 0, .int .u32 0] : List Value).toArray (by rfl) (by rfl) HT2.out infoNote (note_one _ _ _ _ _ _ _ _ _ _ _ _ _ _ _ _ _ _ _) ?_))
  have hRn : w.heap.size ≤ R := (by have := HA.out.2.2.2.1; have := HCl.out; omega); generalize hS : World.setCells w2 _ _ _ = wS; have HS : Hid (Below w.heap.size w wS ∧ wS.rangeAt R 0 [.int .u32 0, .int .u32 k4, .int .u32 0, .int .u32 0, .int .i64 0, .int .i64 0, .int .i64 0, .int .i64 0, .int .u32 0, .int .i64 0, .int .i64 0, .int .i64 0, .int .i64 0, .int .u32 0, .int .i64 0, .int .i64 0, .int .i64 0, .int .i64 0, .int .u32 0]) := Lib.hid (by rw [← hS]; exact ⟨nbelow_cells (HA.out.1.trans (HB2.out.mono HA.out.1.size)) hRn _ _, World.rangeAt_setCells_same w2 R 0 [.int .u32 0, .int .u32 k4, .int .u32 0, .int .u32 0, .int .i64 0, .int .i64 0, .int .i64 0, .int .i64 0, .int .u32 0, .int .i64 0, .int .i64 0, .int .i64 0, .int .i64 0, .int .u32 0, .int .i64 0, .int .i64 0, .int .i64 0, .int .i64 0, .int .u32 0] HT2.out⟩); have hld := nload rfl HS.out.2; refine bodyPost_ret (v := (Value.agg #[.int .u32 0, .int .u32 k4, .int .u32 0, .int .u32 0, .int .i64 0, .int .i64 0, .int .i64 0, .int .i64 0, .int .u32 0, .int .i64 0, .int .i64 0, .int .i64 0, .int .i64 0, .int .u32 0, .int .i64 0, .int .i64 0, .int .i64 0, .int .i64 0, .int .u32 0])) (by simp [results, Tryz.results88, Act.put, asAddr, hld]) rfl ⟨rfl, HS.out.1⟩
end
section
variable {w0 w w' W : World} {L : BLoc} {X : SLoc} {nd B : Nat} {A : List Nat} {F : Nat → Nat → Value} {l : List Int}
theorem ans_gen2 {nt : List Value} (hnl : nt.length = 19) (hn1 : ∀ v, v ∈ nt → v.oneCell' = true) (s : Nat) (k0 k1 k2 k3 k4 : Int) (h5 : (k0 == 5) = false) (h6 : (k0 == 6) = false) (vs vr : Value) (w : World) (hE : ErrsAt vs vr w)
    (hs : ∀ W, Below w.heap.size w W → Calls Tryz.prog 21 #[.pointer (some ⟨s, 0, none⟩), (Value.agg #[.int .i64 k0, .int .i64 k1, .int .i64 k2, .int .i64 k3, .int .u32 k4])] W fun e w' => e = .returned (Value.agg #[.int .i64 k0, .int .i64 k1, .int .i64 k2, .int .i64 k3, .int .u32 k4]) ∧ Below W.heap.size W w')
    (ha : ∀ cs, Hid (CallC cs s k0 k1 k2 k3 k4 0 0) → ∀ W, Below w.heap.size w W → Calls Tryz.prog 60 #[(.agg cs.toArray)] W fun e w' => e = .returned (.agg nt.toArray) ∧ Below W.heap.size W w') :
    Calls Tryz.prog 32 #[.pointer (some ⟨s, 0, none⟩), (Value.agg #[.int .i64 k0, .int .i64 k1, .int .i64 k2, .int .i64 k3, .int .u32 k4]), (Value.agg #[.int .u32 0, .int .u32 0, .int .u32 0, .int .u32 0, .int .i64 0, .int .i64 0, .int .i64 0, .int .i64 0, .int .u32 0, .int .i64 0, .int .i64 0, .int .i64 0, .int .i64 0, .int .u32 0, .int .i64 0, .int .i64 0, .int .i64 0, .int .i64 0, .int .u32 0])] w fun e w' => e = .returned (.tuple #[.agg nt.toArray, .bool true]) ∧ Below w.heap.size w w' := by
  refine (oanswer (Q := fun w' => Below w.heap.size w w') (N := w.heap.size) hnl hn1 s k0 k1 k2 k3 k4 k0 k1 k2 k3 k4 0 0 0 0 0 0 0 0 0 0 0 0 0 0 0 0 0 0 0 0 0 0 0 0 0 0 0 0 0 0 0 0 0 0 h5 h6 w (Nat.le_refl _) (fun w1 w2 h1 h2 => h1.trans h2) hs ?_ ?_ ?_ ?_).mono (fun e w' h9 => ⟨h9.1, h9.2.1⟩)
  · exact fun V hV => oseen_void s vs vr V (hE.below hV)
  · exact fun V hV => oseen_void s vs vr V (hE.below hV)
  · exact fun V hV => oseen_void s vs vr V (hE.below hV)
  · exact fun V hV => (ha _ (Lib.hid (c25_call s k0 k1 k2 k3 k4 0 0 0 0 0 0 0 0 0 0 0 0 0 0 0 0 0 0 0)) V hV).mono (fun e w' h9 => ⟨h9.1, hV.trans (h9.2.mono hV.size), UpT.below h9.2⟩)
theorem nwc_len (a b c d : Int) : ([.int .u32 a, .int .u32 b, .int .u32 c, .int .u32 d, .int .i64 0, .int .i64 0, .int .i64 0, .int .i64 0, .int .u32 0, .int .i64 0, .int .i64 0, .int .i64 0, .int .i64 0, .int .u32 0, .int .i64 0, .int .i64 0, .int .i64 0, .int .i64 0, .int .u32 0] : List Value).length = 19 := rfl
theorem nwc_one (a b c d : Int) : ∀ v, v ∈ ([.int .u32 a, .int .u32 b, .int .u32 c, .int .u32 d, .int .i64 0, .int .i64 0, .int .i64 0, .int .i64 0, .int .u32 0, .int .i64 0, .int .i64 0, .int .i64 0, .int .i64 0, .int .u32 0, .int .i64 0, .int .i64 0, .int .i64 0, .int .i64 0, .int .u32 0] : List Value) → v.oneCell' = true :=
  fun v hv => List.all_eq_true.1 (show ([.int .u32 a, .int .u32 b, .int .u32 c, .int .u32 d, .int .i64 0, .int .i64 0, .int .i64 0, .int .i64 0, .int .u32 0, .int .i64 0, .int .i64 0, .int .i64 0, .int .i64 0, .int .u32 0, .int .i64 0, .int .i64 0, .int .i64 0, .int .i64 0, .int .u32 0] : List Value).all (·.oneCell') = true by simp [Value.oneCell']) v hv
theorem ga_number (k4 : Int) (hr : rightB 1 0 0 0 k4 = true) (h : GS w0 w L X nd B A F l) (vs vr : Value) (hE : ErrsAt vs vr w0) : Calls Tryz.prog 32 #[.pointer (some ⟨X.s, 0, none⟩), (Value.agg #[.int .i64 1, .int .i64 0, .int .i64 0, .int .i64 0, .int .u32 k4]), (Value.agg #[.int .u32 0, .int .u32 0, .int .u32 0, .int .u32 0, .int .i64 0, .int .i64 0, .int .i64 0, .int .i64 0, .int .u32 0, .int .i64 0, .int .i64 0, .int .i64 0, .int .i64 0, .int .u32 0, .int .i64 0, .int .i64 0, .int .i64 0, .int .i64 0, .int .u32 0])] w fun e w' => e = .returned (.tuple #[(Value.agg #[.int .u32 0, .int .u32 k4, .int .u32 0, .int .u32 0, .int .i64 0, .int .i64 0, .int .i64 0, .int .i64 0, .int .u32 0, .int .i64 0, .int .i64 0, .int .i64 0, .int .i64 0, .int .u32 0, .int .i64 0, .int .i64 0, .int .i64 0, .int .i64 0, .int .u32 0]), .bool true]) ∧ Below w.heap.size w w' :=
  ans_gen2 (nt := [.int .u32 0, .int .u32 k4, .int .u32 0, .int .u32 0, .int .i64 0, .int .i64 0, .int .i64 0, .int .i64 0, .int .u32 0, .int .i64 0, .int .i64 0, .int .i64 0, .int .i64 0, .int .u32 0, .int .i64 0, .int .i64 0, .int .i64 0, .int .i64 0, .int .u32 0]) (nwc_len _ _ _ _) (nwc_one _ _ _ _) X.s 1 0 0 0 k4 (by decide) (by decide) vs vr w (h.errs hE) (fun W hW => oseen_live 1 0 0 0 k4 W (fun V hV => nvalid_ok 1 0 0 0 k4 (Lib.hid hr) vs vr V ((h.errs hE).below (hW.trans (hV.mono hW.size)))) (fun V hV => slive_plain X.s 1 0 0 0 k4 (by decide) V))
    (fun cs hc W hW => (oanswer_number (Q := fun w' => Below W.heap.size W w') (nwc_len 0 k4 0 0) (nwc_one 0 k4 0 0) hc W (Nat.le_refl _) (fun w1 w2 h1 h2 => h1.trans h2) (fun V hV => (cnumber_0 hc V).mono (fun e w' h9 => ⟨h9.1, hV.trans (h9.2.mono hV.size), UpT.below h9.2⟩))).mono (fun e w' h9 => ⟨h9.1, h9.2.1⟩))
theorem GS.c8 (h : GS w0 w L X nd B A F l) : w.cell? ⟨X.s, 8, none⟩ = some (.int .i64 0) := by obtain ⟨D, h1, _⟩ := h.sj; exact h1.b.c8
/-- The key that starts a domain. -/
theorem GS.door (h : GS w0 w L X nd B A F l) (x : Int) (i : Nat) (hx : Hid (x = (i : Int))) (hi : i < nd) (d : Int) (hd : d ≤ 536870911) : Calls Tryz.prog 15 #[.pointer (some ⟨L.dP, 0, none⟩), .int .i64 x, .int .u32 d] w fun e w' => e = .returned (Value.agg #[.int .i64 5, .int .i64 x, .int .i64 0, .int .i64 0, .int .u32 d]) ∧ Below w.heap.size w w' := by
  obtain ⟨D, h1, h2⟩ := h.sj
  have hn := h.nn
  exact ddoor_of x d 5 x 0 0 d w (fun W hW => dkeyof_in 5 x d i hx (by omega) (Lib.hid (by rw [h2.dt]; exact decide_eq_true hi)) hd 0 (Lib.hid (by rw [h2.dv])) W (h1.below hW).k.d)
theorem GS.seen_start (h : GS w0 w L X nd B A F l) (x : Int) (i : Nat) (hx : Hid (x = (i : Int))) (hi : i < nd) (d : Int) (hr : rightB 5 x 0 0 d = true) (vs vr : Value) (hE : ErrsAt vs vr w0) : Calls Tryz.prog 21 #[.pointer (some ⟨X.s, 0, none⟩), (Value.agg #[.int .i64 5, .int .i64 x, .int .i64 0, .int .i64 0, .int .u32 d])] w fun e w' => e = .returned (Value.agg #[.int .i64 5, .int .i64 x, .int .i64 0, .int .i64 0, .int .u32 d]) ∧ Below w.heap.size w w' := by
  refine oseen_live 5 x 0 0 d w (fun V hV => nvalid_ok 5 x 0 0 d (Lib.hid hr) vs vr V ((h.errs hE).below hV)) (fun V hV => ?_)
  obtain ⟨D, h1, h2⟩ := (h.below hV).sj
  have hn := h.nn
  exact slive_start x 0 0 d L.dp L.dR L.dn L.dc L.dB D.dt D.dv true (Lib.hid (by rw [h2.dt, h2.dv, hx.out]; simp [thereB, thN]; omega)) V h1.b h1.k.d.pl.f0 h1.k.d.pl.ar
end
end Go.Proofs.YtllcakiomihipaaGreatDoor
namespace Go.Proofs.YtllcakiomihipaaGreatDoor
open Go.ChangeShapes Go.WideShapes Go.ChangeAt Go.RowKit
set_option linter.unusedVariables false
set_option linter.unusedSimpArgs false
set_option maxRecDepth 100000 in
set_option maxHeartbeats 4000000 in
theorem oanswer_no (s : Nat) (k0 k1 k2 k3 k4 : Int) (r0 r1 r2 r3 r4 : Int) (o a b c : Int) (m0 m1 m2 m3 m4 : Int) (n0 n1 n2 n3 n4 : Int) (p0 p1 p2 p3 p4 : Int) (x0 x1 x2 x3 x4 : Int) (y0 y1 y2 y3 y4 : Int) (z0 z1 z2 z3 z4 : Int) (h5 : r0 = 5) (w : World)
    (hk : (∀ W, Below w.heap.size w W → Calls Tryz.prog 21 #[.pointer (some ⟨s, 0, none⟩), (Value.agg #[.int .i64 k0, .int .i64 k1, .int .i64 k2, .int .i64 k3, .int .u32 k4])] W fun e w' => e = .returned (Value.agg #[.int .i64 r0, .int .i64 r1, .int .i64 r2, .int .i64 r3, .int .u32 r4]) ∧ Below W.heap.size W w')) (hm : (∀ W, Below w.heap.size w W → Calls Tryz.prog 21 #[.pointer (some ⟨s, 0, none⟩), (Value.agg #[.int .i64 m0, .int .i64 m1, .int .i64 m2, .int .i64 m3, .int .u32 m4])] W fun e w' => e = .returned (Value.agg #[.int .i64 x0, .int .i64 x1, .int .i64 x2, .int .i64 x3, .int .u32 x4]) ∧ Below W.heap.size W w')) (hn : (∀ W, Below w.heap.size w W → Calls Tryz.prog 21 #[.pointer (some ⟨s, 0, none⟩), (Value.agg #[.int .i64 n0, .int .i64 n1, .int .i64 n2, .int .i64 n3, .int .u32 n4])] W fun e w' => e = .returned (Value.agg #[.int .i64 y0, .int .i64 y1, .int .i64 y2, .int .i64 y3, .int .u32 y4]) ∧ Below W.heap.size W w')) (hp : (∀ W, Below w.heap.size w W → Calls Tryz.prog 21 #[.pointer (some ⟨s, 0, none⟩), (Value.agg #[.int .i64 p0, .int .i64 p1, .int .i64 p2, .int .i64 p3, .int .u32 p4])] W fun e w' => e = .returned (Value.agg #[.int .i64 z0, .int .i64 z1, .int .i64 z2, .int .i64 z3, .int .u32 z4]) ∧ Below W.heap.size W w')) :
    Calls Tryz.prog 32 #[.pointer (some ⟨s, 0, none⟩), (Value.agg #[.int .i64 k0, .int .i64 k1, .int .i64 k2, .int .i64 k3, .int .u32 k4]), (Value.agg #[.int .u32 o, .int .u32 a, .int .u32 b, .int .u32 c, .int .i64 m0, .int .i64 m1, .int .i64 m2, .int .i64 m3, .int .u32 m4, .int .i64 n0, .int .i64 n1, .int .i64 n2, .int .i64 n3, .int .u32 n4, .int .i64 p0, .int .i64 p1, .int .i64 p2, .int .i64 p3, .int .u32 p4])] w fun e w' => e = .returned (.tuple #[(Value.agg #[.int .u32 0, .int .u32 0, .int .u32 0, .int .u32 0, .int .i64 0, .int .i64 0, .int .i64 0, .int .i64 0, .int .u32 0, .int .i64 0, .int .i64 0, .int .i64 0, .int .i64 0, .int .u32 0, .int .i64 0, .int .i64 0, .int .i64 0, .int .i64 0, .int .u32 0]), .bool false]) ∧ Below w.heap.size w w' := by
  have e5 : (r0 == 5) = true := (by rw [h5]; rfl)
  clear h5
  have HSk := Lib.hid hk
  have HSm := Lib.hid hm
  have HSn := Lib.hid hn
  have HSp := Lib.hid hp
  clear hk hm hn hp
  go_enter Tryz.func32, Tryz.ntmps32
  go_upto_region 1 with fail
  generalize hA : World.alloc w _ = wa
  obtain ⟨KB, hKB⟩ : ∃ KB, KB = w.heap.size := ⟨_, rfl⟩
  have HK : Hid (Below w.heap.size w wa ∧ KeyC wa KB k0 k1 k2 k3 k4 ∧ wa.heap.size = KB + 1 ∧ w.heap.size ≤ KB) := Lib.hid (by rw [← hA, hKB]; exact ⟨(Below.refl _ _).alloc (Nat.le_refl _) _, KeyC.new w k0 k1 k2 k3 k4 _, by simp, Nat.le_refl _⟩)
  rw [← hKB]
  clear hA hKB
  generalize hA : World.alloc wa _ = wb
  obtain ⟨J, hJ⟩ : ∃ J, J = KB + 1 := ⟨_, rfl⟩
  have HJ : Hid (Below w.heap.size w wb ∧ KeyC wb KB k0 k1 k2 k3 k4 ∧ wb.rangeAt J 0 ([.int .u32 o, .int .u32 a, .int .u32 b, .int .u32 c, .int .i64 m0, .int .i64 m1, .int .i64 m2, .int .i64 m3, .int .u32 m4, .int .i64 n0, .int .i64 n1, .int .i64 n2, .int .i64 n3, .int .u32 n4, .int .i64 p0, .int .i64 p1, .int .i64 p2, .int .i64 p3, .int .u32 p4] : List Value) ∧ wb.heap.size = J + 1 ∧ w.heap.size ≤ J) := Lib.hid (by rw [← hA, hJ, ← HK.out.2.2.1]; exact ⟨HK.out.1.alloc HK.out.1.size _, HK.out.2.1.below ((Below.refl _ _).alloc (Nat.le_refl _) _), cbox _ _ _, by simp, HK.out.1.size⟩)
  rw [← hJ]
  clear hA hJ
  generalize hA : World.alloc wb _ = wd
  obtain ⟨R, hR⟩ : ∃ R, R = J + 1 := ⟨_, rfl⟩
  have HR : Hid (Below w.heap.size w wd ∧ KeyC wd KB k0 k1 k2 k3 k4 ∧ wd.rangeAt J 0 ([.int .u32 o, .int .u32 a, .int .u32 b, .int .u32 c, .int .i64 m0, .int .i64 m1, .int .i64 m2, .int .i64 m3, .int .u32 m4, .int .i64 n0, .int .i64 n1, .int .i64 n2, .int .i64 n3, .int .u32 n4, .int .i64 p0, .int .i64 p1, .int .i64 p2, .int .i64 p3, .int .u32 p4] : List Value) ∧ World.there wd R 0 19 ∧ J < R ∧ R < wd.heap.size ∧ w.heap.size ≤ R) := Lib.hid (by rw [← hA, hR, ← HJ.out.2.2.2.1]; exact ⟨HJ.out.1.alloc HJ.out.1.size _, HJ.out.2.1.below ((Below.refl _ _).alloc (Nat.le_refl _) _), range_below HJ.out.2.2.1 ((Below.refl _ _).alloc (Nat.le_refl _) _) (by have := HJ.out.2.2.2.1; omega), nthere_new _ _ 19 (by rfl) _, by have := HJ.out.2.2.2.1; omega, by simp, HJ.out.1.size⟩)
  rw [← hR]
  clear hA hR
  go_cut [8] (fun u wx => ∃ C, u = .pointer (some ⟨C, 0, none⟩) ∧ Below wd.heap.size wd wx ∧ wx.rangeAt C 0 ([.pointer (some ⟨s, 0, none⟩), .int .i64 r0, .int .i64 r1, .int .i64 r2, .int .i64 r3, .int .u32 r4, .int .u32 o, .int .u32 a, .int .u32 b, .int .u32 c, .int .i64 m0, .int .i64 m1, .int .i64 m2, .int .i64 m3, .int .u32 m4, .int .i64 n0, .int .i64 n1, .int .i64 n2, .int .i64 n3, .int .u32 n4, .int .i64 p0, .int .i64 p1, .int .i64 p2, .int .i64 p3, .int .u32 p4] : List Value) ∧ World.there wx C 0 25 ∧ wd.heap.size ≤ C ∧ C < wx.heap.size)
  case first =>
    obtain ⟨wD, hwD⟩ : ∃ wD, wD = wd.drew := ⟨_, rfl⟩
    have HBd : Hid (Below wd.heap.size wd wD) := Lib.hid (by rw [hwD]; exact (Below.refl _ _).drew)
    have HS1 : Hid (∀ W, Below wd.heap.size wd W → ((World.cell? W ⟨KB, 0, none⟩ = some (.int .i64 k0) ∧ World.cell? W ⟨KB, 1, none⟩ = some (.int .i64 k1) ∧ World.cell? W ⟨KB, 2, none⟩ = some (.int .i64 k2) ∧ World.cell? W ⟨KB, 3, none⟩ = some (.int .i64 k3) ∧ World.cell? W ⟨KB, 4, none⟩ = some (.int .u32 k4)) ∧ World.rangeAt W J 0 ([.int .u32 o, .int .u32 a, .int .u32 b, .int .u32 c, .int .i64 m0, .int .i64 m1, .int .i64 m2, .int .i64 m3, .int .u32 m4, .int .i64 n0, .int .i64 n1, .int .i64 n2, .int .i64 n3, .int .u32 n4, .int .i64 p0, .int .i64 p1, .int .i64 p2, .int .i64 p3, .int .u32 p4] : List Value))) := Lib.hid (fun W hW => ⟨ofive (HR.out.2.1.below hW), range_below HR.out.2.2.1 hW (Nat.lt_trans HR.out.2.2.2.2.1 HR.out.2.2.2.2.2.1)⟩)
    refine wp_region_noPanic ?_
    refine wp_region_held_drew (S := fun w' => ((World.cell? w' ⟨KB, 0, none⟩ = some (.int .i64 k0) ∧ World.cell? w' ⟨KB, 1, none⟩ = some (.int .i64 k1) ∧ World.cell? w' ⟨KB, 2, none⟩ = some (.int .i64 k2) ∧ World.cell? w' ⟨KB, 3, none⟩ = some (.int .i64 k3) ∧ World.cell? w' ⟨KB, 4, none⟩ = some (.int .u32 k4)) ∧ World.rangeAt w' J 0 ([.int .u32 o, .int .u32 a, .int .u32 b, .int .u32 c, .int .i64 m0, .int .i64 m1, .int .i64 m2, .int .i64 m3, .int .u32 m4, .int .i64 n0, .int .i64 n1, .int .i64 n2, .int .i64 n3, .int .u32 n4, .int .i64 p0, .int .i64 p1, .int .i64 p2, .int .i64 p3, .int .u32 p4] : List Value))) (by kernel_rfl) (by rw [← hwD]; exact HS1.out _ HBd.out) (fun hHeld => ?_)
    rw [← hwD] at hHeld ⊢
    clear hwD
    refine wpAnyH_take (i := 0) (v := ?_) (by rfl) (by kernel_rfl) (by kernel_rfl) (by kernel_rfl) (fun _ _ _ h => h) (Or.inl ⟨by kernel_rfl, ?_⟩) (by assumption) ?_; rotate_left 1; (focus (intro w hSw; (try dsimp only at hSw); simp only [List.getElem_toArray, List.getElem_cons_succ, List.getElem_cons_zero]; all_goals go_simp; all_goals (try with_reducible rfl))); (try simp only [Act.put, List.getElem_toArray, List.getElem_cons_succ, List.getElem_cons_zero, List.setIfInBounds_toArray, List.set_cons_zero, List.set_cons_succ])
    refine wpAnyH_take (i := 1) (v := ?_) (by rfl) (by kernel_rfl) (by kernel_rfl) (by kernel_rfl) (fun _ _ _ h => h) (Or.inl ⟨by kernel_rfl, ?_⟩) (by assumption) ?_; rotate_left 1; (focus (intro w hSw; (try dsimp only at hSw); simp only [List.getElem_toArray, List.getElem_cons_succ, List.getElem_cons_zero]; all_goals go_simp; all_goals (try with_reducible rfl))); (try simp only [Act.put, List.getElem_toArray, List.getElem_cons_succ, List.getElem_cons_zero, List.setIfInBounds_toArray, List.set_cons_zero, List.set_cons_succ])
    refine wpAnyH_take (i := 2) (v := ?_) (by rfl) (by kernel_rfl) (by kernel_rfl) (by kernel_rfl) (fun _ _ _ h => h) (Or.inl ⟨by kernel_rfl, ?_⟩) (by assumption) ?_; rotate_left 1; (focus (intro w hSw; (try dsimp only at hSw); simp only [List.getElem_toArray, List.getElem_cons_succ, List.getElem_cons_zero]; all_goals go_simp; all_goals (try with_reducible rfl))); (try simp only [Act.put, List.getElem_toArray, List.getElem_cons_succ, List.getElem_cons_zero, List.setIfInBounds_toArray, List.set_cons_zero, List.set_cons_succ])
    refine wpAnyH_take (i := 4) (v := (Value.agg #[.int .u32 o, .int .u32 a, .int .u32 b, .int .u32 c, .int .i64 m0, .int .i64 m1, .int .i64 m2, .int .i64 m3, .int .u32 m4, .int .i64 n0, .int .i64 n1, .int .i64 n2, .int .i64 n3, .int .u32 n4, .int .i64 p0, .int .i64 p1, .int .i64 p2, .int .i64 p3, .int .u32 p4])) (by rfl) (by kernel_rfl) (by kernel_rfl) (by kernel_rfl) (fun _ _ _ h => h) (Or.inl ⟨by kernel_rfl, ?_⟩) (by assumption) ?_
    focus
      intro w hSw
      exact nload_exec (Operand.tmp 5) (by rfl) (by rfl) (by rfl) hSw.2
    (try simp only [Act.put, List.getElem_toArray, List.getElem_cons_succ, List.getElem_cons_zero, List.setIfInBounds_toArray, List.set_cons_zero, List.set_cons_succ])
    refine wpAnyH_ready (rs := [3, 6]) (by kernel_rfl) (by simp) ?_
    refine AllReadyH.cons (by rfl) (fun K1 hK => ?_) (AllReadyH.cons (by rfl) (fun K1 hK => ?_) AllReadyH.nil)
    · rw [if_pos (by kernel_rfl)]; simp only [List.getElem_toArray, List.getElem_cons_succ, List.getElem_cons_zero]
      go_wp2_with (first | (go_at_call 21; (with_reducible refine (HSk.out _ (HR.out.1.trans (HBd.out.mono HR.out.1.size))).mono ?_); rintro e w2 ⟨rfl, hb⟩; have HB2 := Lib.hid (HBd.out.trans (hb.mono HBd.out.size)); clear hb))
      refine hK.out _ _ (HS1.out _ HB2.out) (fun hHeld => ?_)
      clear hK K1
      (try simp only [Act.put, List.getElem_toArray, List.getElem_cons_succ, List.getElem_cons_zero, List.setIfInBounds_toArray, List.set_cons_zero, List.set_cons_succ])
      refine wpAnyH_take (i := 5) (v := ?_) (by rfl) (by kernel_rfl) (by kernel_rfl) (by kernel_rfl) (fun _ _ _ h => h) (Or.inl ⟨by kernel_rfl, ?_⟩) (by assumption) ?_; rotate_left 1; (focus (intro w hSw; (try dsimp only at hSw); simp only [List.getElem_toArray, List.getElem_cons_succ, List.getElem_cons_zero]; all_goals go_simp; all_goals (try with_reducible rfl))); (try simp only [Act.put, List.getElem_toArray, List.getElem_cons_succ, List.getElem_cons_zero, List.setIfInBounds_toArray, List.set_cons_zero, List.set_cons_succ])
      refine wpAnyH_ready (rs := [6]) (by kernel_rfl) (by simp) ?_; refine AllReadyH.cons (by rfl) (fun K hK => ?_) AllReadyH.nil; rw [if_pos (by kernel_rfl)]; simp only [List.getElem_toArray, List.getElem_cons_succ, List.getElem_cons_zero]
      go_wp2_with fail
      generalize hE : World.alloc w2 _ = wE
      obtain ⟨C, hC⟩ : ∃ C, C = w2.heap.size := ⟨_, rfl⟩
      have HE : Hid (Below wd.heap.size wd wE ∧ World.there wE C 0 25 ∧ wd.heap.size ≤ C ∧ C < wE.heap.size) := Lib.hid (by rw [← hE, hC]; exact ⟨HB2.out.alloc HB2.out.size _, nthere_new _ _ 25 (by rfl) _, HB2.out.size, by simp⟩)
      rw [← hC]
      clear hE hC
      refine hK.out _ _ (HS1.out _ HE.out.1) (fun hHeld => ?_)
      clear hK K
      (try simp only [Act.put, List.getElem_toArray, List.getElem_cons_succ, List.getElem_cons_zero, List.setIfInBounds_toArray, List.set_cons_zero, List.set_cons_succ])
      refine wpAnyH_ready (rs := [7]) (by kernel_rfl) (by simp) ?_; refine AllReadyH.cons (by rfl) (fun K hK => ?_) AllReadyH.nil; rw [if_pos (by kernel_rfl)]; simp only [List.getElem_toArray, List.getElem_cons_succ, List.getElem_cons_zero]
      refine wp_store_mid 142 (Operand.tmp 8) (Operand.tmp 16) (by rfl) C 0 ([.pointer (some ⟨s, 0, none⟩), .int .i64 r0, .int .i64 r1, .int .i64 r2, .int .i64 r3, .int .u32 r4, .int .u32 o, .int .u32 a, .int .u32 b, .int .u32 c, .int .i64 m0, .int .i64 m1, .int .i64 m2, .int .i64 m3, .int .u32 m4, .int .i64 n0, .int .i64 n1, .int .i64 n2, .int .i64 n3, .int .u32 n4, .int .i64 p0, .int .i64 p1, .int .i64 p2, .int .i64 p3, .int .u32 p4] : List Value).toArray (by rfl) (by rfl) HE.out.2.1 infoCall (c25_one _ _ _ _ _ _ _ _ _ _ _ _ _ _ _ _ _ _ _ _ _ _ _ _ _) ?_
      generalize hF : World.setCells wE _ _ _ = wF
      have HF : Hid (Below wd.heap.size wd wF ∧ wF.rangeAt C 0 ([.pointer (some ⟨s, 0, none⟩), .int .i64 r0, .int .i64 r1, .int .i64 r2, .int .i64 r3, .int .u32 r4, .int .u32 o, .int .u32 a, .int .u32 b, .int .u32 c, .int .i64 m0, .int .i64 m1, .int .i64 m2, .int .i64 m3, .int .u32 m4, .int .i64 n0, .int .i64 n1, .int .i64 n2, .int .i64 n3, .int .u32 n4, .int .i64 p0, .int .i64 p1, .int .i64 p2, .int .i64 p3, .int .u32 p4] : List Value) ∧ World.there wF C 0 25) := Lib.hid (by rw [← hF]; exact ⟨nbelow_cells HE.out.1 HE.out.2.2.1 _ _, World.rangeAt_setCells_same wE C 0 ([.pointer (some ⟨s, 0, none⟩), .int .i64 r0, .int .i64 r1, .int .i64 r2, .int .i64 r3, .int .u32 r4, .int .u32 o, .int .u32 a, .int .u32 b, .int .u32 c, .int .i64 m0, .int .i64 m1, .int .i64 m2, .int .i64 m3, .int .u32 m4, .int .i64 n0, .int .i64 n1, .int .i64 n2, .int .i64 n3, .int .u32 n4, .int .i64 p0, .int .i64 p1, .int .i64 p2, .int .i64 p3, .int .u32 p4] : List Value) HE.out.2.1, World.there_setCells HE.out.2.1 _ _ _⟩)
      clear hF
      refine hK.out _ _ (HS1.out _ HF.out.1) (fun hHeld => ?_)
      clear hK K
      (try simp only [Act.put, List.getElem_toArray, List.getElem_cons_succ, List.getElem_cons_zero, List.setIfInBounds_toArray, List.set_cons_zero, List.set_cons_succ])
      refine wpAnyH_done (by kernel_rfl) ?_ _
      refine NoPanic.normal ?_
      go_wp2_with fail
      go_meet
      exact ⟨C, rfl, HF.out.1, HF.out.2.1, HF.out.2.2, HE.out.2.2.1, cell_lt (CallC.cell HF.out.2.1 0 _ rfl)⟩
    · rw [if_pos (by kernel_rfl)]; simp only [List.getElem_toArray, List.getElem_cons_succ, List.getElem_cons_zero]
      go_wp2_with fail
      generalize hE : World.alloc wD _ = wE
      obtain ⟨C, hC⟩ : ∃ C, C = wD.heap.size := ⟨_, rfl⟩
      have HE : Hid (Below wd.heap.size wd wE ∧ World.there wE C 0 25 ∧ wd.heap.size ≤ C ∧ C < wE.heap.size) := Lib.hid (by rw [← hE, hC]; exact ⟨HBd.out.alloc HBd.out.size _, nthere_new _ _ 25 (by rfl) _, HBd.out.size, by simp⟩)
      rw [← hC]
      clear hE hC
      refine hK.out _ _ (HS1.out _ HE.out.1) (fun hHeld => ?_)
      clear hK K1
      (try simp only [Act.put, List.getElem_toArray, List.getElem_cons_succ, List.getElem_cons_zero, List.setIfInBounds_toArray, List.set_cons_zero, List.set_cons_succ])
      refine wpAnyH_ready (rs := [3]) (by kernel_rfl) (by simp) ?_; refine AllReadyH.cons (by rfl) (fun K hK => ?_) AllReadyH.nil; rw [if_pos (by kernel_rfl)]; simp only [List.getElem_toArray, List.getElem_cons_succ, List.getElem_cons_zero]
      go_wp2_with (first | (go_at_call 21; (with_reducible refine (HSk.out _ (HR.out.1.trans (HE.out.1.mono HR.out.1.size))).mono ?_); rintro e w2 ⟨rfl, hb⟩; have HB2 : Hid (Below wd.heap.size wd w2 ∧ World.there w2 C 0 25) := Lib.hid ⟨HE.out.1.trans (hb.mono HE.out.1.size), nthere_below HE.out.2.1 hb HE.out.2.2.2⟩; clear hb))
      refine hK.out _ _ (HS1.out _ HB2.out.1) (fun hHeld => ?_)
      clear hK K
      (try simp only [Act.put, List.getElem_toArray, List.getElem_cons_succ, List.getElem_cons_zero, List.setIfInBounds_toArray, List.set_cons_zero, List.set_cons_succ])
      refine wpAnyH_take (i := 5) (v := ?_) (by rfl) (by kernel_rfl) (by kernel_rfl) (by kernel_rfl) (fun _ _ _ h => h) (Or.inl ⟨by kernel_rfl, ?_⟩) (by assumption) ?_; rotate_left 1; (focus (intro w hSw; (try dsimp only at hSw); simp only [List.getElem_toArray, List.getElem_cons_succ, List.getElem_cons_zero]; all_goals go_simp; all_goals (try with_reducible rfl))); (try simp only [Act.put, List.getElem_toArray, List.getElem_cons_succ, List.getElem_cons_zero, List.setIfInBounds_toArray, List.set_cons_zero, List.set_cons_succ])
      refine wpAnyH_ready (rs := [7]) (by kernel_rfl) (by simp) ?_; refine AllReadyH.cons (by rfl) (fun K hK => ?_) AllReadyH.nil; rw [if_pos (by kernel_rfl)]; simp only [List.getElem_toArray, List.getElem_cons_succ, List.getElem_cons_zero]
      refine wp_store_mid 142 (Operand.tmp 8) (Operand.tmp 16) (by rfl) C 0 ([.pointer (some ⟨s, 0, none⟩), .int .i64 r0, .int .i64 r1, .int .i64 r2, .int .i64 r3, .int .u32 r4, .int .u32 o, .int .u32 a, .int .u32 b, .int .u32 c, .int .i64 m0, .int .i64 m1, .int .i64 m2, .int .i64 m3, .int .u32 m4, .int .i64 n0, .int .i64 n1, .int .i64 n2, .int .i64 n3, .int .u32 n4, .int .i64 p0, .int .i64 p1, .int .i64 p2, .int .i64 p3, .int .u32 p4] : List Value).toArray (by rfl) (by rfl) HB2.out.2 infoCall (c25_one _ _ _ _ _ _ _ _ _ _ _ _ _ _ _ _ _ _ _ _ _ _ _ _ _) ?_
      generalize hF : World.setCells w2 _ _ _ = wF
      have HF : Hid (Below wd.heap.size wd wF ∧ wF.rangeAt C 0 ([.pointer (some ⟨s, 0, none⟩), .int .i64 r0, .int .i64 r1, .int .i64 r2, .int .i64 r3, .int .u32 r4, .int .u32 o, .int .u32 a, .int .u32 b, .int .u32 c, .int .i64 m0, .int .i64 m1, .int .i64 m2, .int .i64 m3, .int .u32 m4, .int .i64 n0, .int .i64 n1, .int .i64 n2, .int .i64 n3, .int .u32 n4, .int .i64 p0, .int .i64 p1, .int .i64 p2, .int .i64 p3, .int .u32 p4] : List Value) ∧ World.there wF C 0 25) := Lib.hid (by rw [← hF]; exact ⟨nbelow_cells HB2.out.1 HE.out.2.2.1 _ _, World.rangeAt_setCells_same w2 C 0 ([.pointer (some ⟨s, 0, none⟩), .int .i64 r0, .int .i64 r1, .int .i64 r2, .int .i64 r3, .int .u32 r4, .int .u32 o, .int .u32 a, .int .u32 b, .int .u32 c, .int .i64 m0, .int .i64 m1, .int .i64 m2, .int .i64 m3, .int .u32 m4, .int .i64 n0, .int .i64 n1, .int .i64 n2, .int .i64 n3, .int .u32 n4, .int .i64 p0, .int .i64 p1, .int .i64 p2, .int .i64 p3, .int .u32 p4] : List Value) HB2.out.2, World.there_setCells HB2.out.2 _ _ _⟩)
      clear hF
      refine hK.out _ _ (HS1.out _ HF.out.1) (fun hHeld => ?_)
      clear hK K
      (try simp only [Act.put, List.getElem_toArray, List.getElem_cons_succ, List.getElem_cons_zero, List.setIfInBounds_toArray, List.set_cons_zero, List.set_cons_succ])
      refine wpAnyH_done (by kernel_rfl) ?_ _
      refine NoPanic.normal ?_
      go_wp2_with fail
      go_meet
      exact ⟨C, rfl, HF.out.1, HF.out.2.1, HF.out.2.2, HE.out.2.2.1, cell_lt (CallC.cell HF.out.2.1 0 _ rfl)⟩
  case rest =>
    obtain ⟨C, rfl, hb, hr, ht, hC1, hC2⟩ := hcut
    have HC := Lib.hid (⟨HR.out.1.trans (hb.mono HR.out.1.size), hr, ht, Nat.le_trans HR.out.1.size hC1, nthere_below HR.out.2.2.2.1 hb HR.out.2.2.2.2.2.1, Nat.lt_of_lt_of_le HR.out.2.2.2.2.2.1 hC1, hC2⟩ : Below w.heap.size w wc ∧ wc.rangeAt C 0 ([.pointer (some ⟨s, 0, none⟩), .int .i64 r0, .int .i64 r1, .int .i64 r2, .int .i64 r3, .int .u32 r4, .int .u32 o, .int .u32 a, .int .u32 b, .int .u32 c, .int .i64 m0, .int .i64 m1, .int .i64 m2, .int .i64 m3, .int .u32 m4, .int .i64 n0, .int .i64 n1, .int .i64 n2, .int .i64 n3, .int .u32 n4, .int .i64 p0, .int .i64 p1, .int .i64 p2, .int .i64 p3, .int .u32 p4] : List Value) ∧ World.there wc C 0 25 ∧ w.heap.size ≤ C ∧ World.there wc R 0 19 ∧ R < C ∧ C < wc.heap.size)
    have HJ4 : Hid (wc.rangeAt J 4 ([.int .i64 m0, .int .i64 m1, .int .i64 m2, .int .i64 m3, .int .u32 m4, .int .i64 n0, .int .i64 n1, .int .i64 n2, .int .i64 n3, .int .u32 n4, .int .i64 p0, .int .i64 p1, .int .i64 p2, .int .i64 p3, .int .u32 p4] : List Value)) := Lib.hid (range_drop (k := 4) (range_below HR.out.2.2.1 hb (Nat.lt_trans HR.out.2.2.2.2.1 HR.out.2.2.2.2.2.1)))
    clear hb hr ht hC1 hC2
    have hi0 : ∀ W, (Instr.index 50 (.agg ([.int .i64 m0, .int .i64 m1, .int .i64 m2, .int .i64 m3, .int .u32 m4, .int .i64 n0, .int .i64 n1, .int .i64 n2, .int .i64 n3, .int .u32 n4, .int .i64 p0, .int .i64 p1, .int .i64 p2, .int .i64 p3, .int .u32 p4] : List Value).toArray) (.int .i64 0)).run Tryz.prog W = .ok (Value.agg #[.int .i64 m0, .int .i64 m1, .int .i64 m2, .int .i64 m3, .int .u32 m4]) W := by intro W; kernel_rfl
    have hi1 : ∀ W, (Instr.index 50 (.agg ([.int .i64 m0, .int .i64 m1, .int .i64 m2, .int .i64 m3, .int .u32 m4, .int .i64 n0, .int .i64 n1, .int .i64 n2, .int .i64 n3, .int .u32 n4, .int .i64 p0, .int .i64 p1, .int .i64 p2, .int .i64 p3, .int .u32 p4] : List Value).toArray) (.int .i64 1)).run Tryz.prog W = .ok (Value.agg #[.int .i64 n0, .int .i64 n1, .int .i64 n2, .int .i64 n3, .int .u32 n4]) W := by intro W; kernel_rfl
    have hi2 : ∀ W, (Instr.index 50 (.agg ([.int .i64 m0, .int .i64 m1, .int .i64 m2, .int .i64 m3, .int .u32 m4, .int .i64 n0, .int .i64 n1, .int .i64 n2, .int .i64 n3, .int .u32 n4, .int .i64 p0, .int .i64 p1, .int .i64 p2, .int .i64 p3, .int .u32 p4] : List Value).toArray) (.int .i64 2)).run Tryz.prog W = .ok (Value.agg #[.int .i64 p0, .int .i64 p1, .int .i64 p2, .int .i64 p3, .int .u32 p4]) W := by intro W; kernel_rfl
    go_wp2_with (first
      | (refine wpList_load_mid (by rfl) _ _ (by rfl) J 4 (by rfl) ([.int .i64 m0, .int .i64 m1, .int .i64 m2, .int .i64 m3, .int .u32 m4, .int .i64 n0, .int .i64 n1, .int .i64 n2, .int .i64 n3, .int .u32 n4, .int .i64 p0, .int .i64 p1, .int .i64 p2, .int .i64 p3, .int .u32 p4] : List Value) _ HJ4.out Tryz.underlying50 rfl (by kernel_rfl) ?_))
    refine wp_loop_rounds 4 ?_
    rw [rounds_succ]
    go_upto_region 5 with fail; generalize hA : World.alloc wc _ = wg; obtain ⟨XB, hXB⟩ : ∃ XB, XB = wc.heap.size := ⟨_, rfl⟩; have HG : Hid (Below wc.heap.size wc wg ∧ KeyC wg XB m0 m1 m2 m3 m4 ∧ World.rangeAt wg C 0 ([.pointer (some ⟨s, 0, none⟩), .int .i64 r0, .int .i64 r1, .int .i64 r2, .int .i64 r3, .int .u32 r4, .int .u32 o, .int .u32 a, .int .u32 b, .int .u32 c, .int .i64 m0, .int .i64 m1, .int .i64 m2, .int .i64 m3, .int .u32 m4, .int .i64 n0, .int .i64 n1, .int .i64 n2, .int .i64 n3, .int .u32 n4, .int .i64 p0, .int .i64 p1, .int .i64 p2, .int .i64 p3, .int .u32 p4] : List Value) ∧ World.there wg C 0 25 ∧ Below w.heap.size w wg ∧ C < wg.heap.size) := Lib.hid (by rw [← hA, hXB]; exact ⟨(Below.refl _ _).alloc (Nat.le_refl _) _, KeyC.new _ _ _ _ _ _ _, range_below (HC).out.2.1 ((Below.refl _ _).alloc (Nat.le_refl _) _) (HC).out.2.2.2.2.2.2, nthere_below (HC).out.2.2.1 ((Below.refl _ _).alloc (Nat.le_refl _) _) (HC).out.2.2.2.2.2.2, (HC).out.1.trans (Below.mono ((Below.refl _ _).alloc (Nat.le_refl _) _) (HC).out.1.size), Nat.lt_of_lt_of_le (HC).out.2.2.2.2.2.2 (by simp)⟩); rw [← hXB]; clear hA hXB; obtain ⟨q0, q1, q2, q3, q4⟩ := ofive (HG).out.2.1; go_upto_region 6 with (first | (go_at_call 21; (with_reducible refine ((HSm).out _ (HG).out.2.2.2.2.1).mono ?_); rintro e wg2 ⟨rfl, hb⟩; have HGx : Hid (Below w.heap.size w wg2 ∧ World.rangeAt wg2 C 0 ([.pointer (some ⟨s, 0, none⟩), .int .i64 r0, .int .i64 r1, .int .i64 r2, .int .i64 r3, .int .u32 r4, .int .u32 o, .int .u32 a, .int .u32 b, .int .u32 c, .int .i64 m0, .int .i64 m1, .int .i64 m2, .int .i64 m3, .int .u32 m4, .int .i64 n0, .int .i64 n1, .int .i64 n2, .int .i64 n3, .int .u32 n4, .int .i64 p0, .int .i64 p1, .int .i64 p2, .int .i64 p3, .int .u32 p4] : List Value) ∧ World.there wg2 C 0 25 ∧ World.there wg2 R 0 19) := (Lib.hid ⟨(HG).out.2.2.2.2.1.trans (hb.mono (HG).out.2.2.2.2.1.size), range_below (HG).out.2.2.1 hb (HG).out.2.2.2.2.2, nthere_below (HG).out.2.2.2.1 hb (HG).out.2.2.2.2.2, nthere_below (HC).out.2.2.2.2.1 ((HG).out.1.trans (hb.mono (HG).out.1.size)) (Nat.lt_trans (HC).out.2.2.2.2.2.1 (HC).out.2.2.2.2.2.2)⟩); clear hb q0 q1 q2 q3 q4) | (refine wpList_store_mid (by rfl) _ _ _ (by rfl) C 10 ([.int .i64 x0, .int .i64 x1, .int .i64 x2, .int .i64 x3, .int .u32 x4] : List Value).toArray (by rfl) (by rfl) (there_part (HGx).out.2.2.1 10 (by decide)) infoK5 (akey_one _ _ _ _ _) ?_)); generalize hA : World.setCells wg2 _ _ _ = wh; have HH : Hid (Below w.heap.size w wh ∧ World.rangeAt wh C 0 ([.pointer (some ⟨s, 0, none⟩), .int .i64 r0, .int .i64 r1, .int .i64 r2, .int .i64 r3, .int .u32 r4, .int .u32 o, .int .u32 a, .int .u32 b, .int .u32 c, .int .i64 x0, .int .i64 x1, .int .i64 x2, .int .i64 x3, .int .u32 x4, .int .i64 n0, .int .i64 n1, .int .i64 n2, .int .i64 n3, .int .u32 n4, .int .i64 p0, .int .i64 p1, .int .i64 p2, .int .i64 p3, .int .u32 p4] : List Value) ∧ World.there wh C 0 25 ∧ w.heap.size ≤ C ∧ World.there wh R 0 19 ∧ R < C ∧ C < wh.heap.size) := (Lib.hid (by rw [← hA]; exact ⟨nbelow_cells (HGx).out.1 (HC).out.2.2.2.1 _ _, range_set5 (HGx).out.2.1 10 _ _ _ _ _, World.there_setCells (HGx).out.2.2.1 _ _ _, (HC).out.2.2.2.1, World.there_setCells (HGx).out.2.2.2 _ _ _, (HC).out.2.2.2.2.2.1, cell_lt (CallC.cell (range_set5 (HGx).out.2.1 10 _ _ _ _ _) 0 _ rfl)⟩)); clear hA; go_wp2_with fail
    rw [rounds_succ]
    go_upto_region 5 with fail; generalize hA : World.alloc wh _ = wi; obtain ⟨XB, hXB⟩ : ∃ XB, XB = wh.heap.size := ⟨_, rfl⟩; have HI : Hid (Below wh.heap.size wh wi ∧ KeyC wi XB n0 n1 n2 n3 n4 ∧ World.rangeAt wi C 0 ([.pointer (some ⟨s, 0, none⟩), .int .i64 r0, .int .i64 r1, .int .i64 r2, .int .i64 r3, .int .u32 r4, .int .u32 o, .int .u32 a, .int .u32 b, .int .u32 c, .int .i64 x0, .int .i64 x1, .int .i64 x2, .int .i64 x3, .int .u32 x4, .int .i64 n0, .int .i64 n1, .int .i64 n2, .int .i64 n3, .int .u32 n4, .int .i64 p0, .int .i64 p1, .int .i64 p2, .int .i64 p3, .int .u32 p4] : List Value) ∧ World.there wi C 0 25 ∧ Below w.heap.size w wi ∧ C < wi.heap.size) := Lib.hid (by rw [← hA, hXB]; exact ⟨(Below.refl _ _).alloc (Nat.le_refl _) _, KeyC.new _ _ _ _ _ _ _, range_below (HH).out.2.1 ((Below.refl _ _).alloc (Nat.le_refl _) _) (HH).out.2.2.2.2.2.2, nthere_below (HH).out.2.2.1 ((Below.refl _ _).alloc (Nat.le_refl _) _) (HH).out.2.2.2.2.2.2, (HH).out.1.trans (Below.mono ((Below.refl _ _).alloc (Nat.le_refl _) _) (HH).out.1.size), Nat.lt_of_lt_of_le (HH).out.2.2.2.2.2.2 (by simp)⟩); rw [← hXB]; clear hA hXB; obtain ⟨q0, q1, q2, q3, q4⟩ := ofive (HI).out.2.1; go_upto_region 6 with (first | (go_at_call 21; (with_reducible refine ((HSn).out _ (HI).out.2.2.2.2.1).mono ?_); rintro e wi2 ⟨rfl, hb⟩; have HIx : Hid (Below w.heap.size w wi2 ∧ World.rangeAt wi2 C 0 ([.pointer (some ⟨s, 0, none⟩), .int .i64 r0, .int .i64 r1, .int .i64 r2, .int .i64 r3, .int .u32 r4, .int .u32 o, .int .u32 a, .int .u32 b, .int .u32 c, .int .i64 x0, .int .i64 x1, .int .i64 x2, .int .i64 x3, .int .u32 x4, .int .i64 n0, .int .i64 n1, .int .i64 n2, .int .i64 n3, .int .u32 n4, .int .i64 p0, .int .i64 p1, .int .i64 p2, .int .i64 p3, .int .u32 p4] : List Value) ∧ World.there wi2 C 0 25 ∧ World.there wi2 R 0 19) := (Lib.hid ⟨(HI).out.2.2.2.2.1.trans (hb.mono (HI).out.2.2.2.2.1.size), range_below (HI).out.2.2.1 hb (HI).out.2.2.2.2.2, nthere_below (HI).out.2.2.2.1 hb (HI).out.2.2.2.2.2, nthere_below (HH).out.2.2.2.2.1 ((HI).out.1.trans (hb.mono (HI).out.1.size)) (Nat.lt_trans (HH).out.2.2.2.2.2.1 (HH).out.2.2.2.2.2.2)⟩); clear hb q0 q1 q2 q3 q4) | (refine wpList_store_mid (by rfl) _ _ _ (by rfl) C 15 ([.int .i64 y0, .int .i64 y1, .int .i64 y2, .int .i64 y3, .int .u32 y4] : List Value).toArray (by rfl) (by rfl) (there_part (HIx).out.2.2.1 15 (by decide)) infoK5 (akey_one _ _ _ _ _) ?_)); generalize hA : World.setCells wi2 _ _ _ = wj; have HJ2 : Hid (Below w.heap.size w wj ∧ World.rangeAt wj C 0 ([.pointer (some ⟨s, 0, none⟩), .int .i64 r0, .int .i64 r1, .int .i64 r2, .int .i64 r3, .int .u32 r4, .int .u32 o, .int .u32 a, .int .u32 b, .int .u32 c, .int .i64 x0, .int .i64 x1, .int .i64 x2, .int .i64 x3, .int .u32 x4, .int .i64 y0, .int .i64 y1, .int .i64 y2, .int .i64 y3, .int .u32 y4, .int .i64 p0, .int .i64 p1, .int .i64 p2, .int .i64 p3, .int .u32 p4] : List Value) ∧ World.there wj C 0 25 ∧ w.heap.size ≤ C ∧ World.there wj R 0 19 ∧ R < C ∧ C < wj.heap.size) := (Lib.hid (by rw [← hA]; exact ⟨nbelow_cells (HIx).out.1 (HH).out.2.2.2.1 _ _, range_set5 (HIx).out.2.1 15 _ _ _ _ _, World.there_setCells (HIx).out.2.2.1 _ _ _, (HH).out.2.2.2.1, World.there_setCells (HIx).out.2.2.2 _ _ _, (HH).out.2.2.2.2.2.1, cell_lt (CallC.cell (range_set5 (HIx).out.2.1 15 _ _ _ _ _) 0 _ rfl)⟩)); clear hA; go_wp2_with fail
    rw [rounds_succ]
    go_upto_region 5 with fail; generalize hA : World.alloc wj _ = wk; obtain ⟨XB, hXB⟩ : ∃ XB, XB = wj.heap.size := ⟨_, rfl⟩; have HL : Hid (Below wj.heap.size wj wk ∧ KeyC wk XB p0 p1 p2 p3 p4 ∧ World.rangeAt wk C 0 ([.pointer (some ⟨s, 0, none⟩), .int .i64 r0, .int .i64 r1, .int .i64 r2, .int .i64 r3, .int .u32 r4, .int .u32 o, .int .u32 a, .int .u32 b, .int .u32 c, .int .i64 x0, .int .i64 x1, .int .i64 x2, .int .i64 x3, .int .u32 x4, .int .i64 y0, .int .i64 y1, .int .i64 y2, .int .i64 y3, .int .u32 y4, .int .i64 p0, .int .i64 p1, .int .i64 p2, .int .i64 p3, .int .u32 p4] : List Value) ∧ World.there wk C 0 25 ∧ Below w.heap.size w wk ∧ C < wk.heap.size) := Lib.hid (by rw [← hA, hXB]; exact ⟨(Below.refl _ _).alloc (Nat.le_refl _) _, KeyC.new _ _ _ _ _ _ _, range_below (HJ2).out.2.1 ((Below.refl _ _).alloc (Nat.le_refl _) _) (HJ2).out.2.2.2.2.2.2, nthere_below (HJ2).out.2.2.1 ((Below.refl _ _).alloc (Nat.le_refl _) _) (HJ2).out.2.2.2.2.2.2, (HJ2).out.1.trans (Below.mono ((Below.refl _ _).alloc (Nat.le_refl _) _) (HJ2).out.1.size), Nat.lt_of_lt_of_le (HJ2).out.2.2.2.2.2.2 (by simp)⟩); rw [← hXB]; clear hA hXB; obtain ⟨q0, q1, q2, q3, q4⟩ := ofive (HL).out.2.1; go_upto_region 6 with (first | (go_at_call 21; (with_reducible refine ((HSp).out _ (HL).out.2.2.2.2.1).mono ?_); rintro e wk2 ⟨rfl, hb⟩; have HLx : Hid (Below w.heap.size w wk2 ∧ World.rangeAt wk2 C 0 ([.pointer (some ⟨s, 0, none⟩), .int .i64 r0, .int .i64 r1, .int .i64 r2, .int .i64 r3, .int .u32 r4, .int .u32 o, .int .u32 a, .int .u32 b, .int .u32 c, .int .i64 x0, .int .i64 x1, .int .i64 x2, .int .i64 x3, .int .u32 x4, .int .i64 y0, .int .i64 y1, .int .i64 y2, .int .i64 y3, .int .u32 y4, .int .i64 p0, .int .i64 p1, .int .i64 p2, .int .i64 p3, .int .u32 p4] : List Value) ∧ World.there wk2 C 0 25 ∧ World.there wk2 R 0 19) := (Lib.hid ⟨(HL).out.2.2.2.2.1.trans (hb.mono (HL).out.2.2.2.2.1.size), range_below (HL).out.2.2.1 hb (HL).out.2.2.2.2.2, nthere_below (HL).out.2.2.2.1 hb (HL).out.2.2.2.2.2, nthere_below (HJ2).out.2.2.2.2.1 ((HL).out.1.trans (hb.mono (HL).out.1.size)) (Nat.lt_trans (HJ2).out.2.2.2.2.2.1 (HJ2).out.2.2.2.2.2.2)⟩); clear hb q0 q1 q2 q3 q4) | (refine wpList_store_mid (by rfl) _ _ _ (by rfl) C 20 ([.int .i64 z0, .int .i64 z1, .int .i64 z2, .int .i64 z3, .int .u32 z4] : List Value).toArray (by rfl) (by rfl) (there_part (HLx).out.2.2.1 20 (by decide)) infoK5 (akey_one _ _ _ _ _) ?_)); generalize hA : World.setCells wk2 _ _ _ = wl; have HM : Hid (Below w.heap.size w wl ∧ World.rangeAt wl C 0 ([.pointer (some ⟨s, 0, none⟩), .int .i64 r0, .int .i64 r1, .int .i64 r2, .int .i64 r3, .int .u32 r4, .int .u32 o, .int .u32 a, .int .u32 b, .int .u32 c, .int .i64 x0, .int .i64 x1, .int .i64 x2, .int .i64 x3, .int .u32 x4, .int .i64 y0, .int .i64 y1, .int .i64 y2, .int .i64 y3, .int .u32 y4, .int .i64 z0, .int .i64 z1, .int .i64 z2, .int .i64 z3, .int .u32 z4] : List Value) ∧ World.there wl C 0 25 ∧ w.heap.size ≤ C ∧ World.there wl R 0 19 ∧ R < C ∧ C < wl.heap.size) := (Lib.hid (by rw [← hA]; exact ⟨nbelow_cells (HLx).out.1 (HJ2).out.2.2.2.1 _ _, range_set5 (HLx).out.2.1 20 _ _ _ _ _, World.there_setCells (HLx).out.2.2.1 _ _ _, (HJ2).out.2.2.2.1, World.there_setCells (HLx).out.2.2.2 _ _ _, (HJ2).out.2.2.2.2.2.1, cell_lt (CallC.cell (range_set5 (HLx).out.2.1 20 _ _ _ _ _) 0 _ rfl)⟩)); clear hA; go_wp2_with fail
    rw [rounds_succ]
    have q1 := CallC.cell HM.out.2.1 1 _ rfl
    have hRn : w.heap.size ≤ R := HR.out.2.2.2.2.2.2
    have q1 := CallC.cell HM.out.2.1 1 _ rfl
    have hRn : w.heap.size ≤ R := HR.out.2.2.2.2.2.2
    have HTR : Hid (World.there wl R 0 19) := Lib.hid HM.out.2.2.2.2.1
    have HBR : Hid (Below w.heap.size w wl) := Lib.hid HM.out.1
    clear HM HL HLx HJ2 HIx HI HH HGx HG HC HJ4 HR HJ HK HSk HSm HSn HSp
    go_wp2_with (first
      | (refine wpList_store_mid (by rfl) _ _ _ (by rfl) R 0 ([.int .u32 0, .int .u32 0, .int .u32 0, .int .u32 0, .int .i64 0, .int .i64 0, .int .i64 0, .int .i64 0, .int .u32 0, .int .i64 0, .int .i64 0, .int .i64 0, .int .i64 0, .int .u32 0, .int .i64 0, .int .i64 0, .int .i64 0, .int .i64 0, .int .u32 0] : List Value).toArray (by rfl) (by rfl) HTR.out infoNote (note_one _ _ _ _ _ _ _ _ _ _ _ _ _ _ _ _ _ _ _) ?_))
    generalize hS : World.setCells wl _ _ _ = wS
    have HS : Hid (Below w.heap.size w wS ∧ wS.rangeAt R 0 [.int .u32 0, .int .u32 0, .int .u32 0, .int .u32 0, .int .i64 0, .int .i64 0, .int .i64 0, .int .i64 0, .int .u32 0, .int .i64 0, .int .i64 0, .int .i64 0, .int .i64 0, .int .u32 0, .int .i64 0, .int .i64 0, .int .i64 0, .int .i64 0, .int .u32 0]) := Lib.hid (by rw [← hS]; exact ⟨nbelow_cells HBR.out hRn _ _, World.rangeAt_setCells_same wl R 0 [.int .u32 0, .int .u32 0, .int .u32 0, .int .u32 0, .int .i64 0, .int .i64 0, .int .i64 0, .int .i64 0, .int .u32 0, .int .i64 0, .int .i64 0, .int .i64 0, .int .i64 0, .int .u32 0, .int .i64 0, .int .i64 0, .int .i64 0, .int .i64 0, .int .u32 0] HTR.out⟩)
    have hld := nload rfl HS.out.2
    refine bodyPost_ret (v := (.tuple #[(Value.agg #[.int .u32 0, .int .u32 0, .int .u32 0, .int .u32 0, .int .i64 0, .int .i64 0, .int .i64 0, .int .i64 0, .int .u32 0, .int .i64 0, .int .i64 0, .int .i64 0, .int .i64 0, .int .u32 0, .int .i64 0, .int .i64 0, .int .i64 0, .int .i64 0, .int .u32 0]), .bool false])) (by simp [results, Tryz.results32, Act.put, asAddr, hld]) rfl ⟨rfl, HS.out.1⟩
end Go.Proofs.YtllcakiomihipaaGreatDoor
namespace Go.Proofs.YtllcakiomihipaaGreatDoor
open Go.ChangeShapes Go.WideShapes Go.ChangeAt Go.RowKit
set_option linter.unusedVariables false
set_option linter.unusedSimpArgs false
theorem idxY (y0 y1 y2 y3 y4 : Int) (w : World) : (Instr.index 50 (.agg #[.int .i64 y0, .int .i64 y1, .int .i64 y2, .int .i64 y3, .int .u32 y4, .int .i64 0, .int .i64 0, .int .i64 0, .int .i64 0, .int .u32 0, .int .i64 0, .int .i64 0, .int .i64 0, .int .i64 0, .int .u32 0]) (.int .i64 0)).run Tryz.prog w = .ok (.agg #[.int .i64 y0, .int .i64 y1, .int .i64 y2, .int .i64 y3, .int .u32 y4]) w := by
  kernel_rfl
section
variable {w0 wb w w' W : World} {L : BLoc} {X : SLoc} {nd B : Nat} {A : List Nat} {F : Nat → Nat → Value} {l : List Int} {J NB : Nat} {rg : Nat → Int} {pc st ft : Int} {kk : Nat → Nat → Int} {wt : Int} {ls : List Value} {f f' : Nat → Value}
set_option maxRecDepth 100000 in
set_option maxHeartbeats 2000000 in
theorem ctake_key (h : GB w0 wb w L X nd B A F l J (RW rg pc st ft kk wt)) (o a b c bd : Int) (m0 m1 m2 m3 m4 : Int) (n0 n1 n2 n3 n4 : Int) (p0 p1 p2 p3 p4 : Int) (C cp : Nat) (y0 y1 y2 y3 y4 : Int) (hC : C ∈ A) (hk : KeyC wb C y0 y1 y2 y3 y4) :
    Calls Tryz.prog 62 #[.pointer (some ⟨J, 0, none⟩), (Value.agg #[.int .u32 o, .int .u32 a, .int .u32 b, .int .u32 c, .int .i64 m0, .int .i64 m1, .int .i64 m2, .int .i64 m3, .int .u32 m4, .int .i64 n0, .int .i64 n1, .int .i64 n2, .int .i64 n3, .int .u32 n4, .int .i64 p0, .int .i64 p1, .int .i64 p2, .int .i64 p3, .int .u32 p4]), .int .u32 bd, .slice (some ⟨C, 0, none⟩) 1 cp] w fun e w' => (∃ v, e = .returned v) ∧ GB w0 wb w' L X nd B A F l J (RW (sR (sR (sR (sR (sR rg 0 o) 1 a) 2 b) 3 c) 4 bd) pc st ft (sK (sK (sK (sK kk 12 m0 m1 m2 m3 m4) 13 n0 n1 n2 n3 n4) 14 p0 p1 p2 p3 p4) 15 y0 y1 y2 y3 y4) wt) := by
  have H := Lib.hid h
  have hJ := (h.gs.a J (by simp)).1
  have HK := Lib.hid (And.intro hC hk)
  clear h hk hC
  go_enter Tryz.func62, Tryz.ntmps62
  go_upto_region 1 with fail
  generalize hg : World.alloc w _ = wA
  obtain ⟨NB, hNB⟩ : ∃ NB, NB = w.heap.size := ⟨_, rfl⟩
  have HA : Hid (TKs w0 wb wA L X nd B A F l J NB ([.int .u32 o, .int .u32 a, .int .u32 b, .int .u32 c, .int .i64 m0, .int .i64 m1, .int .i64 m2, .int .i64 m3, .int .u32 m4, .int .i64 n0, .int .i64 n1, .int .i64 n2, .int .i64 n3, .int .u32 n4, .int .i64 p0, .int .i64 p1, .int .i64 p2, .int .i64 p3, .int .u32 p4] : List Value) (RW rg pc st ft kk wt)) := Lib.hid (by rw [← hg, hNB]; exact ⟨H.out.below ((Below.refl _ _).alloc (Nat.le_refl _) _), cbox _ _ _, by omega, by simp⟩)
  rw [← hNB]
  clear hg hNB hJ H
  have n0' := CallC.cell HA.out.nt 0 _ rfl
  have j0 := HA.out.gb.cell 0 (by decide)
  have z0 := HA.out.gb.free 0 (by decide)
  go_still_tail 7, (by kernel_rfl)
  change wpList _ _ _ _ _ wA.drew
  go_upto_region 2 with fail
  clear n0' j0 z0
  obtain ⟨w1, hw1⟩ : ∃ w1, w1 = (wA.setCell ⟨J, 0, none⟩ (.int .u32 o)).drew := ⟨_, rfl⟩
  have H1 : Hid (TKs w0 wb w1 L X nd B A F l J NB ([.int .u32 o, .int .u32 a, .int .u32 b, .int .u32 c, .int .i64 m0, .int .i64 m1, .int .i64 m2, .int .i64 m3, .int .u32 m4, .int .i64 n0, .int .i64 n1, .int .i64 n2, .int .i64 n3, .int .u32 n4, .int .i64 p0, .int .i64 p1, .int .i64 p2, .int .i64 p3, .int .u32 p4] : List Value) (RW (sR rg 0 o) pc st ft kk wt)) := Lib.hid (by rw [hw1]; exact (HA.out.word 0 (by decide) o).drew)
  rw [← hw1]
  clear hw1 HA
  obtain ⟨wD, hwD⟩ : ∃ wD, wD = w1.drew := ⟨_, rfl⟩
  have H1 : Hid (TKs w0 wb wD L X nd B A F l J NB ([.int .u32 o, .int .u32 a, .int .u32 b, .int .u32 c, .int .i64 m0, .int .i64 m1, .int .i64 m2, .int .i64 m3, .int .u32 m4, .int .i64 n0, .int .i64 n1, .int .i64 n2, .int .i64 n3, .int .u32 n4, .int .i64 p0, .int .i64 p1, .int .i64 p2, .int .i64 p3, .int .u32 p4] : List Value) (RW (sR rg 0 o) pc st ft kk wt)) := Lib.hid (by rw [hwD]; exact H1.out.drew)
  have hrun := run_copy_cells (P := Tryz.prog) wD 42 42 3 26 J 1 7 7 ⟨NB, 1, none⟩ 3 3 [.int .u32 a, .int .u32 b, .int .u32 c] Tryz.underlying42 (by kernel_rfl) rfl (fun j v hv => by
    match j, hv with
    | 0, hv => cases hv; exact CallC.cell H1.out.nt 1 _ rfl
    | 1, hv => cases hv; exact CallC.cell H1.out.nt 2 _ rfl
    | 2, hv => cases hv; exact CallC.cell H1.out.nt 3 _ rfl) (fun j hj => by have hj' : j < 3 := hj; rw [H1.out.gb.cell (1 + j) (by omega)]; rfl) (fun j hj => by have hj' : j < 3 := hj; exact H1.out.gb.free (1 + j) (by omega)) (by simp [Value.oneCell'])
  refine wp_region_noPanic ?_
  refine wp_region_held_drew (S := fun w' => True) (by kernel_rfl) trivial (fun hHeld => ?_)
  rw [← hwD]; clear hwD
  refine wpAnyH_take (i := 0) (v := ?_) (by rfl) (by kernel_rfl) (by kernel_rfl) (by kernel_rfl) (fun _ _ _ h => h) (Or.inl ⟨by kernel_rfl, ?_⟩) (by assumption) ?_; rotate_left 1; (focus (intro w hSw; (try dsimp only at hSw); simp only [List.getElem_toArray, List.getElem_cons_succ, List.getElem_cons_zero]; all_goals go_simp; all_goals (try with_reducible rfl))); (try simp only [Act.put, List.getElem_toArray, List.getElem_cons_succ, List.getElem_cons_zero, List.setIfInBounds_toArray, List.set_cons_zero, List.set_cons_succ])
  refine wpAnyH_take (i := 1) (v := ?_) (by rfl) (by kernel_rfl) (by kernel_rfl) (by kernel_rfl) (fun _ _ _ h => h) (Or.inl ⟨by kernel_rfl, ?_⟩) (by assumption) ?_; rotate_left 1; (focus (intro w hSw; (try dsimp only at hSw); simp only [List.getElem_toArray, List.getElem_cons_succ, List.getElem_cons_zero]; all_goals go_simp; all_goals (try with_reducible rfl))); (try simp only [Act.put, List.getElem_toArray, List.getElem_cons_succ, List.getElem_cons_zero, List.setIfInBounds_toArray, List.set_cons_zero, List.set_cons_succ])
  refine wpAnyH_take (i := 2) (v := ?_) (by rfl) (by kernel_rfl) (by kernel_rfl) (by kernel_rfl) (fun _ _ _ h => h) (Or.inl ⟨by kernel_rfl, ?_⟩) (by assumption) ?_; rotate_left 1; (focus (intro w hSw; (try dsimp only at hSw); simp only [List.getElem_toArray, List.getElem_cons_succ, List.getElem_cons_zero]; all_goals go_simp; all_goals (try with_reducible rfl))); (try simp only [Act.put, List.getElem_toArray, List.getElem_cons_succ, List.getElem_cons_zero, List.setIfInBounds_toArray, List.set_cons_zero, List.set_cons_succ])
  refine wpAnyH_take (i := 3) (v := ?_) (by rfl) (by kernel_rfl) (by kernel_rfl) (by kernel_rfl) (fun _ _ _ h => h) (Or.inl ⟨by kernel_rfl, ?_⟩) (by assumption) ?_; rotate_left 1; (focus (intro w hSw; (try dsimp only at hSw); simp only [List.getElem_toArray, List.getElem_cons_succ, List.getElem_cons_zero]; all_goals go_simp; all_goals (try with_reducible rfl))); (try simp only [Act.put, List.getElem_toArray, List.getElem_cons_succ, List.getElem_cons_zero, List.setIfInBounds_toArray, List.set_cons_zero, List.set_cons_succ])
  refine wpAnyH_take (i := 4) (v := ?_) (by rfl) (by kernel_rfl) (by kernel_rfl) (by kernel_rfl) (fun _ _ _ h => h) (Or.inl ⟨by kernel_rfl, ?_⟩) (by assumption) ?_; rotate_left 1; (focus (intro w hSw; (try dsimp only at hSw); simp only [List.getElem_toArray, List.getElem_cons_succ, List.getElem_cons_zero]; all_goals go_simp; all_goals (try with_reducible rfl))); (try simp only [Act.put, List.getElem_toArray, List.getElem_cons_succ, List.getElem_cons_zero, List.setIfInBounds_toArray, List.set_cons_zero, List.set_cons_succ])
  refine wpAnyH_take (i := 5) (v := ?_) (by rfl) (by kernel_rfl) (by kernel_rfl) (by kernel_rfl) (fun _ _ _ h => h) (Or.inl ⟨by kernel_rfl, ?_⟩) (by assumption) ?_; rotate_left 1; (focus (intro w hSw; (try dsimp only at hSw); simp only [List.getElem_toArray, List.getElem_cons_succ, List.getElem_cons_zero]; all_goals go_simp; all_goals (try with_reducible rfl))); (try simp only [Act.put, List.getElem_toArray, List.getElem_cons_succ, List.getElem_cons_zero, List.setIfInBounds_toArray, List.set_cons_zero, List.set_cons_succ])
  refine wpAnyH_take (i := 6) (v := ?_) (by rfl) (by kernel_rfl) (by kernel_rfl) (by kernel_rfl) (fun _ _ _ h => h) (Or.inl ⟨by kernel_rfl, ?_⟩) (by assumption) ?_; rotate_left 1; (focus (intro w hSw; (try dsimp only at hSw); simp only [List.getElem_toArray, List.getElem_cons_succ, List.getElem_cons_zero]; all_goals go_simp; all_goals (try with_reducible rfl))); (try simp only [Act.put, List.getElem_toArray, List.getElem_cons_succ, List.getElem_cons_zero, List.setIfInBounds_toArray, List.set_cons_zero, List.set_cons_succ])
  refine wpAnyH_ready (rs := [7]) (by kernel_rfl) (by simp) ?_; refine AllReadyH.cons (by rfl) (fun K hK => ?_) AllReadyH.nil; rw [if_pos (by kernel_rfl)]; simp only [List.getElem_toArray, List.getElem_cons_succ, List.getElem_cons_zero]
  go_wp2_with fail
  clear hrun
  generalize hA : World.setCells _ J 1 _ = w3
  have H3 : Hid (TKs w0 wb w3 L X nd B A F l J NB ([.int .u32 o, .int .u32 a, .int .u32 b, .int .u32 c, .int .i64 m0, .int .i64 m1, .int .i64 m2, .int .i64 m3, .int .u32 m4, .int .i64 n0, .int .i64 n1, .int .i64 n2, .int .i64 n3, .int .u32 n4, .int .i64 p0, .int .i64 p1, .int .i64 p2, .int .i64 p3, .int .u32 p4] : List Value) (RW (sR (sR (sR (sR rg 0 o) 1 a) 2 b) 3 c) pc st ft kk wt)) := Lib.hid (by rw [← hA]; exact H1.out.words a b c)
  clear hA H1
  refine hK.out _ _ trivial (fun hHeld => ?_)
  clear hK K hHeld
  (try simp only [Act.put, List.getElem_toArray, List.getElem_cons_succ, List.getElem_cons_zero, List.setIfInBounds_toArray, List.set_cons_zero, List.set_cons_succ])
  refine wpAnyH_done (by kernel_rfl) ?_ _
  refine NoPanic.normal ?_
  go_upto_region 3 with fail
  have j4 := H3.out.gb.cell 4 (by decide)
  have z4 := H3.out.gb.free 4 (by decide)
  go_upto_region 4 with fail
  clear j4 z4
  obtain ⟨w4, hw4⟩ : ∃ w4, w4 = (w3.setCell ⟨J, 4, none⟩ (.int .u32 bd)).drew := ⟨_, rfl⟩
  have H4 : Hid (TKs w0 wb w4 L X nd B A F l J NB ([.int .u32 o, .int .u32 a, .int .u32 b, .int .u32 c, .int .i64 m0, .int .i64 m1, .int .i64 m2, .int .i64 m3, .int .u32 m4, .int .i64 n0, .int .i64 n1, .int .i64 n2, .int .i64 n3, .int .u32 n4, .int .i64 p0, .int .i64 p1, .int .i64 p2, .int .i64 p3, .int .u32 p4] : List Value) (RW (sR (sR (sR (sR (sR rg 0 o) 1 a) 2 b) 3 c) 4 bd) pc st ft kk wt)) := Lib.hid (by rw [hw4]; exact (H3.out.word 4 (by decide) bd).drew)
  have hrun := run_copy_cells_wide (P := Tryz.prog) w4 138 138 3 31 5 J 71 4 4 ⟨NB, 4, none⟩ 3 3 [.int .i64 m0, .int .i64 m1, .int .i64 m2, .int .i64 m3, .int .u32 m4, .int .i64 n0, .int .i64 n1, .int .i64 n2, .int .i64 n3, .int .u32 n4, .int .i64 p0, .int .i64 p1, .int .i64 p2, .int .i64 p3, .int .u32 p4] Tryz.underlying138 keyInfo5 rfl (fun j v hv => by
    have h := CallC.cell H4.out.nt (4 + j) v
    have e2 : ({ block := NB, off := 4 } : Addr).add j = ⟨NB, 4 + j, none⟩ := by simp [Addr.add]
    rw [e2]
    exact h (by
      have e : ([.int .u32 o, .int .u32 a, .int .u32 b, .int .u32 c, .int .i64 m0, .int .i64 m1, .int .i64 m2, .int .i64 m3, .int .u32 m4, .int .i64 n0, .int .i64 n1, .int .i64 n2, .int .i64 n3, .int .u32 n4, .int .i64 p0, .int .i64 p1, .int .i64 p2, .int .i64 p3, .int .u32 p4] : List Value) = [.int .u32 o, .int .u32 a, .int .u32 b, .int .u32 c] ++ [.int .i64 m0, .int .i64 m1, .int .i64 m2, .int .i64 m3, .int .u32 m4, .int .i64 n0, .int .i64 n1, .int .i64 n2, .int .i64 n3, .int .u32 n4, .int .i64 p0, .int .i64 p1, .int .i64 p2, .int .i64 p3, .int .u32 p4] := rfl
      rw [e, List.getElem?_append_right (by simp)]
      simpa using hv)) (fun j hj => by have hj' : j < 15 := hj; rw [H4.out.gb.cell (71 + j) (by omega)]; rfl) (fun j hj => by have hj' : j < 15 := hj; exact H4.out.gb.free (71 + j) (by omega)) (by simp [Value.oneCell'])
  refine wp_region_noPanic ?_
  refine wp_region_held_drew (S := fun w' => True) (by kernel_rfl) trivial (fun hHeld => ?_)
  rw [← hw4]
  clear hw4 H3
  refine wpAnyH_take (i := 0) (v := ?_) (by rfl) (by kernel_rfl) (by kernel_rfl) (by kernel_rfl) (fun _ _ _ h => h) (Or.inl ⟨by kernel_rfl, ?_⟩) (by assumption) ?_; rotate_left 1; (focus (intro w hSw; (try dsimp only at hSw); simp only [List.getElem_toArray, List.getElem_cons_succ, List.getElem_cons_zero]; all_goals go_simp; all_goals (try with_reducible rfl))); (try simp only [Act.put, List.getElem_toArray, List.getElem_cons_succ, List.getElem_cons_zero, List.setIfInBounds_toArray, List.set_cons_zero, List.set_cons_succ])
  refine wpAnyH_take (i := 1) (v := ?_) (by rfl) (by kernel_rfl) (by kernel_rfl) (by kernel_rfl) (fun _ _ _ h => h) (Or.inl ⟨by kernel_rfl, ?_⟩) (by assumption) ?_; rotate_left 1; (focus (intro w hSw; (try dsimp only at hSw); simp only [List.getElem_toArray, List.getElem_cons_succ, List.getElem_cons_zero]; all_goals go_simp; all_goals (try with_reducible rfl))); (try simp only [Act.put, List.getElem_toArray, List.getElem_cons_succ, List.getElem_cons_zero, List.setIfInBounds_toArray, List.set_cons_zero, List.set_cons_succ])
  refine wpAnyH_take (i := 2) (v := ?_) (by rfl) (by kernel_rfl) (by kernel_rfl) (by kernel_rfl) (fun _ _ _ h => h) (Or.inl ⟨by kernel_rfl, ?_⟩) (by assumption) ?_; rotate_left 1; (focus (intro w hSw; (try dsimp only at hSw); simp only [List.getElem_toArray, List.getElem_cons_succ, List.getElem_cons_zero]; all_goals go_simp; all_goals (try with_reducible rfl))); (try simp only [Act.put, List.getElem_toArray, List.getElem_cons_succ, List.getElem_cons_zero, List.setIfInBounds_toArray, List.set_cons_zero, List.set_cons_succ])
  refine wpAnyH_take (i := 3) (v := ?_) (by rfl) (by kernel_rfl) (by kernel_rfl) (by kernel_rfl) (fun _ _ _ h => h) (Or.inl ⟨by kernel_rfl, ?_⟩) (by assumption) ?_; rotate_left 1; (focus (intro w hSw; (try dsimp only at hSw); simp only [List.getElem_toArray, List.getElem_cons_succ, List.getElem_cons_zero]; all_goals go_simp; all_goals (try with_reducible rfl))); (try simp only [Act.put, List.getElem_toArray, List.getElem_cons_succ, List.getElem_cons_zero, List.setIfInBounds_toArray, List.set_cons_zero, List.set_cons_succ])
  refine wpAnyH_take (i := 4) (v := ?_) (by rfl) (by kernel_rfl) (by kernel_rfl) (by kernel_rfl) (fun _ _ _ h => h) (Or.inl ⟨by kernel_rfl, ?_⟩) (by assumption) ?_; rotate_left 1; (focus (intro w hSw; (try dsimp only at hSw); simp only [List.getElem_toArray, List.getElem_cons_succ, List.getElem_cons_zero]; all_goals go_simp; all_goals (try with_reducible rfl))); (try simp only [Act.put, List.getElem_toArray, List.getElem_cons_succ, List.getElem_cons_zero, List.setIfInBounds_toArray, List.set_cons_zero, List.set_cons_succ])
  refine wpAnyH_take (i := 5) (v := ?_) (by rfl) (by kernel_rfl) (by kernel_rfl) (by kernel_rfl) (fun _ _ _ h => h) (Or.inl ⟨by kernel_rfl, ?_⟩) (by assumption) ?_; rotate_left 1; (focus (intro w hSw; (try dsimp only at hSw); simp only [List.getElem_toArray, List.getElem_cons_succ, List.getElem_cons_zero]; all_goals go_simp; all_goals (try with_reducible rfl))); (try simp only [Act.put, List.getElem_toArray, List.getElem_cons_succ, List.getElem_cons_zero, List.setIfInBounds_toArray, List.set_cons_zero, List.set_cons_succ])
  refine wpAnyH_ready (rs := [6]) (by kernel_rfl) (by simp) ?_; refine AllReadyH.cons (by rfl) (fun K hK => ?_) AllReadyH.nil; rw [if_pos (by kernel_rfl)]; simp only [List.getElem_toArray, List.getElem_cons_succ, List.getElem_cons_zero]
  go_wp2_with fail
  clear hrun
  generalize hA : World.setCells _ J 71 _ = w5
  have H5 : Hid (TKs w0 wb w5 L X nd B A F l J NB ([.int .u32 o, .int .u32 a, .int .u32 b, .int .u32 c, .int .i64 m0, .int .i64 m1, .int .i64 m2, .int .i64 m3, .int .u32 m4, .int .i64 n0, .int .i64 n1, .int .i64 n2, .int .i64 n3, .int .u32 n4, .int .i64 p0, .int .i64 p1, .int .i64 p2, .int .i64 p3, .int .u32 p4] : List Value) (RW (sR (sR (sR (sR (sR rg 0 o) 1 a) 2 b) 3 c) 4 bd) pc st ft (sK (sK (sK kk 12 m0 m1 m2 m3 m4) 13 n0 n1 n2 n3 n4) 14 p0 p1 p2 p3 p4) wt)) := Lib.hid (by rw [← hA]; exact H4.out.keys m0 m1 m2 m3 m4 n0 n1 n2 n3 n4 p0 p1 p2 p3 p4)
  clear hA H4
  refine hK.out _ _ trivial (fun hHeld => ?_)
  clear hK K hHeld
  (try simp only [Act.put, List.getElem_toArray, List.getElem_cons_succ, List.getElem_cons_zero, List.setIfInBounds_toArray, List.set_cons_zero, List.set_cons_succ])
  refine wpAnyH_done (by kernel_rfl) ?_ _
  refine NoPanic.normal ?_
  go_upto_region 5 with fail
  refine wp_region_noPanic ?_
  refine wp_region_held_drew (S := fun w' => True) (by kernel_rfl) trivial (fun hHeld => ?_)
  obtain ⟨w6, hw6⟩ : ∃ w6, w6 = w5.drew := ⟨_, rfl⟩
  have H6 : Hid (TKs w0 wb w6 L X nd B A F l J NB ([.int .u32 o, .int .u32 a, .int .u32 b, .int .u32 c, .int .i64 m0, .int .i64 m1, .int .i64 m2, .int .i64 m3, .int .u32 m4, .int .i64 n0, .int .i64 n1, .int .i64 n2, .int .i64 n3, .int .u32 n4, .int .i64 p0, .int .i64 p1, .int .i64 p2, .int .i64 p3, .int .u32 p4] : List Value) (RW (sR (sR (sR (sR (sR rg 0 o) 1 a) 2 b) 3 c) 4 bd) pc st ft (sK (sK (sK kk 12 m0 m1 m2 m3 m4) 13 n0 n1 n2 n3 n4) 14 p0 p1 p2 p3 p4) wt)) := Lib.hid (by rw [hw6]; exact H5.out.drew)
  rw [← hw6]
  clear hw6 H5
  refine wpAnyH_take (i := 0) (v := ?_) (by rfl) (by kernel_rfl) (by kernel_rfl) (by kernel_rfl) (fun _ _ _ h => h) (Or.inl ⟨by kernel_rfl, ?_⟩) (by assumption) ?_; rotate_left 1; (focus (intro w hSw; (try dsimp only at hSw); simp only [List.getElem_toArray, List.getElem_cons_succ, List.getElem_cons_zero]; all_goals go_simp; all_goals (try with_reducible rfl))); (try simp only [Act.put, List.getElem_toArray, List.getElem_cons_succ, List.getElem_cons_zero, List.setIfInBounds_toArray, List.set_cons_zero, List.set_cons_succ])
  refine wpAnyH_take (i := 1) (v := ?_) (by rfl) (by kernel_rfl) (by kernel_rfl) (by kernel_rfl) (fun _ _ _ h => h) (Or.inl ⟨by kernel_rfl, ?_⟩) (by assumption) ?_; rotate_left 1; (focus (intro w hSw; (try dsimp only at hSw); simp only [List.getElem_toArray, List.getElem_cons_succ, List.getElem_cons_zero]; all_goals go_simp; all_goals (try with_reducible rfl))); (try simp only [Act.put, List.getElem_toArray, List.getElem_cons_succ, List.getElem_cons_zero, List.setIfInBounds_toArray, List.set_cons_zero, List.set_cons_succ])
  refine wpAnyH_take (i := 4) (v := ?_) (by rfl) (by kernel_rfl) (by kernel_rfl) (by kernel_rfl) (fun _ _ _ h => h) (Or.inl ⟨by kernel_rfl, ?_⟩) (by assumption) ?_; rotate_left 1; (focus (intro w hSw; (try dsimp only at hSw); simp only [List.getElem_toArray, List.getElem_cons_succ, List.getElem_cons_zero]; all_goals go_simp; all_goals (try with_reducible rfl))); (try simp only [Act.put, List.getElem_toArray, List.getElem_cons_succ, List.getElem_cons_zero, List.setIfInBounds_toArray, List.set_cons_zero, List.set_cons_succ])
  refine wpAnyH_take (i := 5) (v := ?_) (by rfl) (by kernel_rfl) (by kernel_rfl) (by kernel_rfl) (fun _ _ _ h => h) (Or.inl ⟨by kernel_rfl, ?_⟩) (by assumption) ?_; rotate_left 1; (focus (intro w hSw; (try dsimp only at hSw); simp only [List.getElem_toArray, List.getElem_cons_succ, List.getElem_cons_zero]; all_goals go_simp; all_goals (try with_reducible rfl))); (try simp only [Act.put, List.getElem_toArray, List.getElem_cons_succ, List.getElem_cons_zero, List.setIfInBounds_toArray, List.set_cons_zero, List.set_cons_succ])
  refine wpAnyH_ready (rs := [2]) (by kernel_rfl) (by simp) ?_; refine AllReadyH.cons (by rfl) (fun K hK => ?_) AllReadyH.nil; rw [if_pos (by kernel_rfl)]; simp only [List.getElem_toArray, List.getElem_cons_succ, List.getElem_cons_zero]
  have hm1 : Nat.min 1 3 = 1 := rfl
  have HK2 := Lib.hid (show KeyC w6 C y0 y1 y2 y3 y4 from HK.out.2.sameg (H6.out.gb.gk.eq C HK.out.1) H6.out.gb.gk.sz)
  go_wp2_with (first | (go_at_call 103; (with_reducible refine (krow_1 ⟨C, 0, none⟩ 1 cp y0 y1 y2 y3 y4 _ hm1 HK2.out.c0 HK2.out.c1 HK2.out.c2 HK2.out.c3 HK2.out.c4).mono ?_); rintro e w7 ⟨rfl, hb⟩; have H7 := Lib.hid (H6.out.below hb); clear hb))
  refine hK.out _ _ trivial (fun hHeld => ?_)
  clear hK K hHeld
  (try simp only [Act.put, List.getElem_toArray, List.getElem_cons_succ, List.getElem_cons_zero, List.setIfInBounds_toArray, List.set_cons_zero, List.set_cons_succ])
  refine wpAnyH_take (i := 3) (v := .agg #[.int .i64 y0, .int .i64 y1, .int .i64 y2, .int .i64 y3, .int .u32 y4]) (by rfl) (by kernel_rfl) (by kernel_rfl) (by kernel_rfl) (fun _ _ _ h => h) (Or.inl ⟨by kernel_rfl, ?_⟩) (by assumption) ?_
  · intro w hSw
    simp only [List.getElem_toArray, List.getElem_cons_succ, List.getElem_cons_zero]
    go_simp
    rw [idxY]
    rfl
  (try simp only [Act.put, List.getElem_toArray, List.getElem_cons_succ, List.getElem_cons_zero, List.setIfInBounds_toArray, List.set_cons_zero, List.set_cons_succ])
  refine wpAnyH_take (i := 6) (v := ?_) (by rfl) (by kernel_rfl) (by kernel_rfl) (by kernel_rfl) (fun _ _ _ h => h) (Or.inl ⟨by kernel_rfl, ?_⟩) (by assumption) ?_; rotate_left 1; (focus (intro w hSw; (try dsimp only at hSw); simp only [List.getElem_toArray, List.getElem_cons_succ, List.getElem_cons_zero]; all_goals go_simp; all_goals (try with_reducible rfl))); (try simp only [Act.put, List.getElem_toArray, List.getElem_cons_succ, List.getElem_cons_zero, List.setIfInBounds_toArray, List.set_cons_zero, List.set_cons_succ])
  refine wpAnyH_ready (rs := [7]) (by kernel_rfl) (by simp) ?_; refine AllReadyH.cons (by rfl) (fun K hK => ?_) AllReadyH.nil; rw [if_pos (by kernel_rfl)]; simp only [List.getElem_toArray, List.getElem_cons_succ, List.getElem_cons_zero]
  refine wp_store_mid _ _ _ (by rfl) J 86 #[.int .i64 y0, .int .i64 y1, .int .i64 y2, .int .i64 y3, .int .u32 y4] (by rfl) (by rfl) (fun j hj => by have hj' : j < 5 := hj; have h := H7.out.gb.th (86 + j) (by omega); rwa [Nat.zero_add] at h) infoKey5 (by simp [Value.oneCell']) ?_
  have H8 := Lib.hid (H7.out.key 15 (by decide) y0 y1 y2 y3 y4)
  refine hK.out _ _ trivial (fun hHeld => ?_)
  clear hK K hHeld
  (try simp only [Act.put, List.getElem_toArray, List.getElem_cons_succ, List.getElem_cons_zero, List.setIfInBounds_toArray, List.set_cons_zero, List.set_cons_succ])
  refine wpAnyH_done (by kernel_rfl) ?_ _
  refine NoPanic.normal ?_
  go_wp2_with fail
  go_end0
  exact ⟨⟨_, rfl⟩, H8.out.gb⟩
end
end Go.Proofs.YtllcakiomihipaaGreatDoor
namespace Go.Proofs.YtllcakiomihipaaGreatDoor
open Go.ChangeShapes Go.WideShapes Go.ChangeAt Go.RowKit
set_option linter.unusedVariables false
set_option linter.unusedSimpArgs false
section
variable {w0 wb w w' W : World} {L : BLoc} {X : SLoc} {nd B : Nat} {A : List Nat} {F : Nat → Nat → Value} {l : List Int} {J NB : Nat} {rg : Nat → Int} {pc st ft : Int} {kk : Nat → Nat → Int} {wt : Int} {f f' : Nat → Value}
/-- A domain's words and keys, as it takes a note. -/
def tRg (rg : Nat → Int) (o a b c bd : Int) : Nat → Int := sR (sR (sR (sR (sR rg 0 o) 1 a) 2 b) 3 c) 4 bd
def tKk (kk : Nat → Nat → Int) (m0 m1 m2 m3 m4 : Int) (n0 n1 n2 n3 n4 : Int) (p0 p1 p2 p3 p4 : Int) (y0 y1 y2 y3 y4 : Int) : Nat → Nat → Int := sK (sK (sK (sK kk 12 m0 m1 m2 m3 m4) 13 n0 n1 n2 n3 n4) 14 p0 p1 p2 p3 p4) 15 y0 y1 y2 y3 y4
theorem tKk_right {kk : Nat → Nat → Int} (hR : ∀ q, q < 19 → KRight kk q) (m0 m1 m2 m3 m4 : Int) (n0 n1 n2 n3 n4 : Int) (p0 p1 p2 p3 p4 : Int) (y0 y1 y2 y3 y4 : Int) (hm : rightB m0 m1 m2 m3 m4 = true) (hn : rightB n0 n1 n2 n3 n4 = true) (hp : rightB p0 p1 p2 p3 p4 = true) (hy : rightB y0 y1 y2 y3 y4 = true) : ∀ q, q < 19 → KRight (tKk kk m0 m1 m2 m3 m4 n0 n1 n2 n3 n4 p0 p1 p2 p3 p4 y0 y1 y2 y3 y4) q :=
  sK_right (sK_right (sK_right (sK_right hR 12 _ _ _ _ _ hm) 13 _ _ _ _ _ hn) 14 _ _ _ _ _ hp) 15 _ _ _ _ _ hy
set_option maxRecDepth 100000 in
set_option maxHeartbeats 400000 in
theorem hand1_no (h : GB w0 wb w L X nd B A F l J (RW rg pc st ft kk wt)) (NB DB SB : Nat) (hB : NB ∈ A ∧ DB ∈ A ∧ SB ∈ A) (o a b c bd : Int) (m0 m1 m2 m3 m4 : Int) (n0 n1 n2 n3 n4 : Int) (p0 p1 p2 p3 p4 : Int) (hn : wb.rangeAt NB 0 ([.int .u32 o, .int .u32 a, .int .u32 b, .int .u32 c, .int .i64 m0, .int .i64 m1, .int .i64 m2, .int .i64 m3, .int .u32 m4, .int .i64 n0, .int .i64 n1, .int .i64 n2, .int .i64 n3, .int .u32 n4, .int .i64 p0, .int .i64 p1, .int .i64 p2, .int .i64 p3, .int .u32 p4] : List Value)) (hd : wb.cell? ⟨DB, 0, none⟩ = some (.int .u32 bd)) (hs : wb.cell? ⟨SB, 0, none⟩ = some (.slice none 0 0)) :
    Calls Tryz.prog 75 #[.pointer (some ⟨J, 0, none⟩), .pointer (some ⟨NB, 0, none⟩), .pointer (some ⟨DB, 0, none⟩), .pointer (some ⟨SB, 0, none⟩)] w fun e w' => (∃ v, e = .returned v) ∧ GB w0 wb w' L X nd B A F l J (RW (tRg rg o a b c bd) pc 3 ft (tKk kk m0 m1 m2 m3 m4 n0 n1 n2 n3 n4 p0 p1 p2 p3 p4 0 0 0 0 0) wt) := by
  have H := Lib.hid h
  have HN := Lib.hid (range_same hn (h.gk.eq NB hB.1))
  have c1 := (World.cell?_of_block (a := ⟨DB, 0, none⟩) (h.gk.eq DB hB.2.1)).trans hd
  have c2 := (World.cell?_of_block (a := ⟨SB, 0, none⟩) (h.gk.eq SB hB.2.2)).trans hs
  clear h hn hd hs
  go_enter Tryz.func75, Tryz.ntmps75
  go_upto_region 1 with (first
    | (refine wpList_load_mid (by rfl) _ _ (by rfl) NB 0 (by rfl) ([.int .u32 o, .int .u32 a, .int .u32 b, .int .u32 c, .int .i64 m0, .int .i64 m1, .int .i64 m2, .int .i64 m3, .int .u32 m4, .int .i64 n0, .int .i64 n1, .int .i64 n2, .int .i64 n3, .int .u32 n4, .int .i64 p0, .int .i64 p1, .int .i64 p2, .int .i64 p3, .int .u32 p4] : List Value) _ HN.out Tryz.underlying52 rfl infoNote ?_)
    | (go_at_call 62; (with_reducible refine (ctake_ok H.out o a b c bd m0 m1 m2 m3 m4 n0 n1 n2 n3 n4 p0 p1 p2 p3 p4).mono ?_); rintro e w1 ⟨⟨v, rfl⟩, hg⟩; have H1 := Lib.hid hg; clear hg c1 c2))
  have z9 := H1.out.free 9 (by decide)
  have j9 := H1.out.cell 9 (by decide)
  go_wp2_with fail
  go_end0
  exact ⟨⟨_, rfl⟩, by unfold tRg tKk; rw [← RW_st _ pc st ft _ wt 3]; exact H1.out.set 9 _⟩
set_option maxRecDepth 100000 in
set_option maxHeartbeats 400000 in
theorem change_hand_no (h : GS w0 w L X nd B A F l) (x : Int) (i : Nat) (hx : Hid (x = (i : Int))) (hi : i < nd) (rg : Nat → Int) (pc st ft : Int) (kk : Nat → Nat → Int) (wt : Int) (hF : Hid (F i = RW rg pc st ft kk wt)) (hR : Hid (∀ q, q < 19 → KRight kk q)) (t1 : 0 ≤ ft) (t2 : ft ≤ 6) (u1 : 0 ≤ wt) (u2 : wt ≤ 536870911) (vs vr : Value) (hE : ErrsAt vs vr w0) (NB DB SB : Nat) (hB : NB ∈ A ∧ DB ∈ A ∧ SB ∈ A) (o a b c bd : Int) (m0 m1 m2 m3 m4 : Int) (n0 n1 n2 n3 n4 : Int) (p0 p1 p2 p3 p4 : Int) (hn : w.rangeAt NB 0 ([.int .u32 o, .int .u32 a, .int .u32 b, .int .u32 c, .int .i64 m0, .int .i64 m1, .int .i64 m2, .int .i64 m3, .int .u32 m4, .int .i64 n0, .int .i64 n1, .int .i64 n2, .int .i64 n3, .int .u32 n4, .int .i64 p0, .int .i64 p1, .int .i64 p2, .int .i64 p3, .int .u32 p4] : List Value)) (hd : w.cell? ⟨DB, 0, none⟩ = some (.int .u32 bd)) (hs : w.cell? ⟨SB, 0, none⟩ = some (.slice none 0 0)) (HR2 : Hid (∀ q, q < 19 → KRight (tKk kk m0 m1 m2 m3 m4 n0 n1 n2 n3 n4 p0 p1 p2 p3 p4 0 0 0 0 0) q)) :
    Calls Tryz.prog 47 #[.pointer (some ⟨X.s, 0, none⟩), .int .i64 x, .func (.func 75) #[] #[.pointer (some ⟨NB, 0, none⟩), .pointer (some ⟨DB, 0, none⟩), .pointer (some ⟨SB, 0, none⟩)]] w fun e w' => (∃ v, e = .returned v) ∧ GS w0 w' L X nd B A (setF F i (RW (tRg rg o a b c bd) pc 3 ft (tKk kk m0 m1 m2 m3 m4 n0 n1 n2 n3 n4 p0 p1 p2 p3 p4 0 0 0 0 0) wt)) l ∧ GK A w w' := by
  have H := Lib.hid h
  have HOne : Hid (∀ j, j < 107 → (RW rg pc st ft kk wt j).oneCell' = true) := Lib.hid (fun j _ => RW_one _ _ _ _ _ _ j)
  have HOneF : Hid (∀ j, j < 107 → (F i j).oneCell' = true) := Lib.hid (by rw [hF.out]; exact HOne.out)
  have HE := Lib.hid hE
  have c1 := h.c1
  have HP := Lib.hid (And.intro hB (And.intro hn (And.intro hd hs)))
  clear h hE hB hn hd hs
  go_enter Tryz.func47, Tryz.ntmps47
  go_upto_region 2 with (first
    | (go_at_call 10; (with_reducible refine ((H.out).get x i hx hi HOneF).mono ?_); rintro e w1 ⟨rfl, hb⟩; have HB1 := Lib.hid hb; clear hb)
    | (refine wpList_store_mid (by rfl) _ _ _ (by rfl) w1.heap.size 0 (rowL (F i)).toArray (by rfl) (by rfl) (by rw [rowL_size]; exact nthere_new _ _ 107 zsize _) (by rw [rowL_size]; exact infoDomS) (rowL_one (F i) HOneF.out) ?_))
  generalize hg : World.setCells _ w1.heap.size 0 _ = w2
  obtain ⟨J, hJ⟩ : ∃ J, J = w1.heap.size := ⟨_, rfl⟩
  have H2 : Hid (GB w0 w w2 L X nd B A F l J (RW rg pc st ft kk wt) ∧ Below w.heap.size w w2) := Lib.hid (by rw [← hg, hJ, ← hF.out]; exact ⟨GB.made H.out HB1.out (F i) _ zsize _, nbelow_cells (HB1.out.alloc HB1.out.size _) HB1.out.size _ _⟩)
  rw [← hJ]
  clear hg hJ c1
  have HS := Lib.hid (hand1_no H2.out.1 NB DB SB HP.out.1 o a b c bd m0 m1 m2 m3 m4 n0 n1 n2 n3 n4 p0 p1 p2 p3 p4 HP.out.2.1 HP.out.2.2.1 HP.out.2.2.2)
  go_upto_region 3 with (first | (go_at_call 75; (with_reducible refine HS.out.mono ?_); rintro e w3 ⟨⟨v, rfl⟩, hg⟩; have H3 := Lib.hid hg; clear hg))
  have HSC : Hid (∀ W, Below w3.heap.size w3 W → (World.cell? W ⟨X.s, 1, none⟩ = some (.pointer (some ⟨L.dP, 0, none⟩)) ∧ World.rangeAt W J 0 (rowL (RW (tRg rg o a b c bd) pc 3 ft (tKk kk m0 m1 m2 m3 m4 n0 n1 n2 n3 n4 p0 p1 p2 p3 p4 0 0 0 0 0) wt)))) := (Lib.hid (fun W hW => ⟨((H3.out).below hW).gs.c1, ((H3.out).below hW).r⟩)); obtain ⟨wD, hwD⟩ : ∃ wD, wD = w3.drew := ⟨_, rfl⟩; have HBd : Hid (Below w3.heap.size w3 wD) := (Lib.hid (by rw [hwD]; exact (Below.refl _ _).drew)); refine wp_region_noPanic ?_; refine wp_region_held_drew (S := fun W => (World.cell? W ⟨X.s, 1, none⟩ = some (.pointer (some ⟨L.dP, 0, none⟩)) ∧ World.rangeAt W J 0 (rowL (RW (tRg rg o a b c bd) pc 3 ft (tKk kk m0 m1 m2 m3 m4 n0 n1 n2 n3 n4 p0 p1 p2 p3 p4 0 0 0 0 0) wt)))) (by kernel_rfl) (by rw [← hwD]; exact HSC.out _ HBd.out) (fun hHeld => ?_); rw [← hwD] at hHeld ⊢; clear hwD; refine wpAnyH_take (i := 0) (v := ?_) (by rfl) (by kernel_rfl) (by kernel_rfl) (by kernel_rfl) (fun _ _ _ h => h) (Or.inl ⟨by kernel_rfl, ?_⟩) (by assumption) ?_; rotate_left 1; (focus (intro w hSw; (try dsimp only at hSw); simp only [List.getElem_toArray, List.getElem_cons_succ, List.getElem_cons_zero]; all_goals go_simp; all_goals (try with_reducible rfl))); (try simp only [Act.put, List.getElem_toArray, List.getElem_cons_succ, List.getElem_cons_zero, List.setIfInBounds_toArray, List.set_cons_zero, List.set_cons_succ]); refine wpAnyH_take (i := 1) (v := ?_) (by rfl) (by kernel_rfl) (by kernel_rfl) (by kernel_rfl) (fun _ _ _ h => h) (Or.inl ⟨by kernel_rfl, ?_⟩) (by assumption) ?_; rotate_left 1; (focus (intro w hSw; (try dsimp only at hSw); simp only [List.getElem_toArray, List.getElem_cons_succ, List.getElem_cons_zero]; all_goals go_simp; all_goals (try with_reducible rfl))); (try simp only [Act.put, List.getElem_toArray, List.getElem_cons_succ, List.getElem_cons_zero, List.setIfInBounds_toArray, List.set_cons_zero, List.set_cons_succ]); refine wpAnyH_take (i := 2) (v := ?_) (by rfl) (by kernel_rfl) (by kernel_rfl) (by kernel_rfl) (fun _ _ _ h => h) (Or.inl ⟨by kernel_rfl, ?_⟩) (by assumption) ?_; rotate_left 1; (focus (intro w hSw; (try dsimp only at hSw); simp only [List.getElem_toArray, List.getElem_cons_succ, List.getElem_cons_zero]; all_goals go_simp; all_goals (try with_reducible rfl))); (try simp only [Act.put, List.getElem_toArray, List.getElem_cons_succ, List.getElem_cons_zero, List.setIfInBounds_toArray, List.set_cons_zero, List.set_cons_succ]); refine wpAnyH_take (i := 3) (v := ?_) (by rfl) (by kernel_rfl) (by kernel_rfl) (by kernel_rfl) (fun _ _ _ h => h) (Or.inl ⟨by kernel_rfl, ?_⟩) (by assumption) ?_; rotate_left 1; (focus (intro w hSw; (try dsimp only at hSw); simp only [List.getElem_toArray, List.getElem_cons_succ, List.getElem_cons_zero]; all_goals go_simp; all_goals (try with_reducible rfl))); (try simp only [Act.put, List.getElem_toArray, List.getElem_cons_succ, List.getElem_cons_zero, List.setIfInBounds_toArray, List.set_cons_zero, List.set_cons_succ]); refine wpAnyH_take (i := 4) (v := ?_) (by rfl) (by kernel_rfl) (by kernel_rfl) (by kernel_rfl) (fun _ _ _ h => h) (Or.inl ⟨by kernel_rfl, ?_⟩) (by assumption) ?_; rotate_left 1; (focus (intro w hSw; (try dsimp only at hSw); simp only [List.getElem_toArray, List.getElem_cons_succ, List.getElem_cons_zero]; all_goals go_simp; all_goals (try with_reducible rfl))); (try simp only [Act.put, List.getElem_toArray, List.getElem_cons_succ, List.getElem_cons_zero, List.setIfInBounds_toArray, List.set_cons_zero, List.set_cons_succ]); refine wpAnyH_take (i := 5) (v := .agg (rowL (RW (tRg rg o a b c bd) pc 3 ft (tKk kk m0 m1 m2 m3 m4 n0 n1 n2 n3 n4 p0 p1 p2 p3 p4 0 0 0 0 0) wt)).toArray) (by rfl) (by kernel_rfl) (by kernel_rfl) (by kernel_rfl) (fun _ _ _ h => h) (yieldsIf_load_mid (by kernel_rfl) 34 (.tmp 6) (by rfl) J 0 (by rfl) (rowL (RW (tRg rg o a b c bd) pc 3 ft (tKk kk m0 m1 m2 m3 m4 n0 n1 n2 n3 n4 p0 p1 p2 p3 p4 0 0 0 0 0) wt)) _ (fun w h => h.2) Tryz.underlying34 rfl (by rw [rowL_len]; exact infoDomS)) (by assumption) ?_; (try simp only [Act.put, List.getElem_toArray, List.getElem_cons_succ, List.getElem_cons_zero, List.setIfInBounds_toArray, List.set_cons_zero, List.set_cons_succ]); refine wpAnyH_ready (rs := [6]) (by kernel_rfl) (by simp) ?_; refine AllReadyH.cons (by rfl) (fun K hK => ?_) AllReadyH.nil; rw [if_pos (by kernel_rfl)]; simp only [List.getElem_toArray, List.getElem_cons_succ, List.getElem_cons_zero]; go_wp2_with (first | (go_at_call 11; (with_reducible refine (((H3.out.gs.below HBd.out).put x i hx hi (tRg rg o a b c bd) pc 3 ft (tKk kk m0 m1 m2 m3 m4 n0 n1 n2 n3 n4 p0 p1 p2 p3 p4 0 0 0 0 0) wt HR2 (by decide) (by decide) t1 t2 u1 u2 vs vr HE.out)).mono ?_); rintro e w4 ⟨rfl, hgs, hgk⟩; have H4 := Lib.hid hgs; have K4 := Lib.hid hgk; clear hgs hgk)); refine hK.out _ _ ⟨H4.out.c1, range_same ((H3.out).below HBd.out).r (K4.out.eq J (by simp))⟩ (fun hHeld => ?_); clear hK K; (try simp only [Act.put, List.getElem_toArray, List.getElem_cons_succ, List.getElem_cons_zero, List.setIfInBounds_toArray, List.set_cons_zero, List.set_cons_succ]); refine wpAnyH_done (by kernel_rfl) ?_ _; refine NoPanic.normal ?_
  go_wp2_with fail
  go_end0
  exact ⟨⟨_, rfl⟩, H4.out.tail, H3.out.gk.trans ((GS.keep HBd.out H3.out.gs).tail.trans K4.out.tail)⟩
set_option maxRecDepth 100000 in
set_option maxHeartbeats 400000 in
theorem hand_no (h : GS w0 w L X nd B A F l) (x : Int) (i : Nat) (hx : Hid (x = (i : Int))) (hi : i < nd) (rg : Nat → Int) (pc st ft : Int) (kk : Nat → Nat → Int) (wt : Int) (hF : Hid (F i = RW rg pc st ft kk wt)) (hR : Hid (∀ q, q < 19 → KRight kk q)) (t1 : 0 ≤ ft) (t2 : ft ≤ 6) (u1 : 0 ≤ wt) (u2 : wt ≤ 536870911) (vs vr : Value) (hE : ErrsAt vs vr w0) (hxq : V.wfI x) (hl : l.length ≤ 1000) (hB : B ≤ 1000) (o a b c bd : Int) (m0 m1 m2 m3 m4 : Int) (n0 n1 n2 n3 n4 : Int) (p0 p1 p2 p3 p4 : Int) (hm : rightB m0 m1 m2 m3 m4 = true) (hn : rightB n0 n1 n2 n3 n4 = true) (hp : rightB p0 p1 p2 p3 p4 = true) :
    Calls Tryz.prog 51 #[.pointer (some ⟨X.s, 0, none⟩), .int .i64 x, (Value.agg #[.int .u32 o, .int .u32 a, .int .u32 b, .int .u32 c, .int .i64 m0, .int .i64 m1, .int .i64 m2, .int .i64 m3, .int .u32 m4, .int .i64 n0, .int .i64 n1, .int .i64 n2, .int .i64 n3, .int .u32 n4, .int .i64 p0, .int .i64 p1, .int .i64 p2, .int .i64 p3, .int .u32 p4]), .int .u32 bd, .slice none 0 0] w fun e w' => (∃ v, e = .returned v) ∧ GS w0 w' L X nd (B + 1) A (setF F i (RW (tRg rg o a b c bd) pc 3 ft (tKk kk m0 m1 m2 m3 m4 n0 n1 n2 n3 n4 p0 p1 p2 p3 p4 0 0 0 0 0) wt)) (V.putAll l [x]) ∧ GK A w w' := by
  have H := Lib.hid h
  have HE := Lib.hid hE
  have HR2 := Lib.hid (tKk_right hR.out m0 m1 m2 m3 m4 n0 n1 n2 n3 n4 p0 p1 p2 p3 p4 0 0 0 0 0 hm hn hp (by decide))
  clear h hE
  have HA := Lib.hid (((H.out.more (w' := (w.alloc (.cells ([.int .u32 o, .int .u32 a, .int .u32 b, .int .u32 c, .int .i64 m0, .int .i64 m1, .int .i64 m2, .int .i64 m3, .int .u32 m4, .int .i64 n0, .int .i64 n1, .int .i64 n2, .int .i64 n3, .int .u32 n4, .int .i64 p0, .int .i64 p1, .int .i64 p2, .int .i64 p3, .int .u32 p4] : List Value).toArray 52))) ((Below.refl _ _).alloc (Nat.le_refl _) _) w.heap.size (Nat.le_refl _) (by simp)).more (w' := ((w.alloc (.cells ([.int .u32 o, .int .u32 a, .int .u32 b, .int .u32 c, .int .i64 m0, .int .i64 m1, .int .i64 m2, .int .i64 m3, .int .u32 m4, .int .i64 n0, .int .i64 n1, .int .i64 n2, .int .i64 n3, .int .u32 n4, .int .i64 p0, .int .i64 p1, .int .i64 p2, .int .i64 p3, .int .u32 p4] : List Value).toArray 52)).alloc (.cells #[.int .u32 bd] 26))) ((Below.refl _ _).alloc (Nat.le_refl _) _) (w.heap.size + 1) (by simp) (by simp)).more (w' := (((w.alloc (.cells ([.int .u32 o, .int .u32 a, .int .u32 b, .int .u32 c, .int .i64 m0, .int .i64 m1, .int .i64 m2, .int .i64 m3, .int .u32 m4, .int .i64 n0, .int .i64 n1, .int .i64 n2, .int .i64 n3, .int .u32 n4, .int .i64 p0, .int .i64 p1, .int .i64 p2, .int .i64 p3, .int .u32 p4] : List Value).toArray 52)).alloc (.cells #[.int .u32 bd] 26)).alloc (.cells #[.slice none 0 0] 138))) ((Below.refl _ _).alloc (Nat.le_refl _) _) (w.heap.size + 1 + 1) (by simp) (by simp))
  have b1 : Below w.heap.size w (w.alloc (.cells ([.int .u32 o, .int .u32 a, .int .u32 b, .int .u32 c, .int .i64 m0, .int .i64 m1, .int .i64 m2, .int .i64 m3, .int .u32 m4, .int .i64 n0, .int .i64 n1, .int .i64 n2, .int .i64 n3, .int .u32 n4, .int .i64 p0, .int .i64 p1, .int .i64 p2, .int .i64 p3, .int .u32 p4] : List Value).toArray 52)) := (Below.refl _ _).alloc (Nat.le_refl _) _
  have b2 : Below ((w.alloc (.cells ([.int .u32 o, .int .u32 a, .int .u32 b, .int .u32 c, .int .i64 m0, .int .i64 m1, .int .i64 m2, .int .i64 m3, .int .u32 m4, .int .i64 n0, .int .i64 n1, .int .i64 n2, .int .i64 n3, .int .u32 n4, .int .i64 p0, .int .i64 p1, .int .i64 p2, .int .i64 p3, .int .u32 p4] : List Value).toArray 52)).heap.size) (w.alloc (.cells ([.int .u32 o, .int .u32 a, .int .u32 b, .int .u32 c, .int .i64 m0, .int .i64 m1, .int .i64 m2, .int .i64 m3, .int .u32 m4, .int .i64 n0, .int .i64 n1, .int .i64 n2, .int .i64 n3, .int .u32 n4, .int .i64 p0, .int .i64 p1, .int .i64 p2, .int .i64 p3, .int .u32 p4] : List Value).toArray 52)) ((w.alloc (.cells ([.int .u32 o, .int .u32 a, .int .u32 b, .int .u32 c, .int .i64 m0, .int .i64 m1, .int .i64 m2, .int .i64 m3, .int .u32 m4, .int .i64 n0, .int .i64 n1, .int .i64 n2, .int .i64 n3, .int .u32 n4, .int .i64 p0, .int .i64 p1, .int .i64 p2, .int .i64 p3, .int .u32 p4] : List Value).toArray 52)).alloc (.cells #[.int .u32 bd] 26)) := (Below.refl _ _).alloc (Nat.le_refl _) _
  have b3 : Below (((w.alloc (.cells ([.int .u32 o, .int .u32 a, .int .u32 b, .int .u32 c, .int .i64 m0, .int .i64 m1, .int .i64 m2, .int .i64 m3, .int .u32 m4, .int .i64 n0, .int .i64 n1, .int .i64 n2, .int .i64 n3, .int .u32 n4, .int .i64 p0, .int .i64 p1, .int .i64 p2, .int .i64 p3, .int .u32 p4] : List Value).toArray 52)).alloc (.cells #[.int .u32 bd] 26)).heap.size) ((w.alloc (.cells ([.int .u32 o, .int .u32 a, .int .u32 b, .int .u32 c, .int .i64 m0, .int .i64 m1, .int .i64 m2, .int .i64 m3, .int .u32 m4, .int .i64 n0, .int .i64 n1, .int .i64 n2, .int .i64 n3, .int .u32 n4, .int .i64 p0, .int .i64 p1, .int .i64 p2, .int .i64 p3, .int .u32 p4] : List Value).toArray 52)).alloc (.cells #[.int .u32 bd] 26)) (((w.alloc (.cells ([.int .u32 o, .int .u32 a, .int .u32 b, .int .u32 c, .int .i64 m0, .int .i64 m1, .int .i64 m2, .int .i64 m3, .int .u32 m4, .int .i64 n0, .int .i64 n1, .int .i64 n2, .int .i64 n3, .int .u32 n4, .int .i64 p0, .int .i64 p1, .int .i64 p2, .int .i64 p3, .int .u32 p4] : List Value).toArray 52)).alloc (.cells #[.int .u32 bd] 26)).alloc (.cells #[.slice none 0 0] 138)) := (Below.refl _ _).alloc (Nat.le_refl _) _
  have HB : Hid (Below w.heap.size w (((w.alloc (.cells ([.int .u32 o, .int .u32 a, .int .u32 b, .int .u32 c, .int .i64 m0, .int .i64 m1, .int .i64 m2, .int .i64 m3, .int .u32 m4, .int .i64 n0, .int .i64 n1, .int .i64 n2, .int .i64 n3, .int .u32 n4, .int .i64 p0, .int .i64 p1, .int .i64 p2, .int .i64 p3, .int .u32 p4] : List Value).toArray 52)).alloc (.cells #[.int .u32 bd] 26)).alloc (.cells #[.slice none 0 0] 138))) := Lib.hid (b1.trans ((b2.trans (b3.mono b2.size)).mono b1.size))
  have r0 : World.rangeAt (((w.alloc (.cells ([.int .u32 o, .int .u32 a, .int .u32 b, .int .u32 c, .int .i64 m0, .int .i64 m1, .int .i64 m2, .int .i64 m3, .int .u32 m4, .int .i64 n0, .int .i64 n1, .int .i64 n2, .int .i64 n3, .int .u32 n4, .int .i64 p0, .int .i64 p1, .int .i64 p2, .int .i64 p3, .int .u32 p4] : List Value).toArray 52)).alloc (.cells #[.int .u32 bd] 26)).alloc (.cells #[.slice none 0 0] 138)) w.heap.size 0 ([.int .u32 o, .int .u32 a, .int .u32 b, .int .u32 c, .int .i64 m0, .int .i64 m1, .int .i64 m2, .int .i64 m3, .int .u32 m4, .int .i64 n0, .int .i64 n1, .int .i64 n2, .int .i64 n3, .int .u32 n4, .int .i64 p0, .int .i64 p1, .int .i64 p2, .int .i64 p3, .int .u32 p4] : List Value) := range_below (cbox w ([.int .u32 o, .int .u32 a, .int .u32 b, .int .u32 c, .int .i64 m0, .int .i64 m1, .int .i64 m2, .int .i64 m3, .int .u32 m4, .int .i64 n0, .int .i64 n1, .int .i64 n2, .int .i64 n3, .int .u32 n4, .int .i64 p0, .int .i64 p1, .int .i64 p2, .int .i64 p3, .int .u32 p4] : List Value) _) (b2.trans (b3.mono b2.size)) (by simp)
  have z1 : (w.alloc (.cells ([.int .u32 o, .int .u32 a, .int .u32 b, .int .u32 c, .int .i64 m0, .int .i64 m1, .int .i64 m2, .int .i64 m3, .int .u32 m4, .int .i64 n0, .int .i64 n1, .int .i64 n2, .int .i64 n3, .int .u32 n4, .int .i64 p0, .int .i64 p1, .int .i64 p2, .int .i64 p3, .int .u32 p4] : List Value).toArray 52)).heap.size = w.heap.size + 1 := by simp
  have z2 : ((w.alloc (.cells ([.int .u32 o, .int .u32 a, .int .u32 b, .int .u32 c, .int .i64 m0, .int .i64 m1, .int .i64 m2, .int .i64 m3, .int .u32 m4, .int .i64 n0, .int .i64 n1, .int .i64 n2, .int .i64 n3, .int .u32 n4, .int .i64 p0, .int .i64 p1, .int .i64 p2, .int .i64 p3, .int .u32 p4] : List Value).toArray 52)).alloc (.cells #[.int .u32 bd] 26)).heap.size = w.heap.size + 1 + 1 := by simp
  have e1 : World.cell? ((w.alloc (.cells ([.int .u32 o, .int .u32 a, .int .u32 b, .int .u32 c, .int .i64 m0, .int .i64 m1, .int .i64 m2, .int .i64 m3, .int .u32 m4, .int .i64 n0, .int .i64 n1, .int .i64 n2, .int .i64 n3, .int .u32 n4, .int .i64 p0, .int .i64 p1, .int .i64 p2, .int .i64 p3, .int .u32 p4] : List Value).toArray 52)).alloc (.cells #[.int .u32 bd] 26)) ⟨w.heap.size + 1, 0, none⟩ = some (.int .u32 bd) := by
    have h9 := cbox (w.alloc (.cells ([.int .u32 o, .int .u32 a, .int .u32 b, .int .u32 c, .int .i64 m0, .int .i64 m1, .int .i64 m2, .int .i64 m3, .int .u32 m4, .int .i64 n0, .int .i64 n1, .int .i64 n2, .int .i64 n3, .int .u32 n4, .int .i64 p0, .int .i64 p1, .int .i64 p2, .int .i64 p3, .int .u32 p4] : List Value).toArray 52)) [.int .u32 bd] 26 0 _ rfl
    rw [z1] at h9
    exact h9
  have d1 : World.cell? (((w.alloc (.cells ([.int .u32 o, .int .u32 a, .int .u32 b, .int .u32 c, .int .i64 m0, .int .i64 m1, .int .i64 m2, .int .i64 m3, .int .u32 m4, .int .i64 n0, .int .i64 n1, .int .i64 n2, .int .i64 n3, .int .u32 n4, .int .i64 p0, .int .i64 p1, .int .i64 p2, .int .i64 p3, .int .u32 p4] : List Value).toArray 52)).alloc (.cells #[.int .u32 bd] 26)).alloc (.cells #[.slice none 0 0] 138)) ⟨w.heap.size + 1, 0, none⟩ = some (.int .u32 bd) := (b3.cell (p := ⟨w.heap.size + 1, 0, none⟩) (by rw [z2]; exact Nat.lt_succ_self _)).trans e1
  have d2 : World.cell? (((w.alloc (.cells ([.int .u32 o, .int .u32 a, .int .u32 b, .int .u32 c, .int .i64 m0, .int .i64 m1, .int .i64 m2, .int .i64 m3, .int .u32 m4, .int .i64 n0, .int .i64 n1, .int .i64 n2, .int .i64 n3, .int .u32 n4, .int .i64 p0, .int .i64 p1, .int .i64 p2, .int .i64 p3, .int .u32 p4] : List Value).toArray 52)).alloc (.cells #[.int .u32 bd] 26)).alloc (.cells #[.slice none 0 0] 138)) ⟨w.heap.size + 1 + 1, 0, none⟩ = some (.slice none 0 0) := by
    have h9 := cbox ((w.alloc (.cells ([.int .u32 o, .int .u32 a, .int .u32 b, .int .u32 c, .int .i64 m0, .int .i64 m1, .int .i64 m2, .int .i64 m3, .int .u32 m4, .int .i64 n0, .int .i64 n1, .int .i64 n2, .int .i64 n3, .int .u32 n4, .int .i64 p0, .int .i64 p1, .int .i64 p2, .int .i64 p3, .int .u32 p4] : List Value).toArray 52)).alloc (.cells #[.int .u32 bd] 26)) [.slice none 0 0] 138 0 _ rfl
    rw [z2] at h9
    exact h9
  have HC := Lib.hid (change_hand_no HA.out x i hx hi rg pc st ft kk wt hF hR t1 t2 u1 u2 vs vr HE.out w.heap.size (w.heap.size + 1) (w.heap.size + 1 + 1) ⟨by simp, by simp, by simp⟩ o a b c bd m0 m1 m2 m3 m4 n0 n1 n2 n3 n4 p0 p1 p2 p3 p4 r0 d1 d2 HR2)
  clear b1 b2 b3 r0 d1 d2 e1 z1 z2
  go_enter Tryz.func51, Tryz.ntmps51
  go_wp2_with (first
    | (go_at_call 47; (with_reducible refine HC.out.mono ?_); rintro e w1 ⟨⟨v, rfl⟩, hg, hk⟩; have H1 := Lib.hid hg; have K1 := Lib.hid hk; clear hg hk; have c5 := H1.out.c5)
    | (go_at_call 63; (with_reducible refine (H1.out.qput x hxq hl hB).mono ?_); rintro e w2 ⟨⟨v2, rfl⟩, hg, hk⟩; have H2 := Lib.hid hg; have K2 := Lib.hid hk; clear hg hk))
  go_end0
  exact ⟨⟨_, rfl⟩, H2.out.tail.tail.tail, (GS.keep HB.out H.out).trans (K1.out.tail.tail.tail.trans K2.out.tail.tail.tail)⟩
set_option maxRecDepth 100000 in
set_option maxHeartbeats 400000 in
theorem hand1_key (C cp : Nat) (h : GB w0 wb w L X nd B A F l J (RW rg pc st ft kk wt)) (NB DB SB : Nat) (hB : NB ∈ A ∧ DB ∈ A ∧ SB ∈ A) (o a b c bd : Int) (m0 m1 m2 m3 m4 : Int) (n0 n1 n2 n3 n4 : Int) (p0 p1 p2 p3 p4 : Int) (hn : wb.rangeAt NB 0 ([.int .u32 o, .int .u32 a, .int .u32 b, .int .u32 c, .int .i64 m0, .int .i64 m1, .int .i64 m2, .int .i64 m3, .int .u32 m4, .int .i64 n0, .int .i64 n1, .int .i64 n2, .int .i64 n3, .int .u32 n4, .int .i64 p0, .int .i64 p1, .int .i64 p2, .int .i64 p3, .int .u32 p4] : List Value)) (hd : wb.cell? ⟨DB, 0, none⟩ = some (.int .u32 bd)) (hs : wb.cell? ⟨SB, 0, none⟩ = some (.slice (some ⟨C, 0, none⟩) 1 cp)) (y0 y1 y2 y3 y4 : Int) (hC : C ∈ A) (hk : KeyC wb C y0 y1 y2 y3 y4) :
    Calls Tryz.prog 75 #[.pointer (some ⟨J, 0, none⟩), .pointer (some ⟨NB, 0, none⟩), .pointer (some ⟨DB, 0, none⟩), .pointer (some ⟨SB, 0, none⟩)] w fun e w' => (∃ v, e = .returned v) ∧ GB w0 wb w' L X nd B A F l J (RW (tRg rg o a b c bd) pc 3 ft (tKk kk m0 m1 m2 m3 m4 n0 n1 n2 n3 n4 p0 p1 p2 p3 p4 y0 y1 y2 y3 y4) wt) := by
  have H := Lib.hid h
  have HN := Lib.hid (range_same hn (h.gk.eq NB hB.1))
  have c1 := (World.cell?_of_block (a := ⟨DB, 0, none⟩) (h.gk.eq DB hB.2.1)).trans hd
  have c2 := (World.cell?_of_block (a := ⟨SB, 0, none⟩) (h.gk.eq SB hB.2.2)).trans hs
  have HK := Lib.hid (And.intro hC hk)
  clear hC hk
  clear h hn hd hs
  go_enter Tryz.func75, Tryz.ntmps75
  go_upto_region 1 with (first
    | (refine wpList_load_mid (by rfl) _ _ (by rfl) NB 0 (by rfl) ([.int .u32 o, .int .u32 a, .int .u32 b, .int .u32 c, .int .i64 m0, .int .i64 m1, .int .i64 m2, .int .i64 m3, .int .u32 m4, .int .i64 n0, .int .i64 n1, .int .i64 n2, .int .i64 n3, .int .u32 n4, .int .i64 p0, .int .i64 p1, .int .i64 p2, .int .i64 p3, .int .u32 p4] : List Value) _ HN.out Tryz.underlying52 rfl infoNote ?_)
    | (go_at_call 62; (with_reducible refine (ctake_key H.out o a b c bd m0 m1 m2 m3 m4 n0 n1 n2 n3 n4 p0 p1 p2 p3 p4 C cp y0 y1 y2 y3 y4 HK.out.1 HK.out.2).mono ?_); rintro e w1 ⟨⟨v, rfl⟩, hg⟩; have H1 := Lib.hid hg; clear hg c1 c2))
  have z9 := H1.out.free 9 (by decide)
  have j9 := H1.out.cell 9 (by decide)
  go_wp2_with fail
  go_end0
  exact ⟨⟨_, rfl⟩, by unfold tRg tKk; rw [← RW_st _ pc st ft _ wt 3]; exact H1.out.set 9 _⟩
set_option maxRecDepth 100000 in
set_option maxHeartbeats 400000 in
theorem change_hand_key (C cp : Nat) (h : GS w0 w L X nd B A F l) (x : Int) (i : Nat) (hx : Hid (x = (i : Int))) (hi : i < nd) (rg : Nat → Int) (pc st ft : Int) (kk : Nat → Nat → Int) (wt : Int) (hF : Hid (F i = RW rg pc st ft kk wt)) (hR : Hid (∀ q, q < 19 → KRight kk q)) (t1 : 0 ≤ ft) (t2 : ft ≤ 6) (u1 : 0 ≤ wt) (u2 : wt ≤ 536870911) (vs vr : Value) (hE : ErrsAt vs vr w0) (NB DB SB : Nat) (hB : NB ∈ A ∧ DB ∈ A ∧ SB ∈ A) (o a b c bd : Int) (m0 m1 m2 m3 m4 : Int) (n0 n1 n2 n3 n4 : Int) (p0 p1 p2 p3 p4 : Int) (hn : w.rangeAt NB 0 ([.int .u32 o, .int .u32 a, .int .u32 b, .int .u32 c, .int .i64 m0, .int .i64 m1, .int .i64 m2, .int .i64 m3, .int .u32 m4, .int .i64 n0, .int .i64 n1, .int .i64 n2, .int .i64 n3, .int .u32 n4, .int .i64 p0, .int .i64 p1, .int .i64 p2, .int .i64 p3, .int .u32 p4] : List Value)) (hd : w.cell? ⟨DB, 0, none⟩ = some (.int .u32 bd)) (hs : w.cell? ⟨SB, 0, none⟩ = some (.slice (some ⟨C, 0, none⟩) 1 cp)) (y0 y1 y2 y3 y4 : Int) (hC : C ∈ A) (hk : KeyC w C y0 y1 y2 y3 y4) (HR2 : Hid (∀ q, q < 19 → KRight (tKk kk m0 m1 m2 m3 m4 n0 n1 n2 n3 n4 p0 p1 p2 p3 p4 y0 y1 y2 y3 y4) q)) :
    Calls Tryz.prog 47 #[.pointer (some ⟨X.s, 0, none⟩), .int .i64 x, .func (.func 75) #[] #[.pointer (some ⟨NB, 0, none⟩), .pointer (some ⟨DB, 0, none⟩), .pointer (some ⟨SB, 0, none⟩)]] w fun e w' => (∃ v, e = .returned v) ∧ GS w0 w' L X nd B A (setF F i (RW (tRg rg o a b c bd) pc 3 ft (tKk kk m0 m1 m2 m3 m4 n0 n1 n2 n3 n4 p0 p1 p2 p3 p4 y0 y1 y2 y3 y4) wt)) l ∧ GK A w w' := by
  have H := Lib.hid h
  have HOne : Hid (∀ j, j < 107 → (RW rg pc st ft kk wt j).oneCell' = true) := Lib.hid (fun j _ => RW_one _ _ _ _ _ _ j)
  have HOneF : Hid (∀ j, j < 107 → (F i j).oneCell' = true) := Lib.hid (by rw [hF.out]; exact HOne.out)
  have HE := Lib.hid hE
  have c1 := h.c1
  have HP := Lib.hid (And.intro hB (And.intro hn (And.intro hd hs)))
  have HK := Lib.hid (And.intro hC hk)
  clear hC hk
  clear h hE hB hn hd hs
  go_enter Tryz.func47, Tryz.ntmps47
  go_upto_region 2 with (first
    | (go_at_call 10; (with_reducible refine ((H.out).get x i hx hi HOneF).mono ?_); rintro e w1 ⟨rfl, hb⟩; have HB1 := Lib.hid hb; clear hb)
    | (refine wpList_store_mid (by rfl) _ _ _ (by rfl) w1.heap.size 0 (rowL (F i)).toArray (by rfl) (by rfl) (by rw [rowL_size]; exact nthere_new _ _ 107 zsize _) (by rw [rowL_size]; exact infoDomS) (rowL_one (F i) HOneF.out) ?_))
  generalize hg : World.setCells _ w1.heap.size 0 _ = w2
  obtain ⟨J, hJ⟩ : ∃ J, J = w1.heap.size := ⟨_, rfl⟩
  have H2 : Hid (GB w0 w w2 L X nd B A F l J (RW rg pc st ft kk wt) ∧ Below w.heap.size w w2) := Lib.hid (by rw [← hg, hJ, ← hF.out]; exact ⟨GB.made H.out HB1.out (F i) _ zsize _, nbelow_cells (HB1.out.alloc HB1.out.size _) HB1.out.size _ _⟩)
  rw [← hJ]
  clear hg hJ c1
  have HS := Lib.hid (hand1_key C cp H2.out.1 NB DB SB HP.out.1 o a b c bd m0 m1 m2 m3 m4 n0 n1 n2 n3 n4 p0 p1 p2 p3 p4 HP.out.2.1 HP.out.2.2.1 HP.out.2.2.2 y0 y1 y2 y3 y4 HK.out.1 HK.out.2)
  go_upto_region 3 with (first | (go_at_call 75; (with_reducible refine HS.out.mono ?_); rintro e w3 ⟨⟨v, rfl⟩, hg⟩; have H3 := Lib.hid hg; clear hg))
  have HSC : Hid (∀ W, Below w3.heap.size w3 W → (World.cell? W ⟨X.s, 1, none⟩ = some (.pointer (some ⟨L.dP, 0, none⟩)) ∧ World.rangeAt W J 0 (rowL (RW (tRg rg o a b c bd) pc 3 ft (tKk kk m0 m1 m2 m3 m4 n0 n1 n2 n3 n4 p0 p1 p2 p3 p4 y0 y1 y2 y3 y4) wt)))) := (Lib.hid (fun W hW => ⟨((H3.out).below hW).gs.c1, ((H3.out).below hW).r⟩)); obtain ⟨wD, hwD⟩ : ∃ wD, wD = w3.drew := ⟨_, rfl⟩; have HBd : Hid (Below w3.heap.size w3 wD) := (Lib.hid (by rw [hwD]; exact (Below.refl _ _).drew)); refine wp_region_noPanic ?_; refine wp_region_held_drew (S := fun W => (World.cell? W ⟨X.s, 1, none⟩ = some (.pointer (some ⟨L.dP, 0, none⟩)) ∧ World.rangeAt W J 0 (rowL (RW (tRg rg o a b c bd) pc 3 ft (tKk kk m0 m1 m2 m3 m4 n0 n1 n2 n3 n4 p0 p1 p2 p3 p4 y0 y1 y2 y3 y4) wt)))) (by kernel_rfl) (by rw [← hwD]; exact HSC.out _ HBd.out) (fun hHeld => ?_); rw [← hwD] at hHeld ⊢; clear hwD; refine wpAnyH_take (i := 0) (v := ?_) (by rfl) (by kernel_rfl) (by kernel_rfl) (by kernel_rfl) (fun _ _ _ h => h) (Or.inl ⟨by kernel_rfl, ?_⟩) (by assumption) ?_; rotate_left 1; (focus (intro w hSw; (try dsimp only at hSw); simp only [List.getElem_toArray, List.getElem_cons_succ, List.getElem_cons_zero]; all_goals go_simp; all_goals (try with_reducible rfl))); (try simp only [Act.put, List.getElem_toArray, List.getElem_cons_succ, List.getElem_cons_zero, List.setIfInBounds_toArray, List.set_cons_zero, List.set_cons_succ]); refine wpAnyH_take (i := 1) (v := ?_) (by rfl) (by kernel_rfl) (by kernel_rfl) (by kernel_rfl) (fun _ _ _ h => h) (Or.inl ⟨by kernel_rfl, ?_⟩) (by assumption) ?_; rotate_left 1; (focus (intro w hSw; (try dsimp only at hSw); simp only [List.getElem_toArray, List.getElem_cons_succ, List.getElem_cons_zero]; all_goals go_simp; all_goals (try with_reducible rfl))); (try simp only [Act.put, List.getElem_toArray, List.getElem_cons_succ, List.getElem_cons_zero, List.setIfInBounds_toArray, List.set_cons_zero, List.set_cons_succ]); refine wpAnyH_take (i := 2) (v := ?_) (by rfl) (by kernel_rfl) (by kernel_rfl) (by kernel_rfl) (fun _ _ _ h => h) (Or.inl ⟨by kernel_rfl, ?_⟩) (by assumption) ?_; rotate_left 1; (focus (intro w hSw; (try dsimp only at hSw); simp only [List.getElem_toArray, List.getElem_cons_succ, List.getElem_cons_zero]; all_goals go_simp; all_goals (try with_reducible rfl))); (try simp only [Act.put, List.getElem_toArray, List.getElem_cons_succ, List.getElem_cons_zero, List.setIfInBounds_toArray, List.set_cons_zero, List.set_cons_succ]); refine wpAnyH_take (i := 3) (v := ?_) (by rfl) (by kernel_rfl) (by kernel_rfl) (by kernel_rfl) (fun _ _ _ h => h) (Or.inl ⟨by kernel_rfl, ?_⟩) (by assumption) ?_; rotate_left 1; (focus (intro w hSw; (try dsimp only at hSw); simp only [List.getElem_toArray, List.getElem_cons_succ, List.getElem_cons_zero]; all_goals go_simp; all_goals (try with_reducible rfl))); (try simp only [Act.put, List.getElem_toArray, List.getElem_cons_succ, List.getElem_cons_zero, List.setIfInBounds_toArray, List.set_cons_zero, List.set_cons_succ]); refine wpAnyH_take (i := 4) (v := ?_) (by rfl) (by kernel_rfl) (by kernel_rfl) (by kernel_rfl) (fun _ _ _ h => h) (Or.inl ⟨by kernel_rfl, ?_⟩) (by assumption) ?_; rotate_left 1; (focus (intro w hSw; (try dsimp only at hSw); simp only [List.getElem_toArray, List.getElem_cons_succ, List.getElem_cons_zero]; all_goals go_simp; all_goals (try with_reducible rfl))); (try simp only [Act.put, List.getElem_toArray, List.getElem_cons_succ, List.getElem_cons_zero, List.setIfInBounds_toArray, List.set_cons_zero, List.set_cons_succ]); refine wpAnyH_take (i := 5) (v := .agg (rowL (RW (tRg rg o a b c bd) pc 3 ft (tKk kk m0 m1 m2 m3 m4 n0 n1 n2 n3 n4 p0 p1 p2 p3 p4 y0 y1 y2 y3 y4) wt)).toArray) (by rfl) (by kernel_rfl) (by kernel_rfl) (by kernel_rfl) (fun _ _ _ h => h) (yieldsIf_load_mid (by kernel_rfl) 34 (.tmp 6) (by rfl) J 0 (by rfl) (rowL (RW (tRg rg o a b c bd) pc 3 ft (tKk kk m0 m1 m2 m3 m4 n0 n1 n2 n3 n4 p0 p1 p2 p3 p4 y0 y1 y2 y3 y4) wt)) _ (fun w h => h.2) Tryz.underlying34 rfl (by rw [rowL_len]; exact infoDomS)) (by assumption) ?_; (try simp only [Act.put, List.getElem_toArray, List.getElem_cons_succ, List.getElem_cons_zero, List.setIfInBounds_toArray, List.set_cons_zero, List.set_cons_succ]); refine wpAnyH_ready (rs := [6]) (by kernel_rfl) (by simp) ?_; refine AllReadyH.cons (by rfl) (fun K hK => ?_) AllReadyH.nil; rw [if_pos (by kernel_rfl)]; simp only [List.getElem_toArray, List.getElem_cons_succ, List.getElem_cons_zero]; go_wp2_with (first | (go_at_call 11; (with_reducible refine (((H3.out.gs.below HBd.out).put x i hx hi (tRg rg o a b c bd) pc 3 ft (tKk kk m0 m1 m2 m3 m4 n0 n1 n2 n3 n4 p0 p1 p2 p3 p4 y0 y1 y2 y3 y4) wt HR2 (by decide) (by decide) t1 t2 u1 u2 vs vr HE.out)).mono ?_); rintro e w4 ⟨rfl, hgs, hgk⟩; have H4 := Lib.hid hgs; have K4 := Lib.hid hgk; clear hgs hgk)); refine hK.out _ _ ⟨H4.out.c1, range_same ((H3.out).below HBd.out).r (K4.out.eq J (by simp))⟩ (fun hHeld => ?_); clear hK K; (try simp only [Act.put, List.getElem_toArray, List.getElem_cons_succ, List.getElem_cons_zero, List.setIfInBounds_toArray, List.set_cons_zero, List.set_cons_succ]); refine wpAnyH_done (by kernel_rfl) ?_ _; refine NoPanic.normal ?_
  go_wp2_with fail
  go_end0
  exact ⟨⟨_, rfl⟩, H4.out.tail, H3.out.gk.trans ((GS.keep HBd.out H3.out.gs).tail.trans K4.out.tail)⟩
set_option maxRecDepth 100000 in
set_option maxHeartbeats 400000 in
theorem hand_key (C cp : Nat) (h : GS w0 w L X nd B A F l) (x : Int) (i : Nat) (hx : Hid (x = (i : Int))) (hi : i < nd) (rg : Nat → Int) (pc st ft : Int) (kk : Nat → Nat → Int) (wt : Int) (hF : Hid (F i = RW rg pc st ft kk wt)) (hR : Hid (∀ q, q < 19 → KRight kk q)) (t1 : 0 ≤ ft) (t2 : ft ≤ 6) (u1 : 0 ≤ wt) (u2 : wt ≤ 536870911) (vs vr : Value) (hE : ErrsAt vs vr w0) (hxq : V.wfI x) (hl : l.length ≤ 1000) (hB : B ≤ 1000) (o a b c bd : Int) (m0 m1 m2 m3 m4 : Int) (n0 n1 n2 n3 n4 : Int) (p0 p1 p2 p3 p4 : Int) (y0 y1 y2 y3 y4 : Int) (hC : C ∈ A) (hk : KeyC w C y0 y1 y2 y3 y4) (hm : rightB m0 m1 m2 m3 m4 = true) (hn : rightB n0 n1 n2 n3 n4 = true) (hp : rightB p0 p1 p2 p3 p4 = true) (hy : rightB y0 y1 y2 y3 y4 = true) :
    Calls Tryz.prog 51 #[.pointer (some ⟨X.s, 0, none⟩), .int .i64 x, (Value.agg #[.int .u32 o, .int .u32 a, .int .u32 b, .int .u32 c, .int .i64 m0, .int .i64 m1, .int .i64 m2, .int .i64 m3, .int .u32 m4, .int .i64 n0, .int .i64 n1, .int .i64 n2, .int .i64 n3, .int .u32 n4, .int .i64 p0, .int .i64 p1, .int .i64 p2, .int .i64 p3, .int .u32 p4]), .int .u32 bd, .slice (some ⟨C, 0, none⟩) 1 cp] w fun e w' => (∃ v, e = .returned v) ∧ GS w0 w' L X nd (B + 1) A (setF F i (RW (tRg rg o a b c bd) pc 3 ft (tKk kk m0 m1 m2 m3 m4 n0 n1 n2 n3 n4 p0 p1 p2 p3 p4 y0 y1 y2 y3 y4) wt)) (V.putAll l [x]) ∧ GK A w w' := by
  have H := Lib.hid h
  have HE := Lib.hid hE
  have HR2 := Lib.hid (tKk_right hR.out m0 m1 m2 m3 m4 n0 n1 n2 n3 n4 p0 p1 p2 p3 p4 y0 y1 y2 y3 y4 hm hn hp hy)
  have HK := Lib.hid (And.intro hC hk)
  clear hC hk
  clear h hE
  have HA := Lib.hid (((H.out.more (w' := (w.alloc (.cells ([.int .u32 o, .int .u32 a, .int .u32 b, .int .u32 c, .int .i64 m0, .int .i64 m1, .int .i64 m2, .int .i64 m3, .int .u32 m4, .int .i64 n0, .int .i64 n1, .int .i64 n2, .int .i64 n3, .int .u32 n4, .int .i64 p0, .int .i64 p1, .int .i64 p2, .int .i64 p3, .int .u32 p4] : List Value).toArray 52))) ((Below.refl _ _).alloc (Nat.le_refl _) _) w.heap.size (Nat.le_refl _) (by simp)).more (w' := ((w.alloc (.cells ([.int .u32 o, .int .u32 a, .int .u32 b, .int .u32 c, .int .i64 m0, .int .i64 m1, .int .i64 m2, .int .i64 m3, .int .u32 m4, .int .i64 n0, .int .i64 n1, .int .i64 n2, .int .i64 n3, .int .u32 n4, .int .i64 p0, .int .i64 p1, .int .i64 p2, .int .i64 p3, .int .u32 p4] : List Value).toArray 52)).alloc (.cells #[.int .u32 bd] 26))) ((Below.refl _ _).alloc (Nat.le_refl _) _) (w.heap.size + 1) (by simp) (by simp)).more (w' := (((w.alloc (.cells ([.int .u32 o, .int .u32 a, .int .u32 b, .int .u32 c, .int .i64 m0, .int .i64 m1, .int .i64 m2, .int .i64 m3, .int .u32 m4, .int .i64 n0, .int .i64 n1, .int .i64 n2, .int .i64 n3, .int .u32 n4, .int .i64 p0, .int .i64 p1, .int .i64 p2, .int .i64 p3, .int .u32 p4] : List Value).toArray 52)).alloc (.cells #[.int .u32 bd] 26)).alloc (.cells #[.slice (some ⟨C, 0, none⟩) 1 cp] 138))) ((Below.refl _ _).alloc (Nat.le_refl _) _) (w.heap.size + 1 + 1) (by simp) (by simp))
  have b1 : Below w.heap.size w (w.alloc (.cells ([.int .u32 o, .int .u32 a, .int .u32 b, .int .u32 c, .int .i64 m0, .int .i64 m1, .int .i64 m2, .int .i64 m3, .int .u32 m4, .int .i64 n0, .int .i64 n1, .int .i64 n2, .int .i64 n3, .int .u32 n4, .int .i64 p0, .int .i64 p1, .int .i64 p2, .int .i64 p3, .int .u32 p4] : List Value).toArray 52)) := (Below.refl _ _).alloc (Nat.le_refl _) _
  have b2 : Below ((w.alloc (.cells ([.int .u32 o, .int .u32 a, .int .u32 b, .int .u32 c, .int .i64 m0, .int .i64 m1, .int .i64 m2, .int .i64 m3, .int .u32 m4, .int .i64 n0, .int .i64 n1, .int .i64 n2, .int .i64 n3, .int .u32 n4, .int .i64 p0, .int .i64 p1, .int .i64 p2, .int .i64 p3, .int .u32 p4] : List Value).toArray 52)).heap.size) (w.alloc (.cells ([.int .u32 o, .int .u32 a, .int .u32 b, .int .u32 c, .int .i64 m0, .int .i64 m1, .int .i64 m2, .int .i64 m3, .int .u32 m4, .int .i64 n0, .int .i64 n1, .int .i64 n2, .int .i64 n3, .int .u32 n4, .int .i64 p0, .int .i64 p1, .int .i64 p2, .int .i64 p3, .int .u32 p4] : List Value).toArray 52)) ((w.alloc (.cells ([.int .u32 o, .int .u32 a, .int .u32 b, .int .u32 c, .int .i64 m0, .int .i64 m1, .int .i64 m2, .int .i64 m3, .int .u32 m4, .int .i64 n0, .int .i64 n1, .int .i64 n2, .int .i64 n3, .int .u32 n4, .int .i64 p0, .int .i64 p1, .int .i64 p2, .int .i64 p3, .int .u32 p4] : List Value).toArray 52)).alloc (.cells #[.int .u32 bd] 26)) := (Below.refl _ _).alloc (Nat.le_refl _) _
  have b3 : Below (((w.alloc (.cells ([.int .u32 o, .int .u32 a, .int .u32 b, .int .u32 c, .int .i64 m0, .int .i64 m1, .int .i64 m2, .int .i64 m3, .int .u32 m4, .int .i64 n0, .int .i64 n1, .int .i64 n2, .int .i64 n3, .int .u32 n4, .int .i64 p0, .int .i64 p1, .int .i64 p2, .int .i64 p3, .int .u32 p4] : List Value).toArray 52)).alloc (.cells #[.int .u32 bd] 26)).heap.size) ((w.alloc (.cells ([.int .u32 o, .int .u32 a, .int .u32 b, .int .u32 c, .int .i64 m0, .int .i64 m1, .int .i64 m2, .int .i64 m3, .int .u32 m4, .int .i64 n0, .int .i64 n1, .int .i64 n2, .int .i64 n3, .int .u32 n4, .int .i64 p0, .int .i64 p1, .int .i64 p2, .int .i64 p3, .int .u32 p4] : List Value).toArray 52)).alloc (.cells #[.int .u32 bd] 26)) (((w.alloc (.cells ([.int .u32 o, .int .u32 a, .int .u32 b, .int .u32 c, .int .i64 m0, .int .i64 m1, .int .i64 m2, .int .i64 m3, .int .u32 m4, .int .i64 n0, .int .i64 n1, .int .i64 n2, .int .i64 n3, .int .u32 n4, .int .i64 p0, .int .i64 p1, .int .i64 p2, .int .i64 p3, .int .u32 p4] : List Value).toArray 52)).alloc (.cells #[.int .u32 bd] 26)).alloc (.cells #[.slice (some ⟨C, 0, none⟩) 1 cp] 138)) := (Below.refl _ _).alloc (Nat.le_refl _) _
  have HB : Hid (Below w.heap.size w (((w.alloc (.cells ([.int .u32 o, .int .u32 a, .int .u32 b, .int .u32 c, .int .i64 m0, .int .i64 m1, .int .i64 m2, .int .i64 m3, .int .u32 m4, .int .i64 n0, .int .i64 n1, .int .i64 n2, .int .i64 n3, .int .u32 n4, .int .i64 p0, .int .i64 p1, .int .i64 p2, .int .i64 p3, .int .u32 p4] : List Value).toArray 52)).alloc (.cells #[.int .u32 bd] 26)).alloc (.cells #[.slice (some ⟨C, 0, none⟩) 1 cp] 138))) := Lib.hid (b1.trans ((b2.trans (b3.mono b2.size)).mono b1.size))
  have r0 : World.rangeAt (((w.alloc (.cells ([.int .u32 o, .int .u32 a, .int .u32 b, .int .u32 c, .int .i64 m0, .int .i64 m1, .int .i64 m2, .int .i64 m3, .int .u32 m4, .int .i64 n0, .int .i64 n1, .int .i64 n2, .int .i64 n3, .int .u32 n4, .int .i64 p0, .int .i64 p1, .int .i64 p2, .int .i64 p3, .int .u32 p4] : List Value).toArray 52)).alloc (.cells #[.int .u32 bd] 26)).alloc (.cells #[.slice (some ⟨C, 0, none⟩) 1 cp] 138)) w.heap.size 0 ([.int .u32 o, .int .u32 a, .int .u32 b, .int .u32 c, .int .i64 m0, .int .i64 m1, .int .i64 m2, .int .i64 m3, .int .u32 m4, .int .i64 n0, .int .i64 n1, .int .i64 n2, .int .i64 n3, .int .u32 n4, .int .i64 p0, .int .i64 p1, .int .i64 p2, .int .i64 p3, .int .u32 p4] : List Value) := range_below (cbox w ([.int .u32 o, .int .u32 a, .int .u32 b, .int .u32 c, .int .i64 m0, .int .i64 m1, .int .i64 m2, .int .i64 m3, .int .u32 m4, .int .i64 n0, .int .i64 n1, .int .i64 n2, .int .i64 n3, .int .u32 n4, .int .i64 p0, .int .i64 p1, .int .i64 p2, .int .i64 p3, .int .u32 p4] : List Value) _) (b2.trans (b3.mono b2.size)) (by simp)
  have z1 : (w.alloc (.cells ([.int .u32 o, .int .u32 a, .int .u32 b, .int .u32 c, .int .i64 m0, .int .i64 m1, .int .i64 m2, .int .i64 m3, .int .u32 m4, .int .i64 n0, .int .i64 n1, .int .i64 n2, .int .i64 n3, .int .u32 n4, .int .i64 p0, .int .i64 p1, .int .i64 p2, .int .i64 p3, .int .u32 p4] : List Value).toArray 52)).heap.size = w.heap.size + 1 := by simp
  have z2 : ((w.alloc (.cells ([.int .u32 o, .int .u32 a, .int .u32 b, .int .u32 c, .int .i64 m0, .int .i64 m1, .int .i64 m2, .int .i64 m3, .int .u32 m4, .int .i64 n0, .int .i64 n1, .int .i64 n2, .int .i64 n3, .int .u32 n4, .int .i64 p0, .int .i64 p1, .int .i64 p2, .int .i64 p3, .int .u32 p4] : List Value).toArray 52)).alloc (.cells #[.int .u32 bd] 26)).heap.size = w.heap.size + 1 + 1 := by simp
  have e1 : World.cell? ((w.alloc (.cells ([.int .u32 o, .int .u32 a, .int .u32 b, .int .u32 c, .int .i64 m0, .int .i64 m1, .int .i64 m2, .int .i64 m3, .int .u32 m4, .int .i64 n0, .int .i64 n1, .int .i64 n2, .int .i64 n3, .int .u32 n4, .int .i64 p0, .int .i64 p1, .int .i64 p2, .int .i64 p3, .int .u32 p4] : List Value).toArray 52)).alloc (.cells #[.int .u32 bd] 26)) ⟨w.heap.size + 1, 0, none⟩ = some (.int .u32 bd) := by
    have h9 := cbox (w.alloc (.cells ([.int .u32 o, .int .u32 a, .int .u32 b, .int .u32 c, .int .i64 m0, .int .i64 m1, .int .i64 m2, .int .i64 m3, .int .u32 m4, .int .i64 n0, .int .i64 n1, .int .i64 n2, .int .i64 n3, .int .u32 n4, .int .i64 p0, .int .i64 p1, .int .i64 p2, .int .i64 p3, .int .u32 p4] : List Value).toArray 52)) [.int .u32 bd] 26 0 _ rfl
    rw [z1] at h9
    exact h9
  have d1 : World.cell? (((w.alloc (.cells ([.int .u32 o, .int .u32 a, .int .u32 b, .int .u32 c, .int .i64 m0, .int .i64 m1, .int .i64 m2, .int .i64 m3, .int .u32 m4, .int .i64 n0, .int .i64 n1, .int .i64 n2, .int .i64 n3, .int .u32 n4, .int .i64 p0, .int .i64 p1, .int .i64 p2, .int .i64 p3, .int .u32 p4] : List Value).toArray 52)).alloc (.cells #[.int .u32 bd] 26)).alloc (.cells #[.slice (some ⟨C, 0, none⟩) 1 cp] 138)) ⟨w.heap.size + 1, 0, none⟩ = some (.int .u32 bd) := (b3.cell (p := ⟨w.heap.size + 1, 0, none⟩) (by rw [z2]; exact Nat.lt_succ_self _)).trans e1
  have d2 : World.cell? (((w.alloc (.cells ([.int .u32 o, .int .u32 a, .int .u32 b, .int .u32 c, .int .i64 m0, .int .i64 m1, .int .i64 m2, .int .i64 m3, .int .u32 m4, .int .i64 n0, .int .i64 n1, .int .i64 n2, .int .i64 n3, .int .u32 n4, .int .i64 p0, .int .i64 p1, .int .i64 p2, .int .i64 p3, .int .u32 p4] : List Value).toArray 52)).alloc (.cells #[.int .u32 bd] 26)).alloc (.cells #[.slice (some ⟨C, 0, none⟩) 1 cp] 138)) ⟨w.heap.size + 1 + 1, 0, none⟩ = some (.slice (some ⟨C, 0, none⟩) 1 cp) := by
    have h9 := cbox ((w.alloc (.cells ([.int .u32 o, .int .u32 a, .int .u32 b, .int .u32 c, .int .i64 m0, .int .i64 m1, .int .i64 m2, .int .i64 m3, .int .u32 m4, .int .i64 n0, .int .i64 n1, .int .i64 n2, .int .i64 n3, .int .u32 n4, .int .i64 p0, .int .i64 p1, .int .i64 p2, .int .i64 p3, .int .u32 p4] : List Value).toArray 52)).alloc (.cells #[.int .u32 bd] 26)) [.slice (some ⟨C, 0, none⟩) 1 cp] 138 0 _ rfl
    rw [z2] at h9
    exact h9
  have HC := Lib.hid (change_hand_key C cp HA.out x i hx hi rg pc st ft kk wt hF hR t1 t2 u1 u2 vs vr HE.out w.heap.size (w.heap.size + 1) (w.heap.size + 1 + 1) ⟨by simp, by simp, by simp⟩ o a b c bd m0 m1 m2 m3 m4 n0 n1 n2 n3 n4 p0 p1 p2 p3 p4 r0 d1 d2 y0 y1 y2 y3 y4 (by simp [HK.out.1]) (HK.out.2.below HB.out) HR2)
  clear b1 b2 b3 r0 d1 d2 e1 z1 z2
  go_enter Tryz.func51, Tryz.ntmps51
  go_wp2_with (first
    | (go_at_call 47; (with_reducible refine HC.out.mono ?_); rintro e w1 ⟨⟨v, rfl⟩, hg, hk⟩; have H1 := Lib.hid hg; have K1 := Lib.hid hk; clear hg hk; have c5 := H1.out.c5)
    | (go_at_call 63; (with_reducible refine (H1.out.qput x hxq hl hB).mono ?_); rintro e w2 ⟨⟨v2, rfl⟩, hg, hk⟩; have H2 := Lib.hid hg; have K2 := Lib.hid hk; clear hg hk))
  go_end0
  exact ⟨⟨_, rfl⟩, H2.out.tail.tail.tail, (GS.keep HB.out H.out).trans (K1.out.tail.tail.tail.trans K2.out.tail.tail.tail)⟩
end
end Go.Proofs.YtllcakiomihipaaGreatDoor
namespace Go.Proofs.YtllcakiomihipaaGreatDoor
open Go.ChangeShapes Go.WideShapes Go.ChangeAt Go.RowKit
set_option linter.unusedVariables false
set_option linter.unusedSimpArgs false
section
variable {w0 wb w w' W : World} {L : BLoc} {X : SLoc} {nd B : Nat} {A : List Nat} {F : Nat → Nat → Value} {l : List Int} {J NB : Nat} {rg : Nat → Int} {pc st ft : Int} {kk : Nat → Nat → Int} {wt : Int} {f f' : Nat → Value}
theorem off_len (l : List Int) (x : Int) : (V.offI l x).length ≤ l.length := by
  unfold V.offI
  exact List.length_filter_le _ _
set_option maxRecDepth 100000 in
set_option maxHeartbeats 400000 in
theorem pass6_ret (h : GS w0 w L X nd B A F l) (y : Int) (i : Nat) (hy : Hid (y = (i : Int))) (hi : i < nd) (rg : Nat → Int) (pc st ft : Int) (kk : Nat → Nat → Int) (wt : Int) (hF : Hid (F i = RW rg pc st ft kk wt)) (hR : Hid (∀ q, q < 19 → KRight kk q)) (t1 : 0 ≤ ft) (t2 : ft ≤ 6) (u1 : 0 ≤ wt) (u2 : wt ≤ 536870911) (vs vr : Value) (hE : ErrsAt vs vr w0) (hyq : V.wfI y) (hl : l.length ≤ 1000) (hB : B ≤ 1000) (x : Int) (j : Nat) (hxj : Hid (x = (j : Int))) (hj : j < nd) (hij : j ≠ i) (rj : Nat → Int) (pj sj fj : Int) (kj : Nat → Nat → Int) (wj : Int) (hFj : Hid (F j = RW rj pj sj fj kj wj)) (hRj : Hid (∀ q, q < 19 → KRight kj q)) (v1 : 0 ≤ fj) (v2 : fj ≤ 6) (v3 : 0 ≤ wj) (v4 : wj ≤ 536870911) (k2 k3 k4 : Int) (o a b c : Int) (m0 m1 m2 m3 m4 : Int) (n0 n1 n2 n3 n4 : Int) (p0 p1 p2 p3 p4 : Int) (hm : rightB m0 m1 m2 m3 m4 = true) (hn : rightB n0 n1 n2 n3 n4 = true) (hp : rightB p0 p1 p2 p3 p4 = true) :
    Calls Tryz.prog 36 #[.pointer (some ⟨X.s, 0, none⟩), .int .i64 x, .int .i64 1, (Value.agg #[.int .i64 6, .int .i64 y, .int .i64 k2, .int .i64 k3, .int .u32 k4]), (Value.agg #[.int .u32 o, .int .u32 a, .int .u32 b, .int .u32 c, .int .i64 m0, .int .i64 m1, .int .i64 m2, .int .i64 m3, .int .u32 m4, .int .i64 n0, .int .i64 n1, .int .i64 n2, .int .i64 n3, .int .u32 n4, .int .i64 p0, .int .i64 p1, .int .i64 p2, .int .i64 p3, .int .u32 p4])] w fun e w' => (∃ v, e = .returned v) ∧ GS w0 w' L X nd (B + 1) A (setF (setF F i (RW (tRg rg o a b c 0) pc 3 ft (tKk kk m0 m1 m2 m3 m4 n0 n1 n2 n3 n4 p0 p1 p2 p3 p4 0 0 0 0 0) wt)) j (RW rj pj 1 fj kj wj)) (V.putAll l [y]) ∧ GK A w w' := by
  have H := Lib.hid h
  have HE := Lib.hid hE
  have HFj : Hid ((setF F i (RW (tRg rg o a b c 0) pc 3 ft (tKk kk m0 m1 m2 m3 m4 n0 n1 n2 n3 n4 p0 p1 p2 p3 p4 0 0 0 0 0) wt)) j = RW rj pj sj fj kj wj) := Lib.hid (by unfold setF; rw [if_neg hij]; exact hFj.out)
  have HLB := Lib.hid (show l.length ≤ 1000 ∧ B ≤ 1000 by omega)
  clear h hE hl hB
  go_enter Tryz.func36, Tryz.ntmps36
  go_upto_region 1 with fail
  generalize hgA : World.alloc _ _ = wA
  obtain ⟨KB, NB, hKB, hNB⟩ : ∃ KB NB, KB = w.heap.size ∧ NB = w.heap.size + 1 := ⟨_, _, rfl, rfl⟩
  have b1 : Below w.heap.size w (w.alloc (.cells #[.int .i64 6, .int .i64 y, .int .i64 k2, .int .i64 k3, .int .u32 k4] 31)) := (Below.refl _ _).alloc (Nat.le_refl _) _
  have HA : Hid (GS w0 wA L X nd B (NB :: KB :: A) F l ∧ Below w.heap.size w wA ∧ wA.rangeAt NB 0 ([.int .u32 o, .int .u32 a, .int .u32 b, .int .u32 c, .int .i64 m0, .int .i64 m1, .int .i64 m2, .int .i64 m3, .int .u32 m4, .int .i64 n0, .int .i64 n1, .int .i64 n2, .int .i64 n3, .int .u32 n4, .int .i64 p0, .int .i64 p1, .int .i64 p2, .int .i64 p3, .int .u32 p4] : List Value) ∧ KeyC wA KB 6 y k2 k3 k4) := Lib.hid (by
    have r := cbox (w.alloc (.cells #[.int .i64 6, .int .i64 y, .int .i64 k2, .int .i64 k3, .int .u32 k4] 31)) ([.int .u32 o, .int .u32 a, .int .u32 b, .int .u32 c, .int .i64 m0, .int .i64 m1, .int .i64 m2, .int .i64 m3, .int .u32 m4, .int .i64 n0, .int .i64 n1, .int .i64 n2, .int .i64 n3, .int .u32 n4, .int .i64 p0, .int .i64 p1, .int .i64 p2, .int .i64 p3, .int .u32 p4] : List Value) 52
    rw [show (w.alloc (.cells #[.int .i64 6, .int .i64 y, .int .i64 k2, .int .i64 k3, .int .u32 k4] 31)).heap.size = w.heap.size + 1 by simp] at r
    rw [← hgA, hNB, hKB]
    exact ⟨(H.out.more b1 w.heap.size (Nat.le_refl _) (by simp)).more ((Below.refl _ _).alloc (Nat.le_refl _) _) (w.heap.size + 1) (by simp) (by simp), b1.alloc (by simp) _, r, (KeyC.new w 6 y k2 k3 k4 _).below ((Below.refl _ _).alloc (Nat.le_refl _) _)⟩)
  rw [← hNB, ← hKB]
  clear hgA hNB hKB b1
  have q0 := HA.out.2.2.2.c0
  have q1 := HA.out.2.2.2.c1
  have q4 := HA.out.2.2.2.c4
  have HT := Lib.hid (hand_no HA.out.1 y i hy hi rg pc st ft kk wt hF hR t1 t2 u1 u2 vs vr HE.out hyq HLB.out.1 HLB.out.2 o a b c 0 m0 m1 m2 m3 m4 n0 n1 n2 n3 n4 p0 p1 p2 p3 p4 hm hn hp)
  go_upto_region 8 with (first
    | (refine wpList_load_mid (by rfl) _ _ (by rfl) NB 0 (by rfl) ([.int .u32 o, .int .u32 a, .int .u32 b, .int .u32 c, .int .i64 m0, .int .i64 m1, .int .i64 m2, .int .i64 m3, .int .u32 m4, .int .i64 n0, .int .i64 n1, .int .i64 n2, .int .i64 n3, .int .u32 n4, .int .i64 p0, .int .i64 p1, .int .i64 p2, .int .i64 p3, .int .u32 p4] : List Value) _ HA.out.2.2.1 Tryz.underlying52 rfl infoNote ?_)
    | (go_at_call 51; (with_reducible refine HT.out.mono ?_); rintro e w7 ⟨⟨v, rfl⟩, hg, hk⟩; have H7 := Lib.hid hg.tail.tail; have K7 := Lib.hid hk; clear hg hk q0 q1 q4))
  go_wp2_with (first | (go_at_call 61; (with_reducible refine (leave_ret H7.out x j hxj hj rj pj sj fj kj wj HFj hRj v1 v2 v3 v4 vs vr HE.out).mono ?_); rintro e w8 ⟨⟨v2, rfl⟩, hg, hk⟩; have H8 := Lib.hid hg; have K8 := Lib.hid hk; clear hg hk))
  go_end0
  exact ⟨⟨_, rfl⟩, H8.out, (GS.keep HA.out.2.1 H.out).trans (K7.out.tail.tail.trans K8.out)⟩
end
end Go.Proofs.YtllcakiomihipaaGreatDoor
namespace Go.Proofs.YtllcakiomihipaaGreatDoor
open Go.ChangeShapes Go.WideShapes Go.ChangeAt Go.RowKit
set_option linter.unusedVariables false
set_option linter.unusedSimpArgs false
section
variable {w0 w w' W : World} {L : BLoc} {X : SLoc} {nd B : Nat} {A : List Nat} {F : Nat → Nat → Value} {l : List Int}
theorem ginv_call (h : GS w0 w L X nd B A F l) (x : Int) (i : Nat) (hx : Hid (x = (i : Int))) (hi : i < nd) (rg : Nat → Int) (pc ft : Int) (kk : Nat → Nat → Int) (wt : Int) (hF : Hid (F i = RW rg pc 3 ft kk wt)) (hR : Hid (∀ q, q < 19 → KRight kk q)) (t1 : 0 ≤ ft) (t2 : ft ≤ 6) (u1 : 0 ≤ wt) (u2 : wt ≤ 536870911) (hxq : V.wfI x) (hl : l.length ≤ 1000) (hB : B ≤ 1000) (vs vr : Value) (hE : ErrsAt vs vr w0) (k0 k1 k2 k3 k4 : Int) (hS : ∀ W, GS w0 W L X nd B [] F (V.offI l x) → Calls Tryz.prog 21 #[.pointer (some ⟨X.s, 0, none⟩), (Value.agg #[.int .i64 k0, .int .i64 k1, .int .i64 k2, .int .i64 k3, .int .u32 k4])] W fun e w' => e = .returned (Value.agg #[.int .i64 k0, .int .i64 k1, .int .i64 k2, .int .i64 k3, .int .u32 k4]) ∧ Below W.heap.size W w') (oo aa : Int) (hAn : ∀ W, GS w0 W L X nd B [] F (V.offI l x) → Calls Tryz.prog 32 #[.pointer (some ⟨X.s, 0, none⟩), (Value.agg #[.int .i64 k0, .int .i64 k1, .int .i64 k2, .int .i64 k3, .int .u32 k4]), (Value.agg #[.int .u32 0, .int .u32 0, .int .u32 0, .int .u32 0, .int .i64 0, .int .i64 0, .int .i64 0, .int .i64 0, .int .u32 0, .int .i64 0, .int .i64 0, .int .i64 0, .int .i64 0, .int .u32 0, .int .i64 0, .int .i64 0, .int .i64 0, .int .i64 0, .int .u32 0])] W fun e w' => e = .returned (.tuple #[(Value.agg #[.int .u32 oo, .int .u32 aa, .int .u32 0, .int .u32 0, .int .i64 0, .int .i64 0, .int .i64 0, .int .i64 0, .int .u32 0, .int .i64 0, .int .i64 0, .int .i64 0, .int .i64 0, .int .u32 0, .int .i64 0, .int .i64 0, .int .i64 0, .int .i64 0, .int .u32 0]), .bool true]) ∧ Below W.heap.size W w') :
    Calls Tryz.prog 12 #[.pointer (some ⟨X.s, 0, none⟩), .int .i64 x, .int .i64 0, (Value.agg #[.int .i64 k0, .int .i64 k1, .int .i64 k2, .int .i64 k3, .int .u32 k4]), (Value.agg #[.int .u32 0, .int .u32 0, .int .u32 0, .int .u32 0, .int .i64 0, .int .i64 0, .int .i64 0, .int .i64 0, .int .u32 0, .int .i64 0, .int .i64 0, .int .i64 0, .int .i64 0, .int .u32 0, .int .i64 0, .int .i64 0, .int .i64 0, .int .i64 0, .int .u32 0])] w fun e w' => e = .returned (.tuple #[(Value.agg ([.int .i64 0, .int .i64 (-1), .int .u32 oo, .int .u32 aa, .int .u32 0, .int .u32 0, .int .i64 0, .int .i64 0, .int .i64 0, .int .i64 0, .int .u32 0, .int .i64 0, .int .i64 0, .int .i64 0, .int .i64 0, .int .u32 0, .int .i64 0, .int .i64 0, .int .i64 0, .int .i64 0, .int .u32 0] : List Value).toArray), .nilIface]) ∧ (∃ B' F' l', (B' = B + 1 ∧ (∃ rg' kk', (∀ q, q < 19 → KRight kk' q) ∧ F' = setF F i (RW rg' pc 3 ft kk' wt)) ∧ l' = V.putAll (V.offI l x) [x]) ∧ GS w0 w' L X nd B' A F' l') ∧ GK A w w' := by
  refine (inv_go h x i hx hi rg pc ft kk wt hF 0 (by decide) (by decide) hxq hl k0 k1 k2 k3 k4 0 0 0 0 0 0 0 0 0 0 0 0 0 0 0 0 0 0 0 0 0 0 0 0 (fun W hW => oseen_void X.s vs vr W (hW.errs hE)) 0 0 0 0 0 (fun W hW => oseen_void X.s vs vr W (hW.errs hE)) 0 0 0 0 0 (fun W hW => oseen_void X.s vs vr W (hW.errs hE)) k0 k1 k2 k3 k4 hS oo aa 0 0 0 0 0 0 0 0 0 0 0 0 0 0 0 0 0 hAn (fun B' F' l' => B' = B + 1 ∧ (∃ rg' kk', (∀ q, q < 19 → KRight kk' q) ∧ F' = setF F i (RW rg' pc 3 ft kk' wt)) ∧ l' = V.putAll (V.offI l x) [x]) (fun A' W hW => ?_))
  refine (take_call hW x i hx hi rg pc ft kk wt hF hR t1 t2 u1 u2 vs vr hE hxq (Nat.le_trans (off_len l x) hl) hB 0 0 0 0 0 0 0 0 0 0 0 0 0 0 0 oo aa 0 0 (by decide) (by decide) (by decide)).mono ?_
  rintro e w9 ⟨h1, ⟨rg', kk', h2, -, h3⟩, h4⟩
  exact ⟨h1, ⟨_, _, _, ⟨rfl, ⟨rg', kk', h2, rfl⟩, rfl⟩, h3⟩, h4⟩
end
end Go.Proofs.YtllcakiomihipaaGreatDoor
namespace Go.Proofs.YtllcakiomihipaaGreatDoor
open Go.ChangeShapes Go.WideShapes Go.ChangeAt Go.RowKit
set_option linter.unusedVariables false
set_option linter.unusedSimpArgs false
section
variable {w0 w w' W : World} {L : BLoc} {X : SLoc} {nd B : Nat} {A : List Nat} {F : Nat → Nat → Value} {l : List Int}
theorem resInfo : (Tryz.prog.info? 54).map (·.size) = some 21 := by kernel_rfl
set_option maxRecDepth 100000 in
set_option maxHeartbeats 400000 in
theorem gs_first (vs vr : Value) (w : World) (hE : ErrsAt vs vr w) : Calls Tryz.prog 7 #[] w fun e w' => e = .returned (.bool true) ∧ Below w.heap.size w w' := by
  have HE := Lib.hid hE
  clear hE
  go_enter Tryz.func7, Tryz.ntmps7
  go_upto_region 5 with (first
    | (go_at_call 9; (with_reducible refine (two_is vs vr _ HE.out).mono ?_); rintro e w1 ⟨L, X, rfl, hg⟩; have H1 := Lib.hid hg; have HI := Lib.hid (ginv_call hg 0 0 (Lib.hid rfl) (by decide) (fun _ => 0) 0 0 (fun _ _ => 0) 0 (Lib.hid rfl) (Lib.hid (fun _ _ => (show rightB 0 0 0 0 0 = true by decide))) (by decide) (by decide) (by decide) (by decide) (by unfold V.wfI; decide) (by decide) (by decide) vs vr HE.out 1 0 0 0 8 (fun W hW => oseen_live 1 0 0 0 8 W (fun V hV => nvalid_ok 1 0 0 0 8 (Lib.hid (by decide)) vs vr V ((hW.errs HE.out).below hV)) (fun V hV => slive_plain X.s 1 0 0 0 8 (by decide) V)) 0 8 (fun W hW => ga_number 8 (by decide) hW vs vr HE.out)); clear hg)
    | (go_at_call 12; (with_reducible refine HI.out.mono ?_); rintro e w2 ⟨rfl, ⟨B', F', l', ⟨rfl, -, rfl⟩, hg⟩, -⟩; have H2 := Lib.hid hg; clear hg)
    | (refine wpList_store_mid (by rfl) _ _ _ (by rfl) w2.heap.size 0 ([.int .i64 0, .int .i64 (-1), .int .u32 0, .int .u32 8, .int .u32 0, .int .u32 0, .int .i64 0, .int .i64 0, .int .i64 0, .int .i64 0, .int .u32 0, .int .i64 0, .int .i64 0, .int .i64 0, .int .i64 0, .int .u32 0, .int .i64 0, .int .i64 0, .int .i64 0, .int .i64 0, .int .u32 0] : List Value).toArray (by rfl) (by rfl) (nthere_new _ _ 21 (by rfl) _) resInfo (by simp [Value.oneCell']) ?_; generalize hg : World.setCells _ w2.heap.size 0 _ = w3))
  obtain ⟨RB, hRB⟩ : ∃ RB, RB = w2.heap.size := ⟨_, rfl⟩
  have H3 : Hid (GS w w3 L X 4 (0 + 1) [] _ _ ∧ w3.rangeAt RB 0 [.int .i64 0, .int .i64 (-1), .int .u32 0, .int .u32 8, .int .u32 0, .int .u32 0, .int .i64 0, .int .i64 0, .int .i64 0, .int .i64 0, .int .u32 0, .int .i64 0, .int .i64 0, .int .i64 0, .int .i64 0, .int .u32 0, .int .i64 0, .int .i64 0, .int .i64 0, .int .i64 0, .int .u32 0]) := Lib.hid (by rw [← hg, hRB]; exact ⟨H2.out.below (nbelow_cells ((Below.refl _ _).alloc (Nat.le_refl _) _) (Nat.le_refl _) _ _), World.rangeAt_setCells_same _ _ 0 [.int .i64 0, .int .i64 (-1), .int .u32 0, .int .u32 8, .int .u32 0, .int .u32 0, .int .i64 0, .int .i64 0, .int .i64 0, .int .i64 0, .int .u32 0, .int .i64 0, .int .i64 0, .int .i64 0, .int .i64 0, .int .u32 0, .int .i64 0, .int .i64 0, .int .i64 0, .int .i64 0, .int .u32 0] (nthere_new _ _ 21 (by rfl) _)⟩)
  rw [← hRB]
  clear hg hRB
  have p0 := CallC.cell H3.out.2 0 _ rfl
  have p3 := CallC.cell H3.out.2 3 _ rfl
  have c5 := H3.out.1.c5
  go_wp2_with (first
    | (go_at_call 17; (with_reducible refine (H3.out.1.has 0 (by unfold V.wfI; decide) true (Lib.hid (by decide))).mono ?_); rintro e w4 ⟨rfl, hb⟩; have HB4 := Lib.hid hb; clear hb))
  go_ret
  exact ⟨rfl, H3.out.1.bel.trans (HB4.out.mono H3.out.1.bel.size)⟩
end
end Go.Proofs.YtllcakiomihipaaGreatDoor
