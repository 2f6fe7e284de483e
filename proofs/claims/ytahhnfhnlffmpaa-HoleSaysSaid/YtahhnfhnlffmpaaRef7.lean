import Derived.Test.YtahhnfhnlffmpaaRightMath
namespace Go.Proofs.Ytahhnfhnlffmpaa
open Go.ChangeShapes Go.WideShapes Go.ChangeAt Go.RowKit
set_option linter.unusedVariables false
theorem rweaken_mem (k0 k1 k2 k3 k4 : Int) (r3 : Int) (h : k0 = 2 ∨ k0 = 3) (h3 : Hid (bits BinOp.or IntKind.i64 (bits BinOp.or IntKind.i64 k3 1) 4 = r3)) (w : World) :
    Calls Try.prog 25 #[(Value.agg #[.int .i64 k0, .int .i64 k1, .int .i64 k2, .int .i64 k3, .int .u32 k4])] w
      fun e w' => e = .returned (.agg #[.int .i64 k0, .int .i64 k1, .int .i64 k2, .int .i64 r3, .int .u32 k4]) ∧ Below w.heap.size w w' := by
  rw [← h3.out]
  rcases h with rfl | rfl
  all_goals
    go_enter Try.func25, Try.ntmps25
    go_wp2
    refine bodyPost_ret (v := .agg #[.int .i64 _, .int .i64 k1, .int .i64 k2, .int .i64 (bits BinOp.or IntKind.i64 (bits BinOp.or IntKind.i64 k3 1) 4), .int .u32 k4]) (by simp [results, Try.results25, go_sem]) rfl ⟨rfl, ((Below.refl _ _).alloc (Nat.le_refl _) _).alloc (by simp) _⟩
theorem rweaken_same (k0 k1 k2 k3 k4 : Int) (h : k0 = 0 ∨ k0 = 1 ∨ k0 = 12 ∨ k0 = 14) (w : World) :
    Calls Try.prog 25 #[(Value.agg #[.int .i64 k0, .int .i64 k1, .int .i64 k2, .int .i64 k3, .int .u32 k4])] w fun e w' => e = .returned (Value.agg #[.int .i64 k0, .int .i64 k1, .int .i64 k2, .int .i64 k3, .int .u32 k4]) ∧ Below w.heap.size w w' := by
  rcases h with rfl | rfl | rfl | rfl
  all_goals
    go_enter Try.func25, Try.ntmps25
    go_wp2
    refine bodyPost_ret (v := .agg #[.int .i64 _, .int .i64 k1, .int .i64 k2, .int .i64 k3, .int .u32 k4]) (by simp [results, Try.results25, go_sem]) rfl ⟨rfl, ((Below.refl _ _).alloc (Nat.le_refl _) _).alloc (by simp) _⟩
theorem rweaken_void (k0 k1 k2 k3 k4 : Int) (h0 : ¬ k0 = 0) (h1 : ¬ k0 = 1) (h2 : ¬ k0 = 2) (h3 : ¬ k0 = 3) (h12 : ¬ k0 = 12) (h14 : ¬ k0 = 14) (w : World) :
    Calls Try.prog 25 #[(Value.agg #[.int .i64 k0, .int .i64 k1, .int .i64 k2, .int .i64 k3, .int .u32 k4])] w
      fun e w' => e = .returned (.agg #[.int .i64 0, .int .i64 0, .int .i64 0, .int .i64 0, .int .u32 0]) ∧ Below w.heap.size w w' := by
  go_enter Try.func25, Try.ntmps25
  go_wp2
  refine bodyPost_ret (v := .agg #[.int .i64 0, .int .i64 0, .int .i64 0, .int .i64 0, .int .u32 0]) (by simp [results, Try.results25, go_sem]) rfl ⟨rfl, ((Below.refl _ _).alloc (Nat.le_refl _) _).alloc (by simp) _⟩
theorem or14_fin : ∀ n : Fin 8, orI (orI (n.val : Int) 1) 4 = orI (n.val : Int) 5 := by decide +kernel
theorem rweaken_any (k0 k1 k2 k3 k4 : Int) (r0 r1 r2 r3 r4 : Int) (h8 : In8 k3) (h : Hid (Wk [k0, k1, k2, k3, k4] [r0, r1, r2, r3, r4])) (w : World) :
    Calls Try.prog 25 #[(Value.agg #[.int .i64 k0, .int .i64 k1, .int .i64 k2, .int .i64 k3, .int .u32 k4])] w fun e w' => e = .returned (Value.agg #[.int .i64 r0, .int .i64 r1, .int .i64 r2, .int .i64 r3, .int .u32 r4]) ∧ Below w.heap.size w w' := by
  rcases h.out with ⟨hk, hr⟩ | ⟨hk, hr⟩ | ⟨hk, hr⟩
  · simp only [List.getD_cons_zero, List.getD_cons_succ, List.cons.injEq, and_true] at hk hr
    obtain ⟨rfl, rfl, rfl, rfl, rfl⟩ := hr
    exact rweaken_mem _ _ _ _ _ _ hk (Lib.hid (by obtain ⟨n, rfl⟩ := h8.fin; exact or14_fin n)) w
  · simp only [List.getD_cons_zero, List.getD_cons_succ, List.cons.injEq, and_true] at hk hr
    obtain ⟨rfl, rfl, rfl, rfl, rfl⟩ := hr
    exact rweaken_same _ _ _ _ _ hk w
  · simp only [List.getD_cons_zero, List.cons.injEq, and_true] at hk hr
    obtain ⟨rfl, rfl, rfl, rfl, rfl⟩ := hr
    exact rweaken_void _ _ _ _ _ hk.1 hk.2.1 hk.2.2.1 hk.2.2.2.1 hk.2.2.2.2.1 hk.2.2.2.2.2 w
theorem rsensory_any (k0 k1 k2 k3 k4 : Int) (r0 r1 r2 r3 r4 : Int) (t : Bool) (h8 : In8 k3) (h : Hid (Wk [k0, k1, k2, k3, k4] [r0, r1, r2, r3, r4])) (ht : Hid (sameB r0 r1 r2 r3 r4 k0 k1 k2 k3 k4 = t)) (w : World) :
    Calls Try.prog 21 #[(Value.agg #[.int .i64 k0, .int .i64 k1, .int .i64 k2, .int .i64 k3, .int .u32 k4])] w fun e w' => e = .returned (.bool t) ∧ Below w.heap.size w w' := by
  have st := start1 w k0 k1 k2 k3 k4
  have ST := Lib.hid st
  clear st
  go_enter Try.func21, Try.ntmps21
  go_wp2
  go_region_held3 (fun w' => Below w.heap.size w w' ∧ w.heap.size < w'.heap.size ∧ w'.cell? ⟨w.heap.size, 0, none⟩ = some (.int .i64 k0) ∧ w'.cell? ⟨w.heap.size, 1, none⟩ = some (.int .i64 k1) ∧ w'.cell? ⟨w.heap.size, 2, none⟩ = some (.int .i64 k2) ∧ w'.cell? ⟨w.heap.size, 3, none⟩ = some (.int .i64 k3) ∧ w'.cell? ⟨w.heap.size, 4, none⟩ = some (.int .u32 k4)) (first | exact ST.out | exact keep1 _ _ _ _ _ (by assumption) hb)
    (first | (go_at_call 25; refine (rweaken_any _ _ _ _ _ _ _ _ _ _ h8 h _).mono ?_; rintro e w' ⟨rfl, hb⟩) | (go_at_call 17; refine (same_is _ _ _ _ _ _ _ _ _ _ t ht _).mono ?_; rintro e w' ⟨rfl, hb⟩))
  go_wp2
  go_ret
  refine ⟨rfl, ?_⟩
  apply And.left
  assumption
theorem sensory_no (k0 k1 k2 k3 k4 : Int) (r0 r1 r2 r3 r4 : Int) (h : Hid (Wk [k0, k1, k2, k3, k4] [r0, r1, r2, r3, r4])) (ht : (k0 == r0) = false ∨ (k0 = r0 ∧ k1 = r1 ∧ k2 = r2 ∧ (k3 == r3) = false)) (w : World) :
    Calls Try.prog 24 #[(Value.agg #[.int .i64 k0, .int .i64 k1, .int .i64 k2, .int .i64 k3, .int .u32 k4])] w fun e w' => e = .returned (.bool false) ∧ Below w.heap.size w w' := by
  have st := start1 w k0 k1 k2 k3 k4
  have ST := Lib.hid st
  clear st
  rcases ht with ht | ⟨rfl, rfl, rfl, ht⟩
  all_goals
    go_enter Try.func24, Try.ntmps24
    go_wp2
    go_region_held3 (fun w' => Below w.heap.size w w' ∧ w.heap.size < w'.heap.size ∧ w'.cell? ⟨w.heap.size, 0, none⟩ = some (.int .i64 k0) ∧ w'.cell? ⟨w.heap.size, 1, none⟩ = some (.int .i64 k1) ∧ w'.cell? ⟨w.heap.size, 2, none⟩ = some (.int .i64 k2) ∧ w'.cell? ⟨w.heap.size, 3, none⟩ = some (.int .i64 k3) ∧ w'.cell? ⟨w.heap.size, 4, none⟩ = some (.int .u32 k4)) (first | exact ST.out | exact keep1 _ _ _ _ _ (by assumption) hb)
      (first | (go_at_call 26; refine (weaken_any _ _ _ _ _ _ _ _ _ _ h _).mono ?_; rintro e w' ⟨rfl, hb⟩))
    go_wp2
    go_ret
    refine ⟨rfl, ?_⟩
    apply And.left
    assumption
/-- Does a give no more than b? -/
def withinB (a0 a1 a2 a3 a4 b0 b1 b2 b3 b4 : Int) : Bool := (bits BinOp.and IntKind.i64 a3 b3 == b3) && sameB a0 a1 a2 0 a4 b0 b1 b2 0 b4
theorem RowI.below {W w' : World} {a : Option Addr} {len : Nat} {xs : List Int} (h : RowI W a len xs) (hb : Below W.heap.size W w') : RowI w' a len xs := by
  obtain ⟨h1, h2⟩ := h
  refine ⟨h1, ?_⟩
  rcases h2 with h2 | ⟨b, off, rfl, hl, hc⟩
  · exact .inl h2
  · exact .inr ⟨b, off, rfl, Nat.lt_of_lt_of_le hl hb.size, fun i hi => (hb.cell (p := ⟨b, off + i, none⟩) hl).trans (hc i hi)⟩
end Go.Proofs.Ytahhnfhnlffmpaa
