import Derived.Test.YtggnaalcdekccaaRightMath
namespace Go.Proofs.Ytggnaalcdekccaa
open Go.ChangeShapes Go.WideShapes Go.ChangeAt Go.RowKit
set_option linter.unusedVariables false
set_option linter.unusedSimpArgs false
theorem keep5w {W w' : World} {b : Nat} (k0 k1 k2 k3 k4 : Int) (h : b < W.heap.size ∧ W.cell? ⟨b, 0, none⟩ = some (.int .i64 k0) ∧ W.cell? ⟨b, 1, none⟩ = some (.int .i64 k1) ∧ W.cell? ⟨b, 2, none⟩ = some (.int .i64 k2) ∧ W.cell? ⟨b, 3, none⟩ = some (.int .i64 k3) ∧ W.cell? ⟨b, 4, none⟩ = some (.int .u32 k4)) (hb : Below W.heap.size W w') : b < w'.heap.size ∧ w'.cell? ⟨b, 0, none⟩ = some (.int .i64 k0) ∧ w'.cell? ⟨b, 1, none⟩ = some (.int .i64 k1) ∧ w'.cell? ⟨b, 2, none⟩ = some (.int .i64 k2) ∧ w'.cell? ⟨b, 3, none⟩ = some (.int .i64 k3) ∧ w'.cell? ⟨b, 4, none⟩ = some (.int .u32 k4) := by
  obtain ⟨h2, h3, h4, h5, h6, h7⟩ := h
  have hc := (bcell hb).1
  have hz := hb.size
  exact ⟨by omega, by rw [hc _ _ h2]; exact h3, by rw [hc _ _ h2]; exact h4, by rw [hc _ _ h2]; exact h5, by rw [hc _ _ h2]; exact h6, by rw [hc _ _ h2]; exact h7⟩
theorem keep5_allocw {W : World} {b : Nat} (k0 k1 k2 k3 k4 : Int) (h : b < W.heap.size ∧ W.cell? ⟨b, 0, none⟩ = some (.int .i64 k0) ∧ W.cell? ⟨b, 1, none⟩ = some (.int .i64 k1) ∧ W.cell? ⟨b, 2, none⟩ = some (.int .i64 k2) ∧ W.cell? ⟨b, 3, none⟩ = some (.int .i64 k3) ∧ W.cell? ⟨b, 4, none⟩ = some (.int .u32 k4)) (o : Obj) : b < (W.alloc o).heap.size ∧ (W.alloc o).cell? ⟨b, 0, none⟩ = some (.int .i64 k0) ∧ (W.alloc o).cell? ⟨b, 1, none⟩ = some (.int .i64 k1) ∧ (W.alloc o).cell? ⟨b, 2, none⟩ = some (.int .i64 k2) ∧ (W.alloc o).cell? ⟨b, 3, none⟩ = some (.int .i64 k3) ∧ (W.alloc o).cell? ⟨b, 4, none⟩ = some (.int .u32 k4) := by
  refine keep5w k0 k1 k2 k3 k4 h ?_
  exact (Below.refl _ _).alloc (Nat.le_refl _) _
theorem new5w (W : World) (k0 k1 k2 k3 k4 : Int) : W.heap.size < (W.alloc (.cells #[.int .i64 k0, .int .i64 k1, .int .i64 k2, .int .i64 k3, .int .u32 k4] 24)).heap.size ∧ (W.alloc (.cells #[.int .i64 k0, .int .i64 k1, .int .i64 k2, .int .i64 k3, .int .u32 k4] 24)).cell? ⟨W.heap.size, 0, none⟩ = some (.int .i64 k0) ∧ (W.alloc (.cells #[.int .i64 k0, .int .i64 k1, .int .i64 k2, .int .i64 k3, .int .u32 k4] 24)).cell? ⟨W.heap.size, 1, none⟩ = some (.int .i64 k1) ∧ (W.alloc (.cells #[.int .i64 k0, .int .i64 k1, .int .i64 k2, .int .i64 k3, .int .u32 k4] 24)).cell? ⟨W.heap.size, 2, none⟩ = some (.int .i64 k2) ∧ (W.alloc (.cells #[.int .i64 k0, .int .i64 k1, .int .i64 k2, .int .i64 k3, .int .u32 k4] 24)).cell? ⟨W.heap.size, 3, none⟩ = some (.int .i64 k3) ∧ (W.alloc (.cells #[.int .i64 k0, .int .i64 k1, .int .i64 k2, .int .i64 k3, .int .u32 k4] 24)).cell? ⟨W.heap.size, 4, none⟩ = some (.int .u32 k4) := by
  refine ⟨by simp, by simp, by simp, by simp, by simp, by simp⟩
theorem keepS4 {w W w' : World} {a b c d : Nat} (k0 k1 k2 k3 k4 : Int) (r0 r1 r2 r3 r4 : Int) (h : Below w.heap.size w W ∧ (a < W.heap.size ∧ W.cell? ⟨a, 0, none⟩ = some (.int .i64 k0) ∧ W.cell? ⟨a, 1, none⟩ = some (.int .i64 k1) ∧ W.cell? ⟨a, 2, none⟩ = some (.int .i64 k2) ∧ W.cell? ⟨a, 3, none⟩ = some (.int .i64 k3) ∧ W.cell? ⟨a, 4, none⟩ = some (.int .u32 k4)) ∧ (b < W.heap.size ∧ W.cell? ⟨b, 0, none⟩ = some (.int .i64 r0) ∧ W.cell? ⟨b, 1, none⟩ = some (.int .i64 r1) ∧ W.cell? ⟨b, 2, none⟩ = some (.int .i64 r2) ∧ W.cell? ⟨b, 3, none⟩ = some (.int .i64 r3) ∧ W.cell? ⟨b, 4, none⟩ = some (.int .u32 r4)) ∧ (c < W.heap.size ∧ W.cell? ⟨c, 0, none⟩ = some (.int .i64 r0) ∧ W.cell? ⟨c, 1, none⟩ = some (.int .i64 r1) ∧ W.cell? ⟨c, 2, none⟩ = some (.int .i64 r2) ∧ W.cell? ⟨c, 3, none⟩ = some (.int .i64 r3) ∧ W.cell? ⟨c, 4, none⟩ = some (.int .u32 r4)) ∧ (d < W.heap.size ∧ W.cell? ⟨d, 0, none⟩ = some (.int .i64 k0) ∧ W.cell? ⟨d, 1, none⟩ = some (.int .i64 k1) ∧ W.cell? ⟨d, 2, none⟩ = some (.int .i64 k2) ∧ W.cell? ⟨d, 3, none⟩ = some (.int .i64 k3) ∧ W.cell? ⟨d, 4, none⟩ = some (.int .u32 k4))) (hb : Below W.heap.size W w') : Below w.heap.size w w' ∧ (a < w'.heap.size ∧ w'.cell? ⟨a, 0, none⟩ = some (.int .i64 k0) ∧ w'.cell? ⟨a, 1, none⟩ = some (.int .i64 k1) ∧ w'.cell? ⟨a, 2, none⟩ = some (.int .i64 k2) ∧ w'.cell? ⟨a, 3, none⟩ = some (.int .i64 k3) ∧ w'.cell? ⟨a, 4, none⟩ = some (.int .u32 k4)) ∧ (b < w'.heap.size ∧ w'.cell? ⟨b, 0, none⟩ = some (.int .i64 r0) ∧ w'.cell? ⟨b, 1, none⟩ = some (.int .i64 r1) ∧ w'.cell? ⟨b, 2, none⟩ = some (.int .i64 r2) ∧ w'.cell? ⟨b, 3, none⟩ = some (.int .i64 r3) ∧ w'.cell? ⟨b, 4, none⟩ = some (.int .u32 r4)) ∧ (c < w'.heap.size ∧ w'.cell? ⟨c, 0, none⟩ = some (.int .i64 r0) ∧ w'.cell? ⟨c, 1, none⟩ = some (.int .i64 r1) ∧ w'.cell? ⟨c, 2, none⟩ = some (.int .i64 r2) ∧ w'.cell? ⟨c, 3, none⟩ = some (.int .i64 r3) ∧ w'.cell? ⟨c, 4, none⟩ = some (.int .u32 r4)) ∧ (d < w'.heap.size ∧ w'.cell? ⟨d, 0, none⟩ = some (.int .i64 k0) ∧ w'.cell? ⟨d, 1, none⟩ = some (.int .i64 k1) ∧ w'.cell? ⟨d, 2, none⟩ = some (.int .i64 k2) ∧ w'.cell? ⟨d, 3, none⟩ = some (.int .i64 k3) ∧ w'.cell? ⟨d, 4, none⟩ = some (.int .u32 k4)) := by
  obtain ⟨h0, h1, h2, h3, h4⟩ := h
  exact ⟨h0.trans (hb.mono h0.size), keep5w _ _ _ _ _ h1 hb, keep5w _ _ _ _ _ h2 hb, keep5w _ _ _ _ _ h3 hb, keep5w _ _ _ _ _ h4 hb⟩

set_option maxHeartbeats 4000000 in
theorem weakens_walk (k0 k1 k2 k3 k4 : Int) (r0 r1 r2 r3 r4 : Int) (v : Bool) (gk : k4 ≤ 4294967295) (gr : r4 ≤ 4294967295) (hW : Hid (Wk [k0, k1, k2, k3, k4] [r0, r1, r2, r3, r4])) (hR : Hid (Wk [r0, r1, r2, r3, r4] [r0, r1, r2, r3, r4]))
    (hv : Hid (sameB r0 r1 r2 r3 r4 0 0 0 0 0 = v)) (hk : Hid (codeOf k0 k1 k2 k3 k4 = 0)) (hr : Hid (codeOf r0 r1 r2 r3 r4 = 0))
    (cW : Hid (∀ W, Calls Try.prog 17 #[(Value.agg #[.int .i64 r0, .int .i64 r1, .int .i64 r2, .int .i64 r3, .int .u32 r4])] W fun e w' => e = .returned (.bool false) ∧ Below W.heap.size W w'))
    (cI : Hid (v = false → ∀ W, Calls Try.prog 19 #[(Value.agg #[.int .i64 r0, .int .i64 r1, .int .i64 r2, .int .i64 r3, .int .u32 r4]), (Value.agg #[.int .i64 k0, .int .i64 k1, .int .i64 k2, .int .i64 k3, .int .u32 k4])] W fun e w' => e = .returned (.bool true) ∧ Below W.heap.size W w')) (w : World) :
    Calls Try.prog 4 #[(Value.agg #[.int .i64 k0, .int .i64 k1, .int .i64 k2, .int .i64 k3, .int .u32 k4])] w fun e w' => e = .returned (.bool true) ∧ Below w.heap.size w w' := by
  have hp1 : (bits BinOp.and IntKind.i64 4 4 == 0) = false := by decide
  have hp2 : (bits BinOp.and IntKind.i64 1 4 == 0) = true := by decide
  go_enter Try.func4, Try.ntmps4
  go_wp2_with (first
    | (go_at_call 6; refine (first_any _).mono ?_; rintro e w0 ⟨rfl, hb⟩; have Ka := keep5w k0 k1 k2 k3 k4 (new5w w k0 k1 k2 k3 k4) hb; have Ba := Lib.hid (Below.trans ((Below.refl _ _).alloc (Nat.le_refl _) _) (hb.mono (by simp))); clear hb)
    | (go_at_call 7; refine (valid_is _ _ _ _ _ 0 hk gk _).mono ?_; rintro e w1 ⟨rfl, hb⟩; have Kb := keep5w k0 k1 k2 k3 k4 Ka hb; have Bb := Lib.hid (Ba.out.trans (hb.mono Ba.out.size)); clear hb Ka Ba)
    | (go_at_call 9; refine (weaken_any _ _ _ _ _ _ _ _ _ _ hW _).mono ?_; rintro e w2 ⟨rfl, hb⟩; have Kc := keep5w k0 k1 k2 k3 k4 Kb hb; have Bc := Lib.hid (Bb.out.trans (hb.mono Bb.out.size)); clear hb Kb Bb)
    | (go_at_call_of 13 (Value.int .i64 4); refine (through_weak 4 _ _ _ _ _ _ _ _ _ _ hp1 hW _).mono ?_; rintro e w3 ⟨rfl, hb⟩; have Kd := keep5w k0 k1 k2 k3 k4 (keep5_allocw k0 k1 k2 k3 k4 Kc _) hb; have Rd := keep5w r0 r1 r2 r3 r4 (new5w w2 r0 r1 r2 r3 r4) hb; have Bd := Lib.hid ((Bc.out.alloc Bc.out.size _).trans (hb.mono (Bc.out.alloc Bc.out.size _).size)); clear hb Kc Bc)
    | (go_at_call_of 13 (Value.int .i64 1); refine (through_same 1 _ _ _ _ _ hp2 _).mono ?_; rintro e w4 ⟨rfl, hb⟩; have Ke := keep5w k0 k1 k2 k3 k4 (keep5_allocw k0 k1 k2 k3 k4 Kd _) hb; have Re := keep5w r0 r1 r2 r3 r4 (keep5_allocw r0 r1 r2 r3 r4 Rd _) hb; have Se := keep5w r0 r1 r2 r3 r4 (new5w w3 r0 r1 r2 r3 r4) hb; have Be := Lib.hid ((Bd.out.alloc Bd.out.size _).trans (hb.mono (Bd.out.alloc Bd.out.size _).size)); clear hb Kd Rd Bd)
    | (go_at_call 8; refine (same_is _ _ _ _ _ _ _ _ _ _ v hv _).mono ?_; rintro e w5 ⟨rfl, hb⟩; have Kf := keep5w k0 k1 k2 k3 k4 (keep5_allocw k0 k1 k2 k3 k4 Ke _) hb; have Rf := keep5w r0 r1 r2 r3 r4 (keep5_allocw r0 r1 r2 r3 r4 Re _) hb; have Sf := keep5w r0 r1 r2 r3 r4 (keep5_allocw r0 r1 r2 r3 r4 Se _) hb; have Uf := keep5w k0 k1 k2 k3 k4 (new5w w4 k0 k1 k2 k3 k4) hb; have Bf := Lib.hid ((Be.out.alloc Be.out.size _).trans (hb.mono (Be.out.alloc Be.out.size _).size)); clear hb Ke Re Se Be))
  have ST : Hid (Below w.heap.size w w5.drew ∧ (w.heap.size < w5.drew.heap.size ∧ w5.drew.cell? ⟨w.heap.size, 0, none⟩ = some (.int .i64 k0) ∧ w5.drew.cell? ⟨w.heap.size, 1, none⟩ = some (.int .i64 k1) ∧ w5.drew.cell? ⟨w.heap.size, 2, none⟩ = some (.int .i64 k2) ∧ w5.drew.cell? ⟨w.heap.size, 3, none⟩ = some (.int .i64 k3) ∧ w5.drew.cell? ⟨w.heap.size, 4, none⟩ = some (.int .u32 k4)) ∧ (w2.heap.size < w5.drew.heap.size ∧ w5.drew.cell? ⟨w2.heap.size, 0, none⟩ = some (.int .i64 r0) ∧ w5.drew.cell? ⟨w2.heap.size, 1, none⟩ = some (.int .i64 r1) ∧ w5.drew.cell? ⟨w2.heap.size, 2, none⟩ = some (.int .i64 r2) ∧ w5.drew.cell? ⟨w2.heap.size, 3, none⟩ = some (.int .i64 r3) ∧ w5.drew.cell? ⟨w2.heap.size, 4, none⟩ = some (.int .u32 r4)) ∧ (w3.heap.size < w5.drew.heap.size ∧ w5.drew.cell? ⟨w3.heap.size, 0, none⟩ = some (.int .i64 r0) ∧ w5.drew.cell? ⟨w3.heap.size, 1, none⟩ = some (.int .i64 r1) ∧ w5.drew.cell? ⟨w3.heap.size, 2, none⟩ = some (.int .i64 r2) ∧ w5.drew.cell? ⟨w3.heap.size, 3, none⟩ = some (.int .i64 r3) ∧ w5.drew.cell? ⟨w3.heap.size, 4, none⟩ = some (.int .u32 r4)) ∧ (w4.heap.size < w5.drew.heap.size ∧ w5.drew.cell? ⟨w4.heap.size, 0, none⟩ = some (.int .i64 k0) ∧ w5.drew.cell? ⟨w4.heap.size, 1, none⟩ = some (.int .i64 k1) ∧ w5.drew.cell? ⟨w4.heap.size, 2, none⟩ = some (.int .i64 k2) ∧ w5.drew.cell? ⟨w4.heap.size, 3, none⟩ = some (.int .i64 k3) ∧ w5.drew.cell? ⟨w4.heap.size, 4, none⟩ = some (.int .u32 k4))) := Lib.hid ⟨Bf.out.drew, Kf, Rf, Sf, Uf⟩
  clear Kf Rf Sf Uf Bf
  cases v
  · have cI := cI.out rfl
    have CI := Lib.hid cI
    clear cI
    go_region_held3 (fun w' => Below w.heap.size w w' ∧ (w.heap.size < w'.heap.size ∧ w'.cell? ⟨w.heap.size, 0, none⟩ = some (.int .i64 k0) ∧ w'.cell? ⟨w.heap.size, 1, none⟩ = some (.int .i64 k1) ∧ w'.cell? ⟨w.heap.size, 2, none⟩ = some (.int .i64 k2) ∧ w'.cell? ⟨w.heap.size, 3, none⟩ = some (.int .i64 k3) ∧ w'.cell? ⟨w.heap.size, 4, none⟩ = some (.int .u32 k4)) ∧ (w2.heap.size < w'.heap.size ∧ w'.cell? ⟨w2.heap.size, 0, none⟩ = some (.int .i64 r0) ∧ w'.cell? ⟨w2.heap.size, 1, none⟩ = some (.int .i64 r1) ∧ w'.cell? ⟨w2.heap.size, 2, none⟩ = some (.int .i64 r2) ∧ w'.cell? ⟨w2.heap.size, 3, none⟩ = some (.int .i64 r3) ∧ w'.cell? ⟨w2.heap.size, 4, none⟩ = some (.int .u32 r4)) ∧ (w3.heap.size < w'.heap.size ∧ w'.cell? ⟨w3.heap.size, 0, none⟩ = some (.int .i64 r0) ∧ w'.cell? ⟨w3.heap.size, 1, none⟩ = some (.int .i64 r1) ∧ w'.cell? ⟨w3.heap.size, 2, none⟩ = some (.int .i64 r2) ∧ w'.cell? ⟨w3.heap.size, 3, none⟩ = some (.int .i64 r3) ∧ w'.cell? ⟨w3.heap.size, 4, none⟩ = some (.int .u32 r4)) ∧ (w4.heap.size < w'.heap.size ∧ w'.cell? ⟨w4.heap.size, 0, none⟩ = some (.int .i64 k0) ∧ w'.cell? ⟨w4.heap.size, 1, none⟩ = some (.int .i64 k1) ∧ w'.cell? ⟨w4.heap.size, 2, none⟩ = some (.int .i64 k2) ∧ w'.cell? ⟨w4.heap.size, 3, none⟩ = some (.int .i64 k3) ∧ w'.cell? ⟨w4.heap.size, 4, none⟩ = some (.int .u32 k4))) (first | exact ST.out | assumption | exact keepS4 _ _ _ _ _ _ _ _ _ _ (by assumption) hb)
      (first
        | (go_at_call 9; refine (weaken_any _ _ _ _ _ _ _ _ _ _ hR _).mono ?_; rintro e w' ⟨rfl, hb⟩)
        | (go_at_call 8; refine (same_is _ _ _ _ _ _ _ _ _ _ true (same_self _ _ _ _ _) _).mono ?_; rintro e w' ⟨rfl, hb⟩)
        | (go_at_call 15; refine (sensory_yes _ _ _ _ _ hR _).mono ?_; rintro e w' ⟨rfl, hb⟩)
        | (go_at_call 17; refine (cW.out _).mono ?_; rintro e w' ⟨rfl, hb⟩)
        | (go_at_call 19; refine (CI.out _).mono ?_; rintro e w' ⟨rfl, hb⟩)
        | (go_at_call 7; refine (valid_is _ _ _ _ _ 0 hr gr _).mono ?_; rintro e w' ⟨rfl, hb⟩))
    go_wp2
    go_ret
    refine ⟨by simp, ?_⟩
    apply And.left
    assumption
  · refine wp_region_noPanic ?_
    refine wp_region_held_drew (S := (fun w' => Below w.heap.size w w' ∧ (w.heap.size < w'.heap.size ∧ w'.cell? ⟨w.heap.size, 0, none⟩ = some (.int .i64 k0) ∧ w'.cell? ⟨w.heap.size, 1, none⟩ = some (.int .i64 k1) ∧ w'.cell? ⟨w.heap.size, 2, none⟩ = some (.int .i64 k2) ∧ w'.cell? ⟨w.heap.size, 3, none⟩ = some (.int .i64 k3) ∧ w'.cell? ⟨w.heap.size, 4, none⟩ = some (.int .u32 k4)) ∧ (w2.heap.size < w'.heap.size ∧ w'.cell? ⟨w2.heap.size, 0, none⟩ = some (.int .i64 r0) ∧ w'.cell? ⟨w2.heap.size, 1, none⟩ = some (.int .i64 r1) ∧ w'.cell? ⟨w2.heap.size, 2, none⟩ = some (.int .i64 r2) ∧ w'.cell? ⟨w2.heap.size, 3, none⟩ = some (.int .i64 r3) ∧ w'.cell? ⟨w2.heap.size, 4, none⟩ = some (.int .u32 r4)) ∧ (w3.heap.size < w'.heap.size ∧ w'.cell? ⟨w3.heap.size, 0, none⟩ = some (.int .i64 r0) ∧ w'.cell? ⟨w3.heap.size, 1, none⟩ = some (.int .i64 r1) ∧ w'.cell? ⟨w3.heap.size, 2, none⟩ = some (.int .i64 r2) ∧ w'.cell? ⟨w3.heap.size, 3, none⟩ = some (.int .i64 r3) ∧ w'.cell? ⟨w3.heap.size, 4, none⟩ = some (.int .u32 r4)) ∧ (w4.heap.size < w'.heap.size ∧ w'.cell? ⟨w4.heap.size, 0, none⟩ = some (.int .i64 k0) ∧ w'.cell? ⟨w4.heap.size, 1, none⟩ = some (.int .i64 k1) ∧ w'.cell? ⟨w4.heap.size, 2, none⟩ = some (.int .i64 k2) ∧ w'.cell? ⟨w4.heap.size, 3, none⟩ = some (.int .i64 k3) ∧ w'.cell? ⟨w4.heap.size, 4, none⟩ = some (.int .u32 k4)))) (by kernel_rfl) ST.out (fun hHeld => ?_)
    refine wpAnyH_take (i := 0) (v := ?_) (by rfl) (by kernel_rfl) (by kernel_rfl) (by kernel_rfl) (fun _ _ _ h => h) (Or.inl ⟨by kernel_rfl, ?_⟩) (by assumption) ?_
    rotate_left 1
    · (intro w hSw; (try dsimp only at hSw); simp only [List.getElem_toArray, List.getElem_cons_succ, List.getElem_cons_zero]; go_simp; try with_reducible rfl)
    simp only [Act.put, List.getElem_toArray, List.getElem_cons_succ, List.getElem_cons_zero, List.setIfInBounds_toArray, List.set_cons_zero, List.set_cons_succ]
    refine wpAnyH_take (i := 1) (v := ?_) (by rfl) (by kernel_rfl) (by kernel_rfl) (by kernel_rfl) (fun _ _ _ h => h) (Or.inl ⟨by kernel_rfl, ?_⟩) (by assumption) ?_
    rotate_left 1
    · (intro w hSw; (try dsimp only at hSw); simp only [List.getElem_toArray, List.getElem_cons_succ, List.getElem_cons_zero]; go_simp; try with_reducible rfl)
    simp only [Act.put, List.getElem_toArray, List.getElem_cons_succ, List.getElem_cons_zero, List.setIfInBounds_toArray, List.set_cons_zero, List.set_cons_succ]
    refine wpAnyH_take (i := 2) (v := ?_) (by rfl) (by kernel_rfl) (by kernel_rfl) (by kernel_rfl) (fun _ _ _ h => h) (Or.inl ⟨by kernel_rfl, ?_⟩) (by assumption) ?_
    rotate_left 1
    · (intro w hSw; (try dsimp only at hSw); simp only [List.getElem_toArray, List.getElem_cons_succ, List.getElem_cons_zero]; go_simp; try with_reducible rfl)
    simp only [Act.put, List.getElem_toArray, List.getElem_cons_succ, List.getElem_cons_zero, List.setIfInBounds_toArray, List.set_cons_zero, List.set_cons_succ]
    refine wpAnyH_take (i := 4) (v := ?_) (by rfl) (by kernel_rfl) (by kernel_rfl) (by kernel_rfl) (fun _ _ _ h => h) (Or.inl ⟨by kernel_rfl, ?_⟩) (by assumption) ?_
    rotate_left 1
    · (intro w hSw; (try dsimp only at hSw); simp only [List.getElem_toArray, List.getElem_cons_succ, List.getElem_cons_zero]; go_simp; try with_reducible rfl)
    simp only [Act.put, List.getElem_toArray, List.getElem_cons_succ, List.getElem_cons_zero, List.setIfInBounds_toArray, List.set_cons_zero, List.set_cons_succ]
    refine wpAnyH_ready (rs := [3]) (by kernel_rfl) (by simp) ?_
    refine AllReadyH.cons (by rfl) (fun K hK => ?_) AllReadyH.nil
    rw [if_pos (by kernel_rfl)]
    simp only [List.getElem_toArray, List.getElem_cons_succ, List.getElem_cons_zero]
    go_wp2_with (first | (go_at_call 9; refine (weaken_any _ _ _ _ _ _ _ _ _ _ hR _).mono ?_; rintro e w' ⟨rfl, hb⟩))
    refine hK.out _ _ ?_ (fun hHeld => ?_)
    · exact keepS4 _ _ _ _ _ _ _ _ _ _ (by assumption) hb
    clear hK K hb
    try simp only [Act.put, List.getElem_toArray, List.getElem_cons_succ, List.getElem_cons_zero, List.setIfInBounds_toArray, List.set_cons_zero, List.set_cons_succ]
    refine wpAnyH_ready (rs := [5]) (by kernel_rfl) (by simp) ?_
    refine AllReadyH.cons (by rfl) (fun K hK => ?_) AllReadyH.nil
    rw [if_pos (by kernel_rfl)]
    simp only [List.getElem_toArray, List.getElem_cons_succ, List.getElem_cons_zero]
    go_wp2_with (first | (go_at_call 8; refine (same_is _ _ _ _ _ _ _ _ _ _ true (same_self _ _ _ _ _) _).mono ?_; rintro e w' ⟨rfl, hb⟩))
    refine hK.out _ _ ?_ (fun hHeld => ?_)
    · exact keepS4 _ _ _ _ _ _ _ _ _ _ (by assumption) hb
    clear hK K hb
    try simp only [Act.put, List.getElem_toArray, List.getElem_cons_succ, List.getElem_cons_zero, List.setIfInBounds_toArray, List.set_cons_zero, List.set_cons_succ]
    refine wpAnyH_take (i := 6) (v := ?_) (by rfl) (by kernel_rfl) (by kernel_rfl) (by kernel_rfl) (fun _ _ _ h => h) (Or.inl ⟨by kernel_rfl, ?_⟩) (by assumption) ?_
    rotate_left 1
    · (intro w hSw; (try dsimp only at hSw); simp only [List.getElem_toArray, List.getElem_cons_succ, List.getElem_cons_zero]; go_simp; try with_reducible rfl)
    simp only [Act.put, List.getElem_toArray, List.getElem_cons_succ, List.getElem_cons_zero, List.setIfInBounds_toArray, List.set_cons_zero, List.set_cons_succ]
    refine wpAnyH_take (i := 7) (v := ?_) (by rfl) (by kernel_rfl) (by kernel_rfl) (by kernel_rfl) (fun _ _ _ h => h) (Or.inl ⟨by kernel_rfl, ?_⟩) (by assumption) ?_
    rotate_left 1
    · (intro w hSw; (try dsimp only at hSw); simp only [List.getElem_toArray, List.getElem_cons_succ, List.getElem_cons_zero]; go_simp; try with_reducible rfl)
    simp only [Act.put, List.getElem_toArray, List.getElem_cons_succ, List.getElem_cons_zero, List.setIfInBounds_toArray, List.set_cons_zero, List.set_cons_succ]
    refine wpAnyH_take (i := 8) (v := ?_) (by rfl) (by kernel_rfl) (by kernel_rfl) (by kernel_rfl) (fun _ _ _ h => h) (Or.inl ⟨by kernel_rfl, ?_⟩) (by assumption) ?_
    rotate_left 1
    · (intro w hSw; (try dsimp only at hSw); simp only [List.getElem_toArray, List.getElem_cons_succ, List.getElem_cons_zero]; go_simp; try with_reducible rfl)
    simp only [Act.put, List.getElem_toArray, List.getElem_cons_succ, List.getElem_cons_zero, List.setIfInBounds_toArray, List.set_cons_zero, List.set_cons_succ]
    refine wpAnyH_ready (rs := [9]) (by kernel_rfl) (by simp) ?_
    refine AllReadyH.cons (by rfl) (fun K hK => ?_) AllReadyH.nil
    rw [if_pos (by kernel_rfl)]
    simp only [List.getElem_toArray, List.getElem_cons_succ, List.getElem_cons_zero]
    go_wp2_with (first | (go_at_call 15; refine (sensory_yes _ _ _ _ _ hR _).mono ?_; rintro e w' ⟨rfl, hb⟩))
    refine hK.out _ _ ?_ (fun hHeld => ?_)
    · exact keepS4 _ _ _ _ _ _ _ _ _ _ (by assumption) hb
    clear hK K hb
    try simp only [Act.put, List.getElem_toArray, List.getElem_cons_succ, List.getElem_cons_zero, List.setIfInBounds_toArray, List.set_cons_zero, List.set_cons_succ]
    refine wpAnyH_take (i := 10) (v := ?_) (by rfl) (by kernel_rfl) (by kernel_rfl) (by kernel_rfl) (fun _ _ _ h => h) (Or.inl ⟨by kernel_rfl, ?_⟩) (by assumption) ?_
    rotate_left 1
    · (intro w hSw; (try dsimp only at hSw); simp only [List.getElem_toArray, List.getElem_cons_succ, List.getElem_cons_zero]; go_simp; try with_reducible rfl)
    simp only [Act.put, List.getElem_toArray, List.getElem_cons_succ, List.getElem_cons_zero, List.setIfInBounds_toArray, List.set_cons_zero, List.set_cons_succ]
    refine wpAnyH_take (i := 11) (v := ?_) (by rfl) (by kernel_rfl) (by kernel_rfl) (by kernel_rfl) (fun _ _ _ h => h) (Or.inl ⟨by kernel_rfl, ?_⟩) (by assumption) ?_
    rotate_left 1
    · (intro w hSw; (try dsimp only at hSw); simp only [List.getElem_toArray, List.getElem_cons_succ, List.getElem_cons_zero]; go_simp; try with_reducible rfl)
    simp only [Act.put, List.getElem_toArray, List.getElem_cons_succ, List.getElem_cons_zero, List.setIfInBounds_toArray, List.set_cons_zero, List.set_cons_succ]
    refine wpAnyH_take (i := 12) (v := ?_) (by rfl) (by kernel_rfl) (by kernel_rfl) (by kernel_rfl) (fun _ _ _ h => h) (Or.inl ⟨by kernel_rfl, ?_⟩) (by assumption) ?_
    rotate_left 1
    · (intro w hSw; (try dsimp only at hSw); simp only [List.getElem_toArray, List.getElem_cons_succ, List.getElem_cons_zero]; go_simp; try with_reducible rfl)
    simp only [Act.put, List.getElem_toArray, List.getElem_cons_succ, List.getElem_cons_zero, List.setIfInBounds_toArray, List.set_cons_zero, List.set_cons_succ]
    refine wpAnyH_ready (rs := [13]) (by kernel_rfl) (by simp) ?_
    refine AllReadyH.cons (by rfl) (fun K hK => ?_) AllReadyH.nil
    rw [if_pos (by kernel_rfl)]
    simp only [List.getElem_toArray, List.getElem_cons_succ, List.getElem_cons_zero]
    go_wp2_with (first | (go_at_call 17; refine (cW.out _).mono ?_; rintro e w' ⟨rfl, hb⟩))
    refine hK.out _ _ ?_ (fun hHeld => ?_)
    · exact keepS4 _ _ _ _ _ _ _ _ _ _ (by assumption) hb
    clear hK K hb
    try simp only [Act.put, List.getElem_toArray, List.getElem_cons_succ, List.getElem_cons_zero, List.setIfInBounds_toArray, List.set_cons_zero, List.set_cons_succ]
    refine wpAnyH_take (i := 14) (v := ?_) (by rfl) (by kernel_rfl) (by kernel_rfl) (by kernel_rfl) (fun _ _ _ h => h) (Or.inl ⟨by kernel_rfl, ?_⟩) (by assumption) ?_
    rotate_left 1
    · (intro w hSw; (try dsimp only at hSw); simp only [List.getElem_toArray, List.getElem_cons_succ, List.getElem_cons_zero]; go_simp; try with_reducible rfl)
    simp only [Act.put, List.getElem_toArray, List.getElem_cons_succ, List.getElem_cons_zero, List.setIfInBounds_toArray, List.set_cons_zero, List.set_cons_succ]
    refine wpAnyH_take (i := 15) (v := ?_) (by rfl) (by kernel_rfl) (by kernel_rfl) (by kernel_rfl) (fun _ _ _ h => h) (Or.inl ⟨by kernel_rfl, ?_⟩) (by assumption) ?_
    rotate_left 1
    · (intro w hSw; (try dsimp only at hSw); simp only [List.getElem_toArray, List.getElem_cons_succ, List.getElem_cons_zero]; go_simp; try with_reducible rfl)
    simp only [Act.put, List.getElem_toArray, List.getElem_cons_succ, List.getElem_cons_zero, List.setIfInBounds_toArray, List.set_cons_zero, List.set_cons_succ]
    refine wpAnyH_take (i := 16) (v := ?_) (by rfl) (by kernel_rfl) (by kernel_rfl) (by kernel_rfl) (fun _ _ _ h => h) (Or.inl ⟨by kernel_rfl, ?_⟩) (by assumption) ?_
    rotate_left 1
    · (intro w hSw; (try dsimp only at hSw); simp only [List.getElem_toArray, List.getElem_cons_succ, List.getElem_cons_zero]; go_simp; try with_reducible rfl)
    simp only [Act.put, List.getElem_toArray, List.getElem_cons_succ, List.getElem_cons_zero, List.setIfInBounds_toArray, List.set_cons_zero, List.set_cons_succ]
    refine wpAnyH_take (i := 17) (v := ?_) (by rfl) (by kernel_rfl) (by kernel_rfl) (by kernel_rfl) (fun _ _ _ h => h) (Or.inl ⟨by kernel_rfl, ?_⟩) (by assumption) ?_
    rotate_left 1
    · (intro w hSw; (try dsimp only at hSw); simp only [List.getElem_toArray, List.getElem_cons_succ, List.getElem_cons_zero]; go_simp; try with_reducible rfl)
    simp only [Act.put, List.getElem_toArray, List.getElem_cons_succ, List.getElem_cons_zero, List.setIfInBounds_toArray, List.set_cons_zero, List.set_cons_succ]
    refine wpAnyH_take (i := 18) (v := ?_) (by rfl) (by kernel_rfl) (by kernel_rfl) (by kernel_rfl) (fun _ _ _ h => h) (Or.inl ⟨by kernel_rfl, ?_⟩) (by assumption) ?_
    rotate_left 1
    · (intro w hSw; (try dsimp only at hSw); simp only [List.getElem_toArray, List.getElem_cons_succ, List.getElem_cons_zero]; go_simp; try with_reducible rfl)
    simp only [Act.put, List.getElem_toArray, List.getElem_cons_succ, List.getElem_cons_zero, List.setIfInBounds_toArray, List.set_cons_zero, List.set_cons_succ]
    refine wpAnyH_take (i := 19) (v := undef) (by rfl) (by kernel_rfl) (by kernel_rfl) (by kernel_rfl) (fun _ _ _ h => h) (Or.inr ⟨by kernel_rfl, rfl⟩) (by assumption) ?_
    simp only [Act.put, List.getElem_toArray, List.getElem_cons_succ, List.getElem_cons_zero, List.setIfInBounds_toArray, List.set_cons_zero, List.set_cons_succ]
    refine wpAnyH_take (i := 20) (v := undef) (by rfl) (by kernel_rfl) (by kernel_rfl) (by kernel_rfl) (fun _ _ _ h => h) (Or.inr ⟨by kernel_rfl, rfl⟩) (by assumption) ?_
    simp only [Act.put, List.getElem_toArray, List.getElem_cons_succ, List.getElem_cons_zero, List.setIfInBounds_toArray, List.set_cons_zero, List.set_cons_succ]
    refine wpAnyH_take (i := 21) (v := undef) (by rfl) (by kernel_rfl) (by kernel_rfl) (by kernel_rfl) (fun _ _ _ h => h) (Or.inr ⟨by kernel_rfl, rfl⟩) (by assumption) ?_
    simp only [Act.put, List.getElem_toArray, List.getElem_cons_succ, List.getElem_cons_zero, List.setIfInBounds_toArray, List.set_cons_zero, List.set_cons_succ]
    refine wpAnyH_take (i := 22) (v := ?_) (by rfl) (by kernel_rfl) (by kernel_rfl) (by kernel_rfl) (fun _ _ _ h => h) (Or.inl ⟨by kernel_rfl, ?_⟩) (by assumption) ?_
    rotate_left 1
    · (intro w hSw; (try dsimp only at hSw); simp only [List.getElem_toArray, List.getElem_cons_succ, List.getElem_cons_zero]; go_simp; try with_reducible rfl)
    simp only [Act.put, List.getElem_toArray, List.getElem_cons_succ, List.getElem_cons_zero, List.setIfInBounds_toArray, List.set_cons_zero, List.set_cons_succ]
    refine wpAnyH_take (i := 23) (v := ?_) (by rfl) (by kernel_rfl) (by kernel_rfl) (by kernel_rfl) (fun _ _ _ h => h) (Or.inl ⟨by kernel_rfl, ?_⟩) (by assumption) ?_
    rotate_left 1
    · (intro w hSw; (try dsimp only at hSw); simp only [List.getElem_toArray, List.getElem_cons_succ, List.getElem_cons_zero]; go_simp; try with_reducible rfl)
    simp only [Act.put, List.getElem_toArray, List.getElem_cons_succ, List.getElem_cons_zero, List.setIfInBounds_toArray, List.set_cons_zero, List.set_cons_succ]
    refine wpAnyH_take (i := 24) (v := ?_) (by rfl) (by kernel_rfl) (by kernel_rfl) (by kernel_rfl) (fun _ _ _ h => h) (Or.inl ⟨by kernel_rfl, ?_⟩) (by assumption) ?_
    rotate_left 1
    · (intro w hSw; (try dsimp only at hSw); simp only [List.getElem_toArray, List.getElem_cons_succ, List.getElem_cons_zero]; go_simp; try with_reducible rfl)
    simp only [Act.put, List.getElem_toArray, List.getElem_cons_succ, List.getElem_cons_zero, List.setIfInBounds_toArray, List.set_cons_zero, List.set_cons_succ]
    refine wpAnyH_take (i := 25) (v := ?_) (by rfl) (by kernel_rfl) (by kernel_rfl) (by kernel_rfl) (fun _ _ _ h => h) (Or.inl ⟨by kernel_rfl, ?_⟩) (by assumption) ?_
    rotate_left 1
    · (intro w hSw; (try dsimp only at hSw); simp only [List.getElem_toArray, List.getElem_cons_succ, List.getElem_cons_zero]; go_simp; try with_reducible rfl)
    simp only [Act.put, List.getElem_toArray, List.getElem_cons_succ, List.getElem_cons_zero, List.setIfInBounds_toArray, List.set_cons_zero, List.set_cons_succ]
    refine wpAnyH_take (i := 26) (v := ?_) (by rfl) (by kernel_rfl) (by kernel_rfl) (by kernel_rfl) (fun _ _ _ h => h) (Or.inl ⟨by kernel_rfl, ?_⟩) (by assumption) ?_
    rotate_left 1
    · (intro w hSw; (try dsimp only at hSw); simp only [List.getElem_toArray, List.getElem_cons_succ, List.getElem_cons_zero]; go_simp; try with_reducible rfl)
    simp only [Act.put, List.getElem_toArray, List.getElem_cons_succ, List.getElem_cons_zero, List.setIfInBounds_toArray, List.set_cons_zero, List.set_cons_succ]
    refine wpAnyH_ready (rs := [27]) (by kernel_rfl) (by simp) ?_
    refine AllReadyH.cons (by rfl) (fun K hK => ?_) AllReadyH.nil
    rw [if_pos (by kernel_rfl)]
    simp only [List.getElem_toArray, List.getElem_cons_succ, List.getElem_cons_zero]
    go_wp2_with (first | (go_at_call 8; refine (same_is _ _ _ _ _ _ _ _ _ _ true (same_self _ _ _ _ _) _).mono ?_; rintro e w' ⟨rfl, hb⟩))
    refine hK.out _ _ ?_ (fun hHeld => ?_)
    · exact keepS4 _ _ _ _ _ _ _ _ _ _ (by assumption) hb
    clear hK K hb
    try simp only [Act.put, List.getElem_toArray, List.getElem_cons_succ, List.getElem_cons_zero, List.setIfInBounds_toArray, List.set_cons_zero, List.set_cons_succ]
    refine wpAnyH_take (i := 28) (v := ?_) (by rfl) (by kernel_rfl) (by kernel_rfl) (by kernel_rfl) (fun _ _ _ h => h) (Or.inl ⟨by kernel_rfl, ?_⟩) (by assumption) ?_
    rotate_left 1
    · (intro w hSw; (try dsimp only at hSw); simp only [List.getElem_toArray, List.getElem_cons_succ, List.getElem_cons_zero]; go_simp; try with_reducible rfl)
    simp only [Act.put, List.getElem_toArray, List.getElem_cons_succ, List.getElem_cons_zero, List.setIfInBounds_toArray, List.set_cons_zero, List.set_cons_succ]
    refine wpAnyH_take (i := 29) (v := ?_) (by rfl) (by kernel_rfl) (by kernel_rfl) (by kernel_rfl) (fun _ _ _ h => h) (Or.inl ⟨by kernel_rfl, ?_⟩) (by assumption) ?_
    rotate_left 1
    · (intro w hSw; (try dsimp only at hSw); simp only [List.getElem_toArray, List.getElem_cons_succ, List.getElem_cons_zero]; go_simp; try with_reducible rfl)
    simp only [Act.put, List.getElem_toArray, List.getElem_cons_succ, List.getElem_cons_zero, List.setIfInBounds_toArray, List.set_cons_zero, List.set_cons_succ]
    refine wpAnyH_take (i := 30) (v := ?_) (by rfl) (by kernel_rfl) (by kernel_rfl) (by kernel_rfl) (fun _ _ _ h => h) (Or.inl ⟨by kernel_rfl, ?_⟩) (by assumption) ?_
    rotate_left 1
    · (intro w hSw; (try dsimp only at hSw); simp only [List.getElem_toArray, List.getElem_cons_succ, List.getElem_cons_zero]; go_simp; try with_reducible rfl)
    simp only [Act.put, List.getElem_toArray, List.getElem_cons_succ, List.getElem_cons_zero, List.setIfInBounds_toArray, List.set_cons_zero, List.set_cons_succ]
    refine wpAnyH_take (i := 31) (v := ?_) (by rfl) (by kernel_rfl) (by kernel_rfl) (by kernel_rfl) (fun _ _ _ h => h) (Or.inl ⟨by kernel_rfl, ?_⟩) (by assumption) ?_
    rotate_left 1
    · (intro w hSw; (try dsimp only at hSw); simp only [List.getElem_toArray, List.getElem_cons_succ, List.getElem_cons_zero]; go_simp; try with_reducible rfl)
    simp only [Act.put, List.getElem_toArray, List.getElem_cons_succ, List.getElem_cons_zero, List.setIfInBounds_toArray, List.set_cons_zero, List.set_cons_succ]
    refine wpAnyH_ready (rs := [32]) (by kernel_rfl) (by simp) ?_
    refine AllReadyH.cons (by rfl) (fun K hK => ?_) AllReadyH.nil
    rw [if_pos (by kernel_rfl)]
    simp only [List.getElem_toArray, List.getElem_cons_succ, List.getElem_cons_zero]
    go_wp2_with (first | (go_at_call 8; refine (same_is _ _ _ _ _ _ _ _ _ _ true (same_self _ _ _ _ _) _).mono ?_; rintro e w' ⟨rfl, hb⟩))
    refine hK.out _ _ ?_ (fun hHeld => ?_)
    · exact keepS4 _ _ _ _ _ _ _ _ _ _ (by assumption) hb
    clear hK K hb
    try simp only [Act.put, List.getElem_toArray, List.getElem_cons_succ, List.getElem_cons_zero, List.setIfInBounds_toArray, List.set_cons_zero, List.set_cons_succ]
    refine wpAnyH_take (i := 33) (v := ?_) (by rfl) (by kernel_rfl) (by kernel_rfl) (by kernel_rfl) (fun _ _ _ h => h) (Or.inl ⟨by kernel_rfl, ?_⟩) (by assumption) ?_
    rotate_left 1
    · (intro w hSw; (try dsimp only at hSw); simp only [List.getElem_toArray, List.getElem_cons_succ, List.getElem_cons_zero]; go_simp; try with_reducible rfl)
    simp only [Act.put, List.getElem_toArray, List.getElem_cons_succ, List.getElem_cons_zero, List.setIfInBounds_toArray, List.set_cons_zero, List.set_cons_succ]
    refine wpAnyH_take (i := 34) (v := ?_) (by rfl) (by kernel_rfl) (by kernel_rfl) (by kernel_rfl) (fun _ _ _ h => h) (Or.inl ⟨by kernel_rfl, ?_⟩) (by assumption) ?_
    rotate_left 1
    · (intro w hSw; (try dsimp only at hSw); simp only [List.getElem_toArray, List.getElem_cons_succ, List.getElem_cons_zero]; go_simp; try with_reducible rfl)
    simp only [Act.put, List.getElem_toArray, List.getElem_cons_succ, List.getElem_cons_zero, List.setIfInBounds_toArray, List.set_cons_zero, List.set_cons_succ]
    refine wpAnyH_take (i := 35) (v := ?_) (by rfl) (by kernel_rfl) (by kernel_rfl) (by kernel_rfl) (fun _ _ _ h => h) (Or.inl ⟨by kernel_rfl, ?_⟩) (by assumption) ?_
    rotate_left 1
    · (intro w hSw; (try dsimp only at hSw); simp only [List.getElem_toArray, List.getElem_cons_succ, List.getElem_cons_zero]; go_simp; try with_reducible rfl)
    simp only [Act.put, List.getElem_toArray, List.getElem_cons_succ, List.getElem_cons_zero, List.setIfInBounds_toArray, List.set_cons_zero, List.set_cons_succ]
    refine wpAnyH_ready (rs := [36]) (by kernel_rfl) (by simp) ?_
    refine AllReadyH.cons (by rfl) (fun K hK => ?_) AllReadyH.nil
    rw [if_pos (by kernel_rfl)]
    simp only [List.getElem_toArray, List.getElem_cons_succ, List.getElem_cons_zero]
    go_wp2_with (first | (go_at_call 7; refine (valid_is _ _ _ _ _ 0 hr gr _).mono ?_; rintro e w' ⟨rfl, hb⟩))
    refine hK.out _ _ ?_ (fun hHeld => ?_)
    · exact keepS4 _ _ _ _ _ _ _ _ _ _ (by assumption) hb
    clear hK K hb
    try simp only [Act.put, List.getElem_toArray, List.getElem_cons_succ, List.getElem_cons_zero, List.setIfInBounds_toArray, List.set_cons_zero, List.set_cons_succ]
    refine wpAnyH_take (i := 37) (v := ?_) (by rfl) (by kernel_rfl) (by kernel_rfl) (by kernel_rfl) (fun _ _ _ h => h) (Or.inl ⟨by kernel_rfl, ?_⟩) (by assumption) ?_
    rotate_left 1
    · (intro w hSw; (try dsimp only at hSw); simp only [List.getElem_toArray, List.getElem_cons_succ, List.getElem_cons_zero]; go_simp; try with_reducible rfl)
    simp only [Act.put, List.getElem_toArray, List.getElem_cons_succ, List.getElem_cons_zero, List.setIfInBounds_toArray, List.set_cons_zero, List.set_cons_succ]
    refine wpAnyH_take (i := 38) (v := ?_) (by rfl) (by kernel_rfl) (by kernel_rfl) (by kernel_rfl) (fun _ _ _ h => h) (Or.inl ⟨by kernel_rfl, ?_⟩) (by assumption) ?_
    rotate_left 1
    · (intro w hSw; (try dsimp only at hSw); simp only [List.getElem_toArray, List.getElem_cons_succ, List.getElem_cons_zero]; go_simp; try with_reducible rfl)
    simp only [Act.put, List.getElem_toArray, List.getElem_cons_succ, List.getElem_cons_zero, List.setIfInBounds_toArray, List.set_cons_zero, List.set_cons_succ]
    refine wpAnyH_take (i := 39) (v := ?_) (by rfl) (by kernel_rfl) (by kernel_rfl) (by kernel_rfl) (fun _ _ _ h => h) (Or.inl ⟨by kernel_rfl, ?_⟩) (by assumption) ?_
    rotate_left 1
    · (intro w hSw; (try dsimp only at hSw); simp only [List.getElem_toArray, List.getElem_cons_succ, List.getElem_cons_zero]; go_simp; try with_reducible rfl)
    simp only [Act.put, List.getElem_toArray, List.getElem_cons_succ, List.getElem_cons_zero, List.setIfInBounds_toArray, List.set_cons_zero, List.set_cons_succ]
    refine wpAnyH_done (by kernel_rfl) ?_ _
    refine NoPanic.normal ?_
    go_wp2
    go_ret
    refine ⟨by simp, ?_⟩
    apply And.left
    assumption

theorem or5_fin : ∀ n : Fin 8, ∃ r : Fin 8, orI (n.val : Int) 5 = (r.val : Int) ∧ orI (r.val : Int) 5 = (r.val : Int) ∧ (andI (r.val : Int) 5 == 0) = false ∧ (andI (r.val : Int) (n.val : Int) == (n.val : Int)) = true := by decide +kernel
theorem inB_of {k0 k1 k2 k3 k4 : Int} (h : codeOf k0 k1 k2 k3 k4 = 0) : ¬ (k0 < 0 ∨ 14 < k0) ∧ InB k0 k1 k2 k3 k4 := by
  unfold codeOf at h
  by_cases h1 : k0 < 0 ∨ 14 < k0
  · rw [if_pos h1] at h; omega
  rw [if_neg h1] at h
  by_cases h2 : InB k0 k1 k2 k3 k4
  · exact ⟨h1, h2⟩
  · rw [if_neg h2] at h; omega
theorem walk_RightWeakens (x0_0 : Int) (x0_1 : Int) (x0_2 : Int) (x0_3 : Int) (x0_4 : Int) (w : World) (wx0_0 : (Lit.int .i64 x0_0).wf = true) (wx0_1 : (Lit.int .i64 x0_1).wf = true) (wx0_2 : (Lit.int .i64 x0_2).wf = true) (wx0_3 : (Lit.int .i64 x0_3).wf = true) (wx0_4 : (Lit.int .u32 x0_4).wf = true) :
    Calls Try.prog 4 #[.agg #[.int .i64 x0_0, .int .i64 x0_1, .int .i64 x0_2, .int .i64 x0_3, .int .u32 x0_4]] w fun e w' => e = .returned (.bool true) ∧ Below w.heap.size w w' := by
  have gk := fits32 wx0_4
  rcases code_cases x0_0 x0_1 x0_2 x0_3 x0_4 with hk | hk | hk
  · obtain ⟨hr0, hin⟩ := inB_of hk
    have h8 := rights_in _ _ _ _ _ hk
    by_cases hm : x0_0 = 2 ∨ x0_0 = 3
    · obtain ⟨n, rfl⟩ := h8.fin
      obtain ⟨r, e1, e2, e3, e4⟩ := or5_fin n
      have hW : Wk [x0_0, x0_1, x0_2, (n.val : Int), x0_4] [x0_0, x0_1, x0_2, (r.val : Int), x0_4] := .inl ⟨hm, by show _ = [x0_0, x0_1, x0_2, orI (n.val : Int) 5, x0_4]; rw [e1]⟩
      have hR : Wk [x0_0, x0_1, x0_2, (r.val : Int), x0_4] [x0_0, x0_1, x0_2, (r.val : Int), x0_4] := .inl ⟨hm, by show _ = [x0_0, x0_1, x0_2, orI (r.val : Int) 5, x0_4]; rw [e2]⟩
      have hcr : codeOf x0_0 x0_1 x0_2 (r.val : Int) x0_4 = 0 := by
        refine codeOf_0 _ _ _ _ _ hr0 ?_
        unfold InB at hin ⊢
        have hrr : rightsOf x0_0 = 7 := by unfold rightsOf; rw [if_pos hm]
        have := r.isLt
        refine ⟨hin.1, hin.2.1, hin.2.2.1, hin.2.2.2.1, by omega, by omega, hin.2.2.2.2.2.2⟩
      refine weakens_walk x0_0 x0_1 x0_2 (n.val : Int) x0_4 x0_0 x0_1 x0_2 (r.val : Int) x0_4 _ gk gk (Lib.hid hW) (Lib.hid hR) (Lib.hid rfl) (Lib.hid hk) (Lib.hid hcr) (Lib.hid fun W => ?_) (Lib.hid fun _ W => within_is x0_0 x0_1 x0_2 (r.val : Int) x0_4 (n.val : Int) true e4 W) w
      have h := writes_mem x0_0 x0_1 x0_2 (r.val : Int) x0_4 hm W
      have e3' : (bits BinOp.and IntKind.i64 (r.val : Int) 5 == 0) = false := e3
      rw [e3'] at h
      exact h
    · by_cases hs : x0_0 = 0 ∨ x0_0 = 1 ∨ x0_0 = 12 ∨ x0_0 = 14
      · have hW : Wk [x0_0, x0_1, x0_2, x0_3, x0_4] [x0_0, x0_1, x0_2, x0_3, x0_4] := .inr (.inl ⟨hs, rfl⟩)
        have hself : (bits BinOp.and IntKind.i64 x0_3 x0_3 == x0_3) = true := by obtain ⟨n, rfl⟩ := h8.fin; exact self_fin n
        exact weakens_walk x0_0 x0_1 x0_2 x0_3 x0_4 x0_0 x0_1 x0_2 x0_3 x0_4 _ gk gk (Lib.hid hW) (Lib.hid hW) (Lib.hid rfl) (Lib.hid hk) (Lib.hid hk) (Lib.hid fun W => writes_no x0_0 x0_1 x0_2 x0_3 x0_4 (by omega) (by omega) W) (Lib.hid fun _ W => within_is x0_0 x0_1 x0_2 x0_3 x0_4 x0_3 true hself W) w
      · have hW : Wk [x0_0, x0_1, x0_2, x0_3, x0_4] [0, 0, 0, 0, 0] := .inr (.inr ⟨by simp; omega, rfl⟩)
        have hR : Wk [0, 0, 0, 0, 0] [0, 0, 0, 0, 0] := .inr (.inl ⟨.inl rfl, rfl⟩)
        exact weakens_walk x0_0 x0_1 x0_2 x0_3 x0_4 0 0 0 0 0 true gk (by decide) (Lib.hid hW) (Lib.hid hR) (Lib.hid rfl) (Lib.hid hk) (Lib.hid (by decide)) (Lib.hid fun W => writes_no 0 0 0 0 0 (by decide) (by decide) W) (Lib.hid fun h => by cases h) w
  · exact weakens_early _ _ _ _ _ _ gk (.inl rfl) (Lib.hid hk) w
  · exact weakens_early _ _ _ _ _ _ gk (.inr rfl) (Lib.hid hk) w
end Go.Proofs.Ytggnaalcdekccaa
