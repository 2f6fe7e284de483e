/-
  Gm, Go, Gp, Gr, Gs, Gn, Gq, Gv, Gw, Gy, Gz, Gt, G5, G7: what GateStates reaches of them.
-/
import Derived.Test.YtllcakiomihipaaGreatDoorQS3
namespace Go.Proofs.YtllcakiomihipaaGreatDoor
open Go.ChangeShapes Go.WideShapes Go.ChangeAt Go.RowKit
set_option linter.unusedVariables false
set_option linter.unusedSimpArgs false
section
variable {cs : List Value} {s : Nat} {k0 k1 k2 k3 k4 o x : Int}
set_option maxRecDepth 100000 in
set_option maxHeartbeats 400000 in
theorem cnumber_0 (hc : Hid (CallC cs s k0 k1 k2 k3 k4 0 x)) (w : World) : Calls Tryz.prog 88 #[(.agg cs.toArray)] w fun e w' => e = .returned (Value.agg #[.int .u32 0, .int .u32 k4, .int .u32 0, .int .u32 0, .int .i64 0, .int .i64 0, .int .i64 0, .int .i64 0, .int .u32 0, .int .i64 0, .int .i64 0, .int .i64 0, .int .i64 0, .int .u32 0, .int .i64 0, .int .i64 0, .int .i64 0, .int .i64 0, .int .u32 0]) ∧ Below w.heap.size w w' := by
  go_enter Tryz.func88, Tryz.ntmps88; go_upto_region 1 with fail; generalize hA : World.alloc w _ = wK; obtain ⟨C, hC⟩ : ∃ C, C = w.heap.size := ⟨_, rfl⟩; have HK : Hid (Below w.heap.size w wK ∧ wK.rangeAt C 0 cs ∧ wK.heap.size = C + 1) := Lib.hid (by rw [← hA, hC]; exact ⟨(Below.refl _ _).alloc (Nat.le_refl _) _, cbox _ _ _, by simp⟩); have HCl : Hid (w.heap.size ≤ C) := Lib.hid (by rw [hC]; exact Nat.le_refl _); rw [← hC]; clear hA hC; generalize hA : World.alloc wK _ = wA; obtain ⟨R, hR⟩ : ∃ R, R = C + 1 := ⟨_, rfl⟩; have HA : Hid (Below w.heap.size w wA ∧ wA.rangeAt C 0 cs ∧ World.there wA R 0 19 ∧ C < R ∧ R < wA.heap.size) := Lib.hid (by rw [← hA, hR, ← HK.out.2.2]; exact ⟨HK.out.1.alloc HK.out.1.size _, range_below HK.out.2.1 ((Below.refl _ _).alloc (Nat.le_refl _) _) (by have := HK.out.2.2; omega), nthere_new _ _ 19 (by rfl) _, by have := HK.out.2.2; omega, by simp⟩); rw [← hR]; clear hA hR
  have q6 := CallC.cell HA.out.2.1 6 _ hc.out.c6
  have q5 := CallC.cell HA.out.2.1 5 _ hc.out.c5
  go_wp2_with (first | (go_at_call 115; (with_reducible refine (owords_one k4 wA.heap.size 1 _ (by simp)).mono ?_); rintro e w2 ⟨rfl, hb⟩; have HB2 : Hid (Below wA.heap.size wA w2) := Lib.hid (((Below.refl wA.heap.size wA).alloc (Nat.le_refl _) _).trans (hb.mono (by simp))); have HT2 := Lib.hid (nthere_below HA.out.2.2.1 HB2.out HA.out.2.2.2.2); clear hb) | (refine wpList_store_mid (by rfl) _ _ _ (by rfl) R 0 ([.int .u32 0, .int .u32 k4, .int .u32 0, .int .u32 0, .int .i64 0, .int .i64 0, .int .i64 0, .int .i64 0, .int .u32 0, .int .i64 0, .int .i64 0, .int .i64 0, .int .i64 0, .int .u32 0, .int .i64 0, .int .i64 0, .int .i64 0, .int .i64 0, .int .u32 0] : List Value).toArray (by rfl) (by rfl) HT2.out infoNote (note_one _ _ _ _ _ _ _ _ _ _ _ _ _ _ _ _ _ _ _) ?_))
  have hRn : w.heap.size ≤ R := (by have := HA.out.2.2.2.1; have := HCl.out; omega); generalize hS : World.setCells w2 _ _ _ = wS; have HS : Hid (Below w.heap.size w wS ∧ wS.rangeAt R 0 [.int .u32 0, .int .u32 k4, .int .u32 0, .int .u32 0, .int .i64 0, .int .i64 0, .int .i64 0, .int .i64 0, .int .u32 0, .int .i64 0, .int .i64 0, .int .i64 0, .int .i64 0, .int .u32 0, .int .i64 0, .int .i64 0, .int .i64 0, .int .i64 0, .int .u32 0]) := Lib.hid (by rw [← hS]; exact ⟨nbelow_cells (HA.out.1.trans (HB2.out.mono HA.out.1.size)) hRn _ _, World.rangeAt_setCells_same w2 R 0 [.int .u32 0, .int .u32 k4, .int .u32 0, .int .u32 0, .int .i64 0, .int .i64 0, .int .i64 0, .int .i64 0, .int .u32 0, .int .i64 0, .int .i64 0, .int .i64 0, .int .i64 0, .int .u32 0, .int .i64 0, .int .i64 0, .int .i64 0, .int .i64 0, .int .u32 0] HT2.out⟩); have hld := nload rfl HS.out.2; refine bodyPost_ret (v := (Value.agg #[.int .u32 0, .int .u32 k4, .int .u32 0, .int .u32 0, .int .i64 0, .int .i64 0, .int .i64 0, .int .i64 0, .int .u32 0, .int .i64 0, .int .i64 0, .int .i64 0, .int .i64 0, .int .u32 0, .int .i64 0, .int .i64 0, .int .i64 0, .int .i64 0, .int .u32 0])) (by simp [results, Tryz.results88, Act.put, asAddr, hld]) rfl ⟨rfl, HS.out.1⟩
set_option maxRecDepth 100000 in
set_option maxHeartbeats 400000 in
theorem cclock_0 (hc : Hid (CallC cs s k0 k1 k2 k3 k4 0 x)) (w : World) (hst : w.cell? ⟨s, 8, none⟩ = some (.int .i64 0)) : Calls Tryz.prog 99 #[(.agg cs.toArray)] w fun e w' => e = .returned (Value.agg #[.int .u32 0, .int .u32 0, .int .u32 0, .int .u32 0, .int .i64 0, .int .i64 0, .int .i64 0, .int .i64 0, .int .u32 0, .int .i64 0, .int .i64 0, .int .i64 0, .int .i64 0, .int .u32 0, .int .i64 0, .int .i64 0, .int .i64 0, .int .i64 0, .int .u32 0]) ∧ Below w.heap.size w w' := by
  have HS0 := Lib.hid hst
  clear hst
  go_enter Tryz.func99, Tryz.ntmps99; go_upto_region 1 with fail; generalize hA : World.alloc w _ = wK; obtain ⟨C, hC⟩ : ∃ C, C = w.heap.size := ⟨_, rfl⟩; have HK : Hid (Below w.heap.size w wK ∧ wK.rangeAt C 0 cs ∧ wK.heap.size = C + 1) := Lib.hid (by rw [← hA, hC]; exact ⟨(Below.refl _ _).alloc (Nat.le_refl _) _, cbox _ _ _, by simp⟩); have HCl : Hid (w.heap.size ≤ C) := Lib.hid (by rw [hC]; exact Nat.le_refl _); rw [← hC]; clear hA hC; generalize hA : World.alloc wK _ = wA; obtain ⟨R, hR⟩ : ∃ R, R = C + 1 := ⟨_, rfl⟩; have HA : Hid (Below w.heap.size w wA ∧ wA.rangeAt C 0 cs ∧ World.there wA R 0 19 ∧ C < R ∧ R < wA.heap.size) := Lib.hid (by rw [← hA, hR, ← HK.out.2.2]; exact ⟨HK.out.1.alloc HK.out.1.size _, range_below HK.out.2.1 ((Below.refl _ _).alloc (Nat.le_refl _) _) (by have := HK.out.2.2; omega), nthere_new _ _ 19 (by rfl) _, by have := HK.out.2.2; omega, by simp⟩); rw [← hR]; clear hA hR
  have q0 := CallC.cell HA.out.2.1 0 _ hc.out.c0
  have q6 := CallC.cell HA.out.2.1 6 _ hc.out.c6
  have q8 := (HA.out.1.cell (p := ⟨s, 8, none⟩) (cell_lt HS0.out)).trans HS0.out
  go_wp2_with (first | (go_at_call 115; (with_reducible refine (owords_one 0 wA.heap.size 1 _ (by simp)).mono ?_); rintro e w2 ⟨rfl, hb⟩; have HB2 : Hid (Below wA.heap.size wA w2) := Lib.hid (((Below.refl wA.heap.size wA).alloc (Nat.le_refl _) _).trans (hb.mono (by simp))); have HT2 := Lib.hid (nthere_below HA.out.2.2.1 HB2.out HA.out.2.2.2.2); clear hb) | (refine wpList_store_mid (by rfl) _ _ _ (by rfl) R 0 ([.int .u32 0, .int .u32 0, .int .u32 0, .int .u32 0, .int .i64 0, .int .i64 0, .int .i64 0, .int .i64 0, .int .u32 0, .int .i64 0, .int .i64 0, .int .i64 0, .int .i64 0, .int .u32 0, .int .i64 0, .int .i64 0, .int .i64 0, .int .i64 0, .int .u32 0] : List Value).toArray (by rfl) (by rfl) HT2.out infoNote (note_one _ _ _ _ _ _ _ _ _ _ _ _ _ _ _ _ _ _ _) ?_))
  have hRn : w.heap.size ≤ R := (by have := HA.out.2.2.2.1; have := HCl.out; omega); generalize hS : World.setCells w2 _ _ _ = wS; have HS : Hid (Below w.heap.size w wS ∧ wS.rangeAt R 0 [.int .u32 0, .int .u32 0, .int .u32 0, .int .u32 0, .int .i64 0, .int .i64 0, .int .i64 0, .int .i64 0, .int .u32 0, .int .i64 0, .int .i64 0, .int .i64 0, .int .i64 0, .int .u32 0, .int .i64 0, .int .i64 0, .int .i64 0, .int .i64 0, .int .u32 0]) := Lib.hid (by rw [← hS]; exact ⟨nbelow_cells (HA.out.1.trans (HB2.out.mono HA.out.1.size)) hRn _ _, World.rangeAt_setCells_same w2 R 0 [.int .u32 0, .int .u32 0, .int .u32 0, .int .u32 0, .int .i64 0, .int .i64 0, .int .i64 0, .int .i64 0, .int .u32 0, .int .i64 0, .int .i64 0, .int .i64 0, .int .i64 0, .int .u32 0, .int .i64 0, .int .i64 0, .int .i64 0, .int .i64 0, .int .u32 0] HT2.out⟩); have hld := nload rfl HS.out.2; refine bodyPost_ret (v := (Value.agg #[.int .u32 0, .int .u32 0, .int .u32 0, .int .u32 0, .int .i64 0, .int .i64 0, .int .i64 0, .int .i64 0, .int .u32 0, .int .i64 0, .int .i64 0, .int .i64 0, .int .i64 0, .int .u32 0, .int .i64 0, .int .i64 0, .int .i64 0, .int .i64 0, .int .u32 0])) (by simp [results, Tryz.results99, Act.put, asAddr, hld]) rfl ⟨rfl, HS.out.1⟩
end
section
variable {w0 w w' W : World} {L : BLoc} {X : SLoc} {nd B : Nat} {A : List Nat} {F : Nat → Nat → Value} {l : List Int}
theorem ans_gen2 {nt : List Value} (hnl : nt.length = 19) (hn1 : ∀ v, v ∈ nt → v.oneCell' = true) (s : Nat) (k0 k1 k2 k3 k4 : Int) (h5 : (k0 == 5) = false) (h6 : (k0 == 6) = false) (vs vr : Value) (w : World) (hE : ErrsAt vs vr w)
    (hs : ∀ W, Below w.heap.size w W → Calls Tryz.prog 21 #[.pointer (some ⟨s, 0, none⟩), (Value.agg #[.int .i64 k0, .int .i64 k1, .int .i64 k2, .int .i64 k3, .int .u32 k4])] W fun e w' => e = .returned (Value.agg #[.int .i64 k0, .int .i64 k1, .int .i64 k2, .int .i64 k3, .int .u32 k4]) ∧ Below W.heap.size W w')
    (ha : ∀ cs, Hid (CallC cs s k0 k1 k2 k3 k4 0 0) → ∀ W, Below w.heap.size w W → Calls Tryz.prog 60 #[(.agg cs.toArray)] W fun e w' => e = .returned (.agg nt.toArray) ∧ Below W.heap.size W w') :
    Calls Tryz.prog 32 #[.pointer (some ⟨s, 0, none⟩), (Value.agg #[.int .i64 k0, .int .i64 k1, .int .i64 k2, .int .i64 k3, .int .u32 k4]), (Value.agg #[.int .u32 0, .int .u32 0, .int .u32 0, .int .u32 0, .int .i64 0, .int .i64 0, .int .i64 0, .int .i64 0, .int .u32 0, .int .i64 0, .int .i64 0, .int .i64 0, .int .i64 0, .int .u32 0, .int .i64 0, .int .i64 0, .int .i64 0, .int .i64 0, .int .u32 0])] w fun e w' => e = .returned (.tuple #[.agg nt.toArray, .bool true]) ∧ Below w.heap.size w w' := by
  refine (oanswer (Q := fun w' => Below w.heap.size w w') (N := w.heap.size) hnl hn1 s k0 k1 k2 k3 k4 k0 k1 k2 k3 k4 0 0 0 0 0 0 0 0 0 0 0 0 0 0 0 0 0 0 0 0 0 0 0 0 0 0 0 0 0 0 0 0 0 0 h5 h6 w (Nat.le_refl _) (fun w1 w2 h1 h2 => h1.trans h2) hs ?_ ?_ ?_ ?_).mono (fun e w' h9 => ⟨h9.1, h9.2.1⟩)
  · exact fun V hV => oseen_void s vs vr V (hE.below hV)
  · exact fun V hV => oseen_void s vs vr V (hE.below hV)
  · exact fun V hV => oseen_void s vs vr V (hE.below hV)
  · exact fun V hV => (ha _ (Lib.hid (c25_call s k0 k1 k2 k3 k4 0 0 0 0 0 0 0 0 0 0 0 0 0 0 0 0 0 0 0)) V hV).mono (fun e w' h9 => ⟨h9.1, hV.trans (h9.2.mono hV.size), UpT.below h9.2⟩)
theorem nwc_len (a b c d : Int) : ([.int .u32 a, .int .u32 b, .int .u32 c, .int .u32 d, .int .i64 0, .int .i64 0, .int .i64 0, .int .i64 0, .int .u32 0, .int .i64 0, .int .i64 0, .int .i64 0, .int .i64 0, .int .u32 0, .int .i64 0, .int .i64 0, .int .i64 0, .int .i64 0, .int .u32 0] : List Value).length = 19 := rfl
theorem nwc_one (a b c d : Int) : ∀ v, v ∈ ([.int .u32 a, .int .u32 b, .int .u32 c, .int .u32 d, .int .i64 0, .int .i64 0, .int .i64 0, .int .i64 0, .int .u32 0, .int .i64 0, .int .i64 0, .int .i64 0, .int .i64 0, .int .u32 0, .int .i64 0, .int .i64 0, .int .i64 0, .int .i64 0, .int .u32 0] : List Value) → v.oneCell' = true :=
  fun v hv => List.all_eq_true.1 (show ([.int .u32 a, .int .u32 b, .int .u32 c, .int .u32 d, .int .i64 0, .int .i64 0, .int .i64 0, .int .i64 0, .int .u32 0, .int .i64 0, .int .i64 0, .int .i64 0, .int .i64 0, .int .u32 0, .int .i64 0, .int .i64 0, .int .i64 0, .int .i64 0, .int .u32 0] : List Value).all (·.oneCell') = true by simp [Value.oneCell']) v hv
theorem ga_void (h : GS w0 w L X nd B A F l) (vs vr : Value) (hE : ErrsAt vs vr w0) : Calls Tryz.prog 32 #[.pointer (some ⟨X.s, 0, none⟩), (Value.agg #[.int .i64 0, .int .i64 0, .int .i64 0, .int .i64 0, .int .u32 0]), (Value.agg #[.int .u32 0, .int .u32 0, .int .u32 0, .int .u32 0, .int .i64 0, .int .i64 0, .int .i64 0, .int .i64 0, .int .u32 0, .int .i64 0, .int .i64 0, .int .i64 0, .int .i64 0, .int .u32 0, .int .i64 0, .int .i64 0, .int .i64 0, .int .i64 0, .int .u32 0])] w fun e w' => e = .returned (.tuple #[(Value.agg #[.int .u32 1, .int .u32 0, .int .u32 0, .int .u32 0, .int .i64 0, .int .i64 0, .int .i64 0, .int .i64 0, .int .u32 0, .int .i64 0, .int .i64 0, .int .i64 0, .int .i64 0, .int .u32 0, .int .i64 0, .int .i64 0, .int .i64 0, .int .i64 0, .int .u32 0]), .bool true]) ∧ Below w.heap.size w w' :=
  ans_gen2 (nt := [.int .u32 1, .int .u32 0, .int .u32 0, .int .u32 0, .int .i64 0, .int .i64 0, .int .i64 0, .int .i64 0, .int .u32 0, .int .i64 0, .int .i64 0, .int .i64 0, .int .i64 0, .int .u32 0, .int .i64 0, .int .i64 0, .int .i64 0, .int .i64 0, .int .u32 0]) (nwc_len _ _ _ _) (nwc_one _ _ _ _) X.s 0 0 0 0 0 (by decide) (by decide) vs vr w (h.errs hE) (fun W hW => oseen_void X.s vs vr W ((h.errs hE).below hW)) (fun cs hc W hW => oanswer_void hc W)
theorem ga_number (k4 : Int) (hr : rightB 1 0 0 0 k4 = true) (h : GS w0 w L X nd B A F l) (vs vr : Value) (hE : ErrsAt vs vr w0) : Calls Tryz.prog 32 #[.pointer (some ⟨X.s, 0, none⟩), (Value.agg #[.int .i64 1, .int .i64 0, .int .i64 0, .int .i64 0, .int .u32 k4]), (Value.agg #[.int .u32 0, .int .u32 0, .int .u32 0, .int .u32 0, .int .i64 0, .int .i64 0, .int .i64 0, .int .i64 0, .int .u32 0, .int .i64 0, .int .i64 0, .int .i64 0, .int .i64 0, .int .u32 0, .int .i64 0, .int .i64 0, .int .i64 0, .int .i64 0, .int .u32 0])] w fun e w' => e = .returned (.tuple #[(Value.agg #[.int .u32 0, .int .u32 k4, .int .u32 0, .int .u32 0, .int .i64 0, .int .i64 0, .int .i64 0, .int .i64 0, .int .u32 0, .int .i64 0, .int .i64 0, .int .i64 0, .int .i64 0, .int .u32 0, .int .i64 0, .int .i64 0, .int .i64 0, .int .i64 0, .int .u32 0]), .bool true]) ∧ Below w.heap.size w w' :=
  ans_gen2 (nt := [.int .u32 0, .int .u32 k4, .int .u32 0, .int .u32 0, .int .i64 0, .int .i64 0, .int .i64 0, .int .i64 0, .int .u32 0, .int .i64 0, .int .i64 0, .int .i64 0, .int .i64 0, .int .u32 0, .int .i64 0, .int .i64 0, .int .i64 0, .int .i64 0, .int .u32 0]) (nwc_len _ _ _ _) (nwc_one _ _ _ _) X.s 1 0 0 0 k4 (by decide) (by decide) vs vr w (h.errs hE) (fun W hW => oseen_live 1 0 0 0 k4 W (fun V hV => nvalid_ok 1 0 0 0 k4 (Lib.hid hr) vs vr V ((h.errs hE).below (hW.trans (hV.mono hW.size)))) (fun V hV => slive_plain X.s 1 0 0 0 k4 (by decide) V))
    (fun cs hc W hW => (oanswer_number (Q := fun w' => Below W.heap.size W w') (nwc_len 0 k4 0 0) (nwc_one 0 k4 0 0) hc W (Nat.le_refl _) (fun w1 w2 h1 h2 => h1.trans h2) (fun V hV => (cnumber_0 hc V).mono (fun e w' h9 => ⟨h9.1, hV.trans (h9.2.mono hV.size), UpT.below h9.2⟩))).mono (fun e w' h9 => ⟨h9.1, h9.2.1⟩))
theorem GS.c8 (h : GS w0 w L X nd B A F l) : w.cell? ⟨X.s, 8, none⟩ = some (.int .i64 0) := by obtain ⟨D, h1, _⟩ := h.sj; exact h1.b.c8
theorem ga_clock (h : GS w0 w L X nd B A F l) (vs vr : Value) (hE : ErrsAt vs vr w0) : Calls Tryz.prog 32 #[.pointer (some ⟨X.s, 0, none⟩), (Value.agg #[.int .i64 14, .int .i64 0, .int .i64 0, .int .i64 0, .int .u32 0]), (Value.agg #[.int .u32 0, .int .u32 0, .int .u32 0, .int .u32 0, .int .i64 0, .int .i64 0, .int .i64 0, .int .i64 0, .int .u32 0, .int .i64 0, .int .i64 0, .int .i64 0, .int .i64 0, .int .u32 0, .int .i64 0, .int .i64 0, .int .i64 0, .int .i64 0, .int .u32 0])] w fun e w' => e = .returned (.tuple #[(Value.agg #[.int .u32 0, .int .u32 0, .int .u32 0, .int .u32 0, .int .i64 0, .int .i64 0, .int .i64 0, .int .i64 0, .int .u32 0, .int .i64 0, .int .i64 0, .int .i64 0, .int .i64 0, .int .u32 0, .int .i64 0, .int .i64 0, .int .i64 0, .int .i64 0, .int .u32 0]), .bool true]) ∧ Below w.heap.size w w' :=
  ans_gen2 (nt := [.int .u32 0, .int .u32 0, .int .u32 0, .int .u32 0, .int .i64 0, .int .i64 0, .int .i64 0, .int .i64 0, .int .u32 0, .int .i64 0, .int .i64 0, .int .i64 0, .int .i64 0, .int .u32 0, .int .i64 0, .int .i64 0, .int .i64 0, .int .i64 0, .int .u32 0]) (nwc_len _ _ _ _) (nwc_one _ _ _ _) X.s 14 0 0 0 0 (by decide) (by decide) vs vr w (h.errs hE) (fun W hW => oseen_live 14 0 0 0 0 W (fun V hV => nvalid_ok 14 0 0 0 0 (Lib.hid (by decide)) vs vr V ((h.errs hE).below (hW.trans (hV.mono hW.size)))) (fun V hV => slive_plain X.s 14 0 0 0 0 (by decide) V))
    (fun cs hc W hW => (oanswer_clock (Q := fun w' => Below W.heap.size W w') (nwc_len 0 0 0 0) (nwc_one 0 0 0 0) hc W (Nat.le_refl _) (fun w1 w2 h1 h2 => h1.trans h2) (fun V hV => (cclock_0 hc V (h.below (hW.trans (hV.mono hW.size))).c8).mono (fun e w' h9 => ⟨h9.1, hV.trans (h9.2.mono hV.size), UpT.below h9.2⟩))).mono (fun e w' h9 => ⟨h9.1, h9.2.1⟩))
/-- The key that starts a domain. -/
theorem GS.door (h : GS w0 w L X nd B A F l) (x : Int) (i : Nat) (hx : Hid (x = (i : Int))) (hi : i < nd) (d : Int) (hd : d ≤ 536870911) : Calls Tryz.prog 15 #[.pointer (some ⟨L.dP, 0, none⟩), .int .i64 x, .int .u32 d] w fun e w' => e = .returned (Value.agg #[.int .i64 5, .int .i64 x, .int .i64 0, .int .i64 0, .int .u32 d]) ∧ Below w.heap.size w w' := by
  obtain ⟨D, h1, h2⟩ := h.sj
  have hn := h.nn
  exact ddoor_of x d 5 x 0 0 d w (fun W hW => dkeyof_in 5 x d i hx (by omega) (Lib.hid (by rw [h2.dt]; exact decide_eq_true hi)) hd 0 (Lib.hid (by rw [h2.dv])) W (h1.below hW).k.d)
theorem GS.seen_start (h : GS w0 w L X nd B A F l) (x : Int) (i : Nat) (hx : Hid (x = (i : Int))) (hi : i < nd) (d : Int) (hr : rightB 5 x 0 0 d = true) (vs vr : Value) (hE : ErrsAt vs vr w0) : Calls Tryz.prog 21 #[.pointer (some ⟨X.s, 0, none⟩), (Value.agg #[.int .i64 5, .int .i64 x, .int .i64 0, .int .i64 0, .int .u32 d])] w fun e w' => e = .returned (Value.agg #[.int .i64 5, .int .i64 x, .int .i64 0, .int .i64 0, .int .u32 d]) ∧ Below w.heap.size w w' := by
  refine oseen_live 5 x 0 0 d w (fun V hV => nvalid_ok 5 x 0 0 d (Lib.hid hr) vs vr V ((h.errs hE).below hV)) (fun V hV => ?_)
  obtain ⟨D, h1, h2⟩ := (h.below hV).sj
  have hn := h.nn
  exact slive_start x 0 0 d L.dp L.dR L.dn L.dc L.dB D.dt D.dv true (Lib.hid (by rw [h2.dt, h2.dv, hx.out]; simp [thereB, thN]; omega)) V h1.b h1.k.d.pl.f0 h1.k.d.pl.ar
end
end Go.Proofs.YtllcakiomihipaaGreatDoor
namespace Go.Proofs.YtllcakiomihipaaGreatDoor
open Go.ChangeShapes Go.WideShapes Go.ChangeAt Go.RowKit
set_option linter.unusedVariables false
set_option linter.unusedSimpArgs false
set_option maxRecDepth 100000 in
set_option maxHeartbeats 4000000 in
theorem oanswer_no (s : Nat) (k0 k1 k2 k3 k4 : Int) (r0 r1 r2 r3 r4 : Int) (o a b c : Int) (m0 m1 m2 m3 m4 : Int) (n0 n1 n2 n3 n4 : Int) (p0 p1 p2 p3 p4 : Int) (x0 x1 x2 x3 x4 : Int) (y0 y1 y2 y3 y4 : Int) (z0 z1 z2 z3 z4 : Int) (h5 : r0 = 5) (w : World)
    (hk : (∀ W, Below w.heap.size w W → Calls Tryz.prog 21 #[.pointer (some ⟨s, 0, none⟩), (Value.agg #[.int .i64 k0, .int .i64 k1, .int .i64 k2, .int .i64 k3, .int .u32 k4])] W fun e w' => e = .returned (Value.agg #[.int .i64 r0, .int .i64 r1, .int .i64 r2, .int .i64 r3, .int .u32 r4]) ∧ Below W.heap.size W w')) (hm : (∀ W, Below w.heap.size w W → Calls Tryz.prog 21 #[.pointer (some ⟨s, 0, none⟩), (Value.agg #[.int .i64 m0, .int .i64 m1, .int .i64 m2, .int .i64 m3, .int .u32 m4])] W fun e w' => e = .returned (Value.agg #[.int .i64 x0, .int .i64 x1, .int .i64 x2, .int .i64 x3, .int .u32 x4]) ∧ Below W.heap.size W w')) (hn : (∀ W, Below w.heap.size w W → Calls Tryz.prog 21 #[.pointer (some ⟨s, 0, none⟩), (Value.agg #[.int .i64 n0, .int .i64 n1, .int .i64 n2, .int .i64 n3, .int .u32 n4])] W fun e w' => e = .returned (Value.agg #[.int .i64 y0, .int .i64 y1, .int .i64 y2, .int .i64 y3, .int .u32 y4]) ∧ Below W.heap.size W w')) (hp : (∀ W, Below w.heap.size w W → Calls Tryz.prog 21 #[.pointer (some ⟨s, 0, none⟩), (Value.agg #[.int .i64 p0, .int .i64 p1, .int .i64 p2, .int .i64 p3, .int .u32 p4])] W fun e w' => e = .returned (Value.agg #[.int .i64 z0, .int .i64 z1, .int .i64 z2, .int .i64 z3, .int .u32 z4]) ∧ Below W.heap.size W w')) :
    Calls Tryz.prog 32 #[.pointer (some ⟨s, 0, none⟩), (Value.agg #[.int .i64 k0, .int .i64 k1, .int .i64 k2, .int .i64 k3, .int .u32 k4]), (Value.agg #[.int .u32 o, .int .u32 a, .int .u32 b, .int .u32 c, .int .i64 m0, .int .i64 m1, .int .i64 m2, .int .i64 m3, .int .u32 m4, .int .i64 n0, .int .i64 n1, .int .i64 n2, .int .i64 n3, .int .u32 n4, .int .i64 p0, .int .i64 p1, .int .i64 p2, .int .i64 p3, .int .u32 p4])] w fun e w' => e = .returned (.tuple #[(Value.agg #[.int .u32 0, .int .u32 0, .int .u32 0, .int .u32 0, .int .i64 0, .int .i64 0, .int .i64 0, .int .i64 0, .int .u32 0, .int .i64 0, .int .i64 0, .int .i64 0, .int .i64 0, .int .u32 0, .int .i64 0, .int .i64 0, .int .i64 0, .int .i64 0, .int .u32 0]), .bool false]) ∧ Below w.heap.size w w' := by
  have e5 : (r0 == 5) = true := (by rw [h5]; rfl)
  clear h5
  have HSk := Lib.hid hk
  have HSm := Lib.hid hm
  have HSn := Lib.hid hn
  have HSp := Lib.hid hp
  clear hk hm hn hp
  go_enter Tryz.func32, Tryz.ntmps32
  go_upto_region 1 with fail
  generalize hA : World.alloc w _ = wa
  obtain ⟨KB, hKB⟩ : ∃ KB, KB = w.heap.size := ⟨_, rfl⟩
  have HK : Hid (Below w.heap.size w wa ∧ KeyC wa KB k0 k1 k2 k3 k4 ∧ wa.heap.size = KB + 1 ∧ w.heap.size ≤ KB) := Lib.hid (by rw [← hA, hKB]; exact ⟨(Below.refl _ _).alloc (Nat.le_refl _) _, KeyC.new w k0 k1 k2 k3 k4 _, by simp, Nat.le_refl _⟩)
  rw [← hKB]
  clear hA hKB
  generalize hA : World.alloc wa _ = wb
  obtain ⟨J, hJ⟩ : ∃ J, J = KB + 1 := ⟨_, rfl⟩
  have HJ : Hid (Below w.heap.size w wb ∧ KeyC wb KB k0 k1 k2 k3 k4 ∧ wb.rangeAt J 0 ([.int .u32 o, .int .u32 a, .int .u32 b, .int .u32 c, .int .i64 m0, .int .i64 m1, .int .i64 m2, .int .i64 m3, .int .u32 m4, .int .i64 n0, .int .i64 n1, .int .i64 n2, .int .i64 n3, .int .u32 n4, .int .i64 p0, .int .i64 p1, .int .i64 p2, .int .i64 p3, .int .u32 p4] : List Value) ∧ wb.heap.size = J + 1 ∧ w.heap.size ≤ J) := Lib.hid (by rw [← hA, hJ, ← HK.out.2.2.1]; exact ⟨HK.out.1.alloc HK.out.1.size _, HK.out.2.1.below ((Below.refl _ _).alloc (Nat.le_refl _) _), cbox _ _ _, by simp, HK.out.1.size⟩)
  rw [← hJ]
  clear hA hJ
  generalize hA : World.alloc wb _ = wd
  obtain ⟨R, hR⟩ : ∃ R, R = J + 1 := ⟨_, rfl⟩
  have HR : Hid (Below w.heap.size w wd ∧ KeyC wd KB k0 k1 k2 k3 k4 ∧ wd.rangeAt J 0 ([.int .u32 o, .int .u32 a, .int .u32 b, .int .u32 c, .int .i64 m0, .int .i64 m1, .int .i64 m2, .int .i64 m3, .int .u32 m4, .int .i64 n0, .int .i64 n1, .int .i64 n2, .int .i64 n3, .int .u32 n4, .int .i64 p0, .int .i64 p1, .int .i64 p2, .int .i64 p3, .int .u32 p4] : List Value) ∧ World.there wd R 0 19 ∧ J < R ∧ R < wd.heap.size ∧ w.heap.size ≤ R) := Lib.hid (by rw [← hA, hR, ← HJ.out.2.2.2.1]; exact ⟨HJ.out.1.alloc HJ.out.1.size _, HJ.out.2.1.below ((Below.refl _ _).alloc (Nat.le_refl _) _), range_below HJ.out.2.2.1 ((Below.refl _ _).alloc (Nat.le_refl _) _) (by have := HJ.out.2.2.2.1; omega), nthere_new _ _ 19 (by rfl) _, by have := HJ.out.2.2.2.1; omega, by simp, HJ.out.1.size⟩)
  rw [← hR]
  clear hA hR
  go_cut [8] (fun u wx => ∃ C, u = .pointer (some ⟨C, 0, none⟩) ∧ Below wd.heap.size wd wx ∧ wx.rangeAt C 0 ([.pointer (some ⟨s, 0, none⟩), .int .i64 r0, .int .i64 r1, .int .i64 r2, .int .i64 r3, .int .u32 r4, .int .u32 o, .int .u32 a, .int .u32 b, .int .u32 c, .int .i64 m0, .int .i64 m1, .int .i64 m2, .int .i64 m3, .int .u32 m4, .int .i64 n0, .int .i64 n1, .int .i64 n2, .int .i64 n3, .int .u32 n4, .int .i64 p0, .int .i64 p1, .int .i64 p2, .int .i64 p3, .int .u32 p4] : List Value) ∧ World.there wx C 0 25 ∧ wd.heap.size ≤ C ∧ C < wx.heap.size)
  case first =>
    obtain ⟨wD, hwD⟩ : ∃ wD, wD = wd.drew := ⟨_, rfl⟩
    have HBd : Hid (Below wd.heap.size wd wD) := Lib.hid (by rw [hwD]; exact (Below.refl _ _).drew)
    have HS1 : Hid (∀ W, Below wd.heap.size wd W → ((World.cell? W ⟨KB, 0, none⟩ = some (.int .i64 k0) ∧ World.cell? W ⟨KB, 1, none⟩ = some (.int .i64 k1) ∧ World.cell? W ⟨KB, 2, none⟩ = some (.int .i64 k2) ∧ World.cell? W ⟨KB, 3, none⟩ = some (.int .i64 k3) ∧ World.cell? W ⟨KB, 4, none⟩ = some (.int .u32 k4)) ∧ World.rangeAt W J 0 ([.int .u32 o, .int .u32 a, .int .u32 b, .int .u32 c, .int .i64 m0, .int .i64 m1, .int .i64 m2, .int .i64 m3, .int .u32 m4, .int .i64 n0, .int .i64 n1, .int .i64 n2, .int .i64 n3, .int .u32 n4, .int .i64 p0, .int .i64 p1, .int .i64 p2, .int .i64 p3, .int .u32 p4] : List Value))) := Lib.hid (fun W hW => ⟨ofive (HR.out.2.1.below hW), range_below HR.out.2.2.1 hW (Nat.lt_trans HR.out.2.2.2.2.1 HR.out.2.2.2.2.2.1)⟩)
    refine wp_region_noPanic ?_
    refine wp_region_held_drew (S := fun w' => ((World.cell? w' ⟨KB, 0, none⟩ = some (.int .i64 k0) ∧ World.cell? w' ⟨KB, 1, none⟩ = some (.int .i64 k1) ∧ World.cell? w' ⟨KB, 2, none⟩ = some (.int .i64 k2) ∧ World.cell? w' ⟨KB, 3, none⟩ = some (.int .i64 k3) ∧ World.cell? w' ⟨KB, 4, none⟩ = some (.int .u32 k4)) ∧ World.rangeAt w' J 0 ([.int .u32 o, .int .u32 a, .int .u32 b, .int .u32 c, .int .i64 m0, .int .i64 m1, .int .i64 m2, .int .i64 m3, .int .u32 m4, .int .i64 n0, .int .i64 n1, .int .i64 n2, .int .i64 n3, .int .u32 n4, .int .i64 p0, .int .i64 p1, .int .i64 p2, .int .i64 p3, .int .u32 p4] : List Value))) (by kernel_rfl) (by rw [← hwD]; exact HS1.out _ HBd.out) (fun hHeld => ?_)
    rw [← hwD] at hHeld ⊢
    clear hwD
    refine wpAnyH_take (i := 0) (v := ?_) (by rfl) (by kernel_rfl) (by kernel_rfl) (by kernel_rfl) (fun _ _ _ h => h) (Or.inl ⟨by kernel_rfl, ?_⟩) (by assumption) ?_; rotate_left 1; (focus (intro w hSw; (try dsimp only at hSw); simp only [List.getElem_toArray, List.getElem_cons_succ, List.getElem_cons_zero]; all_goals go_simp; all_goals (try with_reducible rfl))); (try simp only [Act.put, List.getElem_toArray, List.getElem_cons_succ, List.getElem_cons_zero, List.setIfInBounds_toArray, List.set_cons_zero, List.set_cons_succ])
    refine wpAnyH_take (i := 1) (v := ?_) (by rfl) (by kernel_rfl) (by kernel_rfl) (by kernel_rfl) (fun _ _ _ h => h) (Or.inl ⟨by kernel_rfl, ?_⟩) (by assumption) ?_; rotate_left 1; (focus (intro w hSw; (try dsimp only at hSw); simp only [List.getElem_toArray, List.getElem_cons_succ, List.getElem_cons_zero]; all_goals go_simp; all_goals (try with_reducible rfl))); (try simp only [Act.put, List.getElem_toArray, List.getElem_cons_succ, List.getElem_cons_zero, List.setIfInBounds_toArray, List.set_cons_zero, List.set_cons_succ])
    refine wpAnyH_take (i := 2) (v := ?_) (by rfl) (by kernel_rfl) (by kernel_rfl) (by kernel_rfl) (fun _ _ _ h => h) (Or.inl ⟨by kernel_rfl, ?_⟩) (by assumption) ?_; rotate_left 1; (focus (intro w hSw; (try dsimp only at hSw); simp only [List.getElem_toArray, List.getElem_cons_succ, List.getElem_cons_zero]; all_goals go_simp; all_goals (try with_reducible rfl))); (try simp only [Act.put, List.getElem_toArray, List.getElem_cons_succ, List.getElem_cons_zero, List.setIfInBounds_toArray, List.set_cons_zero, List.set_cons_succ])
    refine wpAnyH_take (i := 4) (v := (Value.agg #[.int .u32 o, .int .u32 a, .int .u32 b, .int .u32 c, .int .i64 m0, .int .i64 m1, .int .i64 m2, .int .i64 m3, .int .u32 m4, .int .i64 n0, .int .i64 n1, .int .i64 n2, .int .i64 n3, .int .u32 n4, .int .i64 p0, .int .i64 p1, .int .i64 p2, .int .i64 p3, .int .u32 p4])) (by rfl) (by kernel_rfl) (by kernel_rfl) (by kernel_rfl) (fun _ _ _ h => h) (Or.inl ⟨by kernel_rfl, ?_⟩) (by assumption) ?_
    focus
      intro w hSw
      exact nload_exec (Operand.tmp 5) (by rfl) (by rfl) (by rfl) hSw.2
    (try simp only [Act.put, List.getElem_toArray, List.getElem_cons_succ, List.getElem_cons_zero, List.setIfInBounds_toArray, List.set_cons_zero, List.set_cons_succ])
    refine wpAnyH_ready (rs := [3, 6]) (by kernel_rfl) (by simp) ?_
    refine AllReadyH.cons (by rfl) (fun K1 hK => ?_) (AllReadyH.cons (by rfl) (fun K1 hK => ?_) AllReadyH.nil)
    · rw [if_pos (by kernel_rfl)]; simp only [List.getElem_toArray, List.getElem_cons_succ, List.getElem_cons_zero]
      go_wp2_with (first | (go_at_call 21; (with_reducible refine (HSk.out _ (HR.out.1.trans (HBd.out.mono HR.out.1.size))).mono ?_); rintro e w2 ⟨rfl, hb⟩; have HB2 := Lib.hid (HBd.out.trans (hb.mono HBd.out.size)); clear hb))
      refine hK.out _ _ (HS1.out _ HB2.out) (fun hHeld => ?_)
      clear hK K1
      (try simp only [Act.put, List.getElem_toArray, List.getElem_cons_succ, List.getElem_cons_zero, List.setIfInBounds_toArray, List.set_cons_zero, List.set_cons_succ])
      refine wpAnyH_take (i := 5) (v := ?_) (by rfl) (by kernel_rfl) (by kernel_rfl) (by kernel_rfl) (fun _ _ _ h => h) (Or.inl ⟨by kernel_rfl, ?_⟩) (by assumption) ?_; rotate_left 1; (focus (intro w hSw; (try dsimp only at hSw); simp only [List.getElem_toArray, List.getElem_cons_succ, List.getElem_cons_zero]; all_goals go_simp; all_goals (try with_reducible rfl))); (try simp only [Act.put, List.getElem_toArray, List.getElem_cons_succ, List.getElem_cons_zero, List.setIfInBounds_toArray, List.set_cons_zero, List.set_cons_succ])
      refine wpAnyH_ready (rs := [6]) (by kernel_rfl) (by simp) ?_; refine AllReadyH.cons (by rfl) (fun K hK => ?_) AllReadyH.nil; rw [if_pos (by kernel_rfl)]; simp only [List.getElem_toArray, List.getElem_cons_succ, List.getElem_cons_zero]
      go_wp2_with fail
      generalize hE : World.alloc w2 _ = wE
      obtain ⟨C, hC⟩ : ∃ C, C = w2.heap.size := ⟨_, rfl⟩
      have HE : Hid (Below wd.heap.size wd wE ∧ World.there wE C 0 25 ∧ wd.heap.size ≤ C ∧ C < wE.heap.size) := Lib.hid (by rw [← hE, hC]; exact ⟨HB2.out.alloc HB2.out.size _, nthere_new _ _ 25 (by rfl) _, HB2.out.size, by simp⟩)
      rw [← hC]
      clear hE hC
      refine hK.out _ _ (HS1.out _ HE.out.1) (fun hHeld => ?_)
      clear hK K
      (try simp only [Act.put, List.getElem_toArray, List.getElem_cons_succ, List.getElem_cons_zero, List.setIfInBounds_toArray, List.set_cons_zero, List.set_cons_succ])
      refine wpAnyH_ready (rs := [7]) (by kernel_rfl) (by simp) ?_; refine AllReadyH.cons (by rfl) (fun K hK => ?_) AllReadyH.nil; rw [if_pos (by kernel_rfl)]; simp only [List.getElem_toArray, List.getElem_cons_succ, List.getElem_cons_zero]
      refine wp_store_mid 142 (Operand.tmp 8) (Operand.tmp 16) (by rfl) C 0 ([.pointer (some ⟨s, 0, none⟩), .int .i64 r0, .int .i64 r1, .int .i64 r2, .int .i64 r3, .int .u32 r4, .int .u32 o, .int .u32 a, .int .u32 b, .int .u32 c, .int .i64 m0, .int .i64 m1, .int .i64 m2, .int .i64 m3, .int .u32 m4, .int .i64 n0, .int .i64 n1, .int .i64 n2, .int .i64 n3, .int .u32 n4, .int .i64 p0, .int .i64 p1, .int .i64 p2, .int .i64 p3, .int .u32 p4] : List Value).toArray (by rfl) (by rfl) HE.out.2.1 infoCall (c25_one _ _ _ _ _ _ _ _ _ _ _ _ _ _ _ _ _ _ _ _ _ _ _ _ _) ?_
      generalize hF : World.setCells wE _ _ _ = wF
      have HF : Hid (Below wd.heap.size wd wF ∧ wF.rangeAt C 0 ([.pointer (some ⟨s, 0, none⟩), .int .i64 r0, .int .i64 r1, .int .i64 r2, .int .i64 r3, .int .u32 r4, .int .u32 o, .int .u32 a, .int .u32 b, .int .u32 c, .int .i64 m0, .int .i64 m1, .int .i64 m2, .int .i64 m3, .int .u32 m4, .int .i64 n0, .int .i64 n1, .int .i64 n2, .int .i64 n3, .int .u32 n4, .int .i64 p0, .int .i64 p1, .int .i64 p2, .int .i64 p3, .int .u32 p4] : List Value) ∧ World.there wF C 0 25) := Lib.hid (by rw [← hF]; exact ⟨nbelow_cells HE.out.1 HE.out.2.2.1 _ _, World.rangeAt_setCells_same wE C 0 ([.pointer (some ⟨s, 0, none⟩), .int .i64 r0, .int .i64 r1, .int .i64 r2, .int .i64 r3, .int .u32 r4, .int .u32 o, .int .u32 a, .int .u32 b, .int .u32 c, .int .i64 m0, .int .i64 m1, .int .i64 m2, .int .i64 m3, .int .u32 m4, .int .i64 n0, .int .i64 n1, .int .i64 n2, .int .i64 n3, .int .u32 n4, .int .i64 p0, .int .i64 p1, .int .i64 p2, .int .i64 p3, .int .u32 p4] : List Value) HE.out.2.1, World.there_setCells HE.out.2.1 _ _ _⟩)
      clear hF
      refine hK.out _ _ (HS1.out _ HF.out.1) (fun hHeld => ?_)
      clear hK K
      (try simp only [Act.put, List.getElem_toArray, List.getElem_cons_succ, List.getElem_cons_zero, List.setIfInBounds_toArray, List.set_cons_zero, List.set_cons_succ])
      refine wpAnyH_done (by kernel_rfl) ?_ _
      refine NoPanic.normal ?_
      go_wp2_with fail
      go_meet
      exact ⟨C, rfl, HF.out.1, HF.out.2.1, HF.out.2.2, HE.out.2.2.1, cell_lt (CallC.cell HF.out.2.1 0 _ rfl)⟩
    · rw [if_pos (by kernel_rfl)]; simp only [List.getElem_toArray, List.getElem_cons_succ, List.getElem_cons_zero]
      go_wp2_with fail
      generalize hE : World.alloc wD _ = wE
      obtain ⟨C, hC⟩ : ∃ C, C = wD.heap.size := ⟨_, rfl⟩
      have HE : Hid (Below wd.heap.size wd wE ∧ World.there wE C 0 25 ∧ wd.heap.size ≤ C ∧ C < wE.heap.size) := Lib.hid (by rw [← hE, hC]; exact ⟨HBd.out.alloc HBd.out.size _, nthere_new _ _ 25 (by rfl) _, HBd.out.size, by simp⟩)
      rw [← hC]
      clear hE hC
      refine hK.out _ _ (HS1.out _ HE.out.1) (fun hHeld => ?_)
      clear hK K1
      (try simp only [Act.put, List.getElem_toArray, List.getElem_cons_succ, List.getElem_cons_zero, List.setIfInBounds_toArray, List.set_cons_zero, List.set_cons_succ])
      refine wpAnyH_ready (rs := [3]) (by kernel_rfl) (by simp) ?_; refine AllReadyH.cons (by rfl) (fun K hK => ?_) AllReadyH.nil; rw [if_pos (by kernel_rfl)]; simp only [List.getElem_toArray, List.getElem_cons_succ, List.getElem_cons_zero]
      go_wp2_with (first | (go_at_call 21; (with_reducible refine (HSk.out _ (HR.out.1.trans (HE.out.1.mono HR.out.1.size))).mono ?_); rintro e w2 ⟨rfl, hb⟩; have HB2 : Hid (Below wd.heap.size wd w2 ∧ World.there w2 C 0 25) := Lib.hid ⟨HE.out.1.trans (hb.mono HE.out.1.size), nthere_below HE.out.2.1 hb HE.out.2.2.2⟩; clear hb))
      refine hK.out _ _ (HS1.out _ HB2.out.1) (fun hHeld => ?_)
      clear hK K
      (try simp only [Act.put, List.getElem_toArray, List.getElem_cons_succ, List.getElem_cons_zero, List.setIfInBounds_toArray, List.set_cons_zero, List.set_cons_succ])
      refine wpAnyH_take (i := 5) (v := ?_) (by rfl) (by kernel_rfl) (by kernel_rfl) (by kernel_rfl) (fun _ _ _ h => h) (Or.inl ⟨by kernel_rfl, ?_⟩) (by assumption) ?_; rotate_left 1; (focus (intro w hSw; (try dsimp only at hSw); simp only [List.getElem_toArray, List.getElem_cons_succ, List.getElem_cons_zero]; all_goals go_simp; all_goals (try with_reducible rfl))); (try simp only [Act.put, List.getElem_toArray, List.getElem_cons_succ, List.getElem_cons_zero, List.setIfInBounds_toArray, List.set_cons_zero, List.set_cons_succ])
      refine wpAnyH_ready (rs := [7]) (by kernel_rfl) (by simp) ?_; refine AllReadyH.cons (by rfl) (fun K hK => ?_) AllReadyH.nil; rw [if_pos (by kernel_rfl)]; simp only [List.getElem_toArray, List.getElem_cons_succ, List.getElem_cons_zero]
      refine wp_store_mid 142 (Operand.tmp 8) (Operand.tmp 16) (by rfl) C 0 ([.pointer (some ⟨s, 0, none⟩), .int .i64 r0, .int .i64 r1, .int .i64 r2, .int .i64 r3, .int .u32 r4, .int .u32 o, .int .u32 a, .int .u32 b, .int .u32 c, .int .i64 m0, .int .i64 m1, .int .i64 m2, .int .i64 m3, .int .u32 m4, .int .i64 n0, .int .i64 n1, .int .i64 n2, .int .i64 n3, .int .u32 n4, .int .i64 p0, .int .i64 p1, .int .i64 p2, .int .i64 p3, .int .u32 p4] : List Value).toArray (by rfl) (by rfl) HB2.out.2 infoCall (c25_one _ _ _ _ _ _ _ _ _ _ _ _ _ _ _ _ _ _ _ _ _ _ _ _ _) ?_
      generalize hF : World.setCells w2 _ _ _ = wF
      have HF : Hid (Below wd.heap.size wd wF ∧ wF.rangeAt C 0 ([.pointer (some ⟨s, 0, none⟩), .int .i64 r0, .int .i64 r1, .int .i64 r2, .int .i64 r3, .int .u32 r4, .int .u32 o, .int .u32 a, .int .u32 b, .int .u32 c, .int .i64 m0, .int .i64 m1, .int .i64 m2, .int .i64 m3, .int .u32 m4, .int .i64 n0, .int .i64 n1, .int .i64 n2, .int .i64 n3, .int .u32 n4, .int .i64 p0, .int .i64 p1, .int .i64 p2, .int .i64 p3, .int .u32 p4] : List Value) ∧ World.there wF C 0 25) := Lib.hid (by rw [← hF]; exact ⟨nbelow_cells HB2.out.1 HE.out.2.2.1 _ _, World.rangeAt_setCells_same w2 C 0 ([.pointer (some ⟨s, 0, none⟩), .int .i64 r0, .int .i64 r1, .int .i64 r2, .int .i64 r3, .int .u32 r4, .int .u32 o, .int .u32 a, .int .u32 b, .int .u32 c, .int .i64 m0, .int .i64 m1, .int .i64 m2, .int .i64 m3, .int .u32 m4, .int .i64 n0, .int .i64 n1, .int .i64 n2, .int .i64 n3, .int .u32 n4, .int .i64 p0, .int .i64 p1, .int .i64 p2, .int .i64 p3, .int .u32 p4] : List Value) HB2.out.2, World.there_setCells HB2.out.2 _ _ _⟩)
      clear hF
      refine hK.out _ _ (HS1.out _ HF.out.1) (fun hHeld => ?_)
      clear hK K
      (try simp only [Act.put, List.getElem_toArray, List.getElem_cons_succ, List.getElem_cons_zero, List.setIfInBounds_toArray, List.set_cons_zero, List.set_cons_succ])
      refine wpAnyH_done (by kernel_rfl) ?_ _
      refine NoPanic.normal ?_
      go_wp2_with fail
      go_meet
      exact ⟨C, rfl, HF.out.1, HF.out.2.1, HF.out.2.2, HE.out.2.2.1, cell_lt (CallC.cell HF.out.2.1 0 _ rfl)⟩
  case rest =>
    obtain ⟨C, rfl, hb, hr, ht, hC1, hC2⟩ := hcut
    have HC := Lib.hid (⟨HR.out.1.trans (hb.mono HR.out.1.size), hr, ht, Nat.le_trans HR.out.1.size hC1, nthere_below HR.out.2.2.2.1 hb HR.out.2.2.2.2.2.1, Nat.lt_of_lt_of_le HR.out.2.2.2.2.2.1 hC1, hC2⟩ : Below w.heap.size w wc ∧ wc.rangeAt C 0 ([.pointer (some ⟨s, 0, none⟩), .int .i64 r0, .int .i64 r1, .int .i64 r2, .int .i64 r3, .int .u32 r4, .int .u32 o, .int .u32 a, .int .u32 b, .int .u32 c, .int .i64 m0, .int .i64 m1, .int .i64 m2, .int .i64 m3, .int .u32 m4, .int .i64 n0, .int .i64 n1, .int .i64 n2, .int .i64 n3, .int .u32 n4, .int .i64 p0, .int .i64 p1, .int .i64 p2, .int .i64 p3, .int .u32 p4] : List Value) ∧ World.there wc C 0 25 ∧ w.heap.size ≤ C ∧ World.there wc R 0 19 ∧ R < C ∧ C < wc.heap.size)
    have HJ4 : Hid (wc.rangeAt J 4 ([.int .i64 m0, .int .i64 m1, .int .i64 m2, .int .i64 m3, .int .u32 m4, .int .i64 n0, .int .i64 n1, .int .i64 n2, .int .i64 n3, .int .u32 n4, .int .i64 p0, .int .i64 p1, .int .i64 p2, .int .i64 p3, .int .u32 p4] : List Value)) := Lib.hid (range_drop (k := 4) (range_below HR.out.2.2.1 hb (Nat.lt_trans HR.out.2.2.2.2.1 HR.out.2.2.2.2.2.1)))
    clear hb hr ht hC1 hC2
    have hi0 : ∀ W, (Instr.index 50 (.agg ([.int .i64 m0, .int .i64 m1, .int .i64 m2, .int .i64 m3, .int .u32 m4, .int .i64 n0, .int .i64 n1, .int .i64 n2, .int .i64 n3, .int .u32 n4, .int .i64 p0, .int .i64 p1, .int .i64 p2, .int .i64 p3, .int .u32 p4] : List Value).toArray) (.int .i64 0)).run Tryz.prog W = .ok (Value.agg #[.int .i64 m0, .int .i64 m1, .int .i64 m2, .int .i64 m3, .int .u32 m4]) W := by intro W; kernel_rfl
    have hi1 : ∀ W, (Instr.index 50 (.agg ([.int .i64 m0, .int .i64 m1, .int .i64 m2, .int .i64 m3, .int .u32 m4, .int .i64 n0, .int .i64 n1, .int .i64 n2, .int .i64 n3, .int .u32 n4, .int .i64 p0, .int .i64 p1, .int .i64 p2, .int .i64 p3, .int .u32 p4] : List Value).toArray) (.int .i64 1)).run Tryz.prog W = .ok (Value.agg #[.int .i64 n0, .int .i64 n1, .int .i64 n2, .int .i64 n3, .int .u32 n4]) W := by intro W; kernel_rfl
    have hi2 : ∀ W, (Instr.index 50 (.agg ([.int .i64 m0, .int .i64 m1, .int .i64 m2, .int .i64 m3, .int .u32 m4, .int .i64 n0, .int .i64 n1, .int .i64 n2, .int .i64 n3, .int .u32 n4, .int .i64 p0, .int .i64 p1, .int .i64 p2, .int .i64 p3, .int .u32 p4] : List Value).toArray) (.int .i64 2)).run Tryz.prog W = .ok (Value.agg #[.int .i64 p0, .int .i64 p1, .int .i64 p2, .int .i64 p3, .int .u32 p4]) W := by intro W; kernel_rfl
    go_wp2_with (first
      | (refine wpList_load_mid (by rfl) _ _ (by rfl) J 4 (by rfl) ([.int .i64 m0, .int .i64 m1, .int .i64 m2, .int .i64 m3, .int .u32 m4, .int .i64 n0, .int .i64 n1, .int .i64 n2, .int .i64 n3, .int .u32 n4, .int .i64 p0, .int .i64 p1, .int .i64 p2, .int .i64 p3, .int .u32 p4] : List Value) _ HJ4.out Tryz.underlying50 rfl (by kernel_rfl) ?_))
    refine wp_loop_rounds 4 ?_
    rw [rounds_succ]
    go_upto_region 5 with fail; generalize hA : World.alloc wc _ = wg; obtain ⟨XB, hXB⟩ : ∃ XB, XB = wc.heap.size := ⟨_, rfl⟩; have HG : Hid (Below wc.heap.size wc wg ∧ KeyC wg XB m0 m1 m2 m3 m4 ∧ World.rangeAt wg C 0 ([.pointer (some ⟨s, 0, none⟩), .int .i64 r0, .int .i64 r1, .int .i64 r2, .int .i64 r3, .int .u32 r4, .int .u32 o, .int .u32 a, .int .u32 b, .int .u32 c, .int .i64 m0, .int .i64 m1, .int .i64 m2, .int .i64 m3, .int .u32 m4, .int .i64 n0, .int .i64 n1, .int .i64 n2, .int .i64 n3, .int .u32 n4, .int .i64 p0, .int .i64 p1, .int .i64 p2, .int .i64 p3, .int .u32 p4] : List Value) ∧ World.there wg C 0 25 ∧ Below w.heap.size w wg ∧ C < wg.heap.size) := Lib.hid (by rw [← hA, hXB]; exact ⟨(Below.refl _ _).alloc (Nat.le_refl _) _, KeyC.new _ _ _ _ _ _ _, range_below (HC).out.2.1 ((Below.refl _ _).alloc (Nat.le_refl _) _) (HC).out.2.2.2.2.2.2, nthere_below (HC).out.2.2.1 ((Below.refl _ _).alloc (Nat.le_refl _) _) (HC).out.2.2.2.2.2.2, (HC).out.1.trans (Below.mono ((Below.refl _ _).alloc (Nat.le_refl _) _) (HC).out.1.size), Nat.lt_of_lt_of_le (HC).out.2.2.2.2.2.2 (by simp)⟩); rw [← hXB]; clear hA hXB; obtain ⟨q0, q1, q2, q3, q4⟩ := ofive (HG).out.2.1; go_upto_region 6 with (first | (go_at_call 21; (with_reducible refine ((HSm).out _ (HG).out.2.2.2.2.1).mono ?_); rintro e wg2 ⟨rfl, hb⟩; have HGx : Hid (Below w.heap.size w wg2 ∧ World.rangeAt wg2 C 0 ([.pointer (some ⟨s, 0, none⟩), .int .i64 r0, .int .i64 r1, .int .i64 r2, .int .i64 r3, .int .u32 r4, .int .u32 o, .int .u32 a, .int .u32 b, .int .u32 c, .int .i64 m0, .int .i64 m1, .int .i64 m2, .int .i64 m3, .int .u32 m4, .int .i64 n0, .int .i64 n1, .int .i64 n2, .int .i64 n3, .int .u32 n4, .int .i64 p0, .int .i64 p1, .int .i64 p2, .int .i64 p3, .int .u32 p4] : List Value) ∧ World.there wg2 C 0 25 ∧ World.there wg2 R 0 19) := (Lib.hid ⟨(HG).out.2.2.2.2.1.trans (hb.mono (HG).out.2.2.2.2.1.size), range_below (HG).out.2.2.1 hb (HG).out.2.2.2.2.2, nthere_below (HG).out.2.2.2.1 hb (HG).out.2.2.2.2.2, nthere_below (HC).out.2.2.2.2.1 ((HG).out.1.trans (hb.mono (HG).out.1.size)) (Nat.lt_trans (HC).out.2.2.2.2.2.1 (HC).out.2.2.2.2.2.2)⟩); clear hb q0 q1 q2 q3 q4) | (refine wpList_store_mid (by rfl) _ _ _ (by rfl) C 10 ([.int .i64 x0, .int .i64 x1, .int .i64 x2, .int .i64 x3, .int .u32 x4] : List Value).toArray (by rfl) (by rfl) (there_part (HGx).out.2.2.1 10 (by decide)) infoK5 (akey_one _ _ _ _ _) ?_)); generalize hA : World.setCells wg2 _ _ _ = wh; have HH : Hid (Below w.heap.size w wh ∧ World.rangeAt wh C 0 ([.pointer (some ⟨s, 0, none⟩), .int .i64 r0, .int .i64 r1, .int .i64 r2, .int .i64 r3, .int .u32 r4, .int .u32 o, .int .u32 a, .int .u32 b, .int .u32 c, .int .i64 x0, .int .i64 x1, .int .i64 x2, .int .i64 x3, .int .u32 x4, .int .i64 n0, .int .i64 n1, .int .i64 n2, .int .i64 n3, .int .u32 n4, .int .i64 p0, .int .i64 p1, .int .i64 p2, .int .i64 p3, .int .u32 p4] : List Value) ∧ World.there wh C 0 25 ∧ w.heap.size ≤ C ∧ World.there wh R 0 19 ∧ R < C ∧ C < wh.heap.size) := (Lib.hid (by rw [← hA]; exact ⟨nbelow_cells (HGx).out.1 (HC).out.2.2.2.1 _ _, range_set5 (HGx).out.2.1 10 _ _ _ _ _, World.there_setCells (HGx).out.2.2.1 _ _ _, (HC).out.2.2.2.1, World.there_setCells (HGx).out.2.2.2 _ _ _, (HC).out.2.2.2.2.2.1, cell_lt (CallC.cell (range_set5 (HGx).out.2.1 10 _ _ _ _ _) 0 _ rfl)⟩)); clear hA; go_wp2_with fail
    rw [rounds_succ]
    go_upto_region 5 with fail; generalize hA : World.alloc wh _ = wi; obtain ⟨XB, hXB⟩ : ∃ XB, XB = wh.heap.size := ⟨_, rfl⟩; have HI : Hid (Below wh.heap.size wh wi ∧ KeyC wi XB n0 n1 n2 n3 n4 ∧ World.rangeAt wi C 0 ([.pointer (some ⟨s, 0, none⟩), .int .i64 r0, .int .i64 r1, .int .i64 r2, .int .i64 r3, .int .u32 r4, .int .u32 o, .int .u32 a, .int .u32 b, .int .u32 c, .int .i64 x0, .int .i64 x1, .int .i64 x2, .int .i64 x3, .int .u32 x4, .int .i64 n0, .int .i64 n1, .int .i64 n2, .int .i64 n3, .int .u32 n4, .int .i64 p0, .int .i64 p1, .int .i64 p2, .int .i64 p3, .int .u32 p4] : List Value) ∧ World.there wi C 0 25 ∧ Below w.heap.size w wi ∧ C < wi.heap.size) := Lib.hid (by rw [← hA, hXB]; exact ⟨(Below.refl _ _).alloc (Nat.le_refl _) _, KeyC.new _ _ _ _ _ _ _, range_below (HH).out.2.1 ((Below.refl _ _).alloc (Nat.le_refl _) _) (HH).out.2.2.2.2.2.2, nthere_below (HH).out.2.2.1 ((Below.refl _ _).alloc (Nat.le_refl _) _) (HH).out.2.2.2.2.2.2, (HH).out.1.trans (Below.mono ((Below.refl _ _).alloc (Nat.le_refl _) _) (HH).out.1.size), Nat.lt_of_lt_of_le (HH).out.2.2.2.2.2.2 (by simp)⟩); rw [← hXB]; clear hA hXB; obtain ⟨q0, q1, q2, q3, q4⟩ := ofive (HI).out.2.1; go_upto_region 6 with (first | (go_at_call 21; (with_reducible refine ((HSn).out _ (HI).out.2.2.2.2.1).mono ?_); rintro e wi2 ⟨rfl, hb⟩; have HIx : Hid (Below w.heap.size w wi2 ∧ World.rangeAt wi2 C 0 ([.pointer (some ⟨s, 0, none⟩), .int .i64 r0, .int .i64 r1, .int .i64 r2, .int .i64 r3, .int .u32 r4, .int .u32 o, .int .u32 a, .int .u32 b, .int .u32 c, .int .i64 x0, .int .i64 x1, .int .i64 x2, .int .i64 x3, .int .u32 x4, .int .i64 n0, .int .i64 n1, .int .i64 n2, .int .i64 n3, .int .u32 n4, .int .i64 p0, .int .i64 p1, .int .i64 p2, .int .i64 p3, .int .u32 p4] : List Value) ∧ World.there wi2 C 0 25 ∧ World.there wi2 R 0 19) := (Lib.hid ⟨(HI).out.2.2.2.2.1.trans (hb.mono (HI).out.2.2.2.2.1.size), range_below (HI).out.2.2.1 hb (HI).out.2.2.2.2.2, nthere_below (HI).out.2.2.2.1 hb (HI).out.2.2.2.2.2, nthere_below (HH).out.2.2.2.2.1 ((HI).out.1.trans (hb.mono (HI).out.1.size)) (Nat.lt_trans (HH).out.2.2.2.2.2.1 (HH).out.2.2.2.2.2.2)⟩); clear hb q0 q1 q2 q3 q4) | (refine wpList_store_mid (by rfl) _ _ _ (by rfl) C 15 ([.int .i64 y0, .int .i64 y1, .int .i64 y2, .int .i64 y3, .int .u32 y4] : List Value).toArray (by rfl) (by rfl) (there_part (HIx).out.2.2.1 15 (by decide)) infoK5 (akey_one _ _ _ _ _) ?_)); generalize hA : World.setCells wi2 _ _ _ = wj; have HJ2 : Hid (Below w.heap.size w wj ∧ World.rangeAt wj C 0 ([.pointer (some ⟨s, 0, none⟩), .int .i64 r0, .int .i64 r1, .int .i64 r2, .int .i64 r3, .int .u32 r4, .int .u32 o, .int .u32 a, .int .u32 b, .int .u32 c, .int .i64 x0, .int .i64 x1, .int .i64 x2, .int .i64 x3, .int .u32 x4, .int .i64 y0, .int .i64 y1, .int .i64 y2, .int .i64 y3, .int .u32 y4, .int .i64 p0, .int .i64 p1, .int .i64 p2, .int .i64 p3, .int .u32 p4] : List Value) ∧ World.there wj C 0 25 ∧ w.heap.size ≤ C ∧ World.there wj R 0 19 ∧ R < C ∧ C < wj.heap.size) := (Lib.hid (by rw [← hA]; exact ⟨nbelow_cells (HIx).out.1 (HH).out.2.2.2.1 _ _, range_set5 (HIx).out.2.1 15 _ _ _ _ _, World.there_setCells (HIx).out.2.2.1 _ _ _, (HH).out.2.2.2.1, World.there_setCells (HIx).out.2.2.2 _ _ _, (HH).out.2.2.2.2.2.1, cell_lt (CallC.cell (range_set5 (HIx).out.2.1 15 _ _ _ _ _) 0 _ rfl)⟩)); clear hA; go_wp2_with fail
    rw [rounds_succ]
    go_upto_region 5 with fail; generalize hA : World.alloc wj _ = wk; obtain ⟨XB, hXB⟩ : ∃ XB, XB = wj.heap.size := ⟨_, rfl⟩; have HL : Hid (Below wj.heap.size wj wk ∧ KeyC wk XB p0 p1 p2 p3 p4 ∧ World.rangeAt wk C 0 ([.pointer (some ⟨s, 0, none⟩), .int .i64 r0, .int .i64 r1, .int .i64 r2, .int .i64 r3, .int .u32 r4, .int .u32 o, .int .u32 a, .int .u32 b, .int .u32 c, .int .i64 x0, .int .i64 x1, .int .i64 x2, .int .i64 x3, .int .u32 x4, .int .i64 y0, .int .i64 y1, .int .i64 y2, .int .i64 y3, .int .u32 y4, .int .i64 p0, .int .i64 p1, .int .i64 p2, .int .i64 p3, .int .u32 p4] : List Value) ∧ World.there wk C 0 25 ∧ Below w.heap.size w wk ∧ C < wk.heap.size) := Lib.hid (by rw [← hA, hXB]; exact ⟨(Below.refl _ _).alloc (Nat.le_refl _) _, KeyC.new _ _ _ _ _ _ _, range_below (HJ2).out.2.1 ((Below.refl _ _).alloc (Nat.le_refl _) _) (HJ2).out.2.2.2.2.2.2, nthere_below (HJ2).out.2.2.1 ((Below.refl _ _).alloc (Nat.le_refl _) _) (HJ2).out.2.2.2.2.2.2, (HJ2).out.1.trans (Below.mono ((Below.refl _ _).alloc (Nat.le_refl _) _) (HJ2).out.1.size), Nat.lt_of_lt_of_le (HJ2).out.2.2.2.2.2.2 (by simp)⟩); rw [← hXB]; clear hA hXB; obtain ⟨q0, q1, q2, q3, q4⟩ := ofive (HL).out.2.1; go_upto_region 6 with (first | (go_at_call 21; (with_reducible refine ((HSp).out _ (HL).out.2.2.2.2.1).mono ?_); rintro e wk2 ⟨rfl, hb⟩; have HLx : Hid (Below w.heap.size w wk2 ∧ World.rangeAt wk2 C 0 ([.pointer (some ⟨s, 0, none⟩), .int .i64 r0, .int .i64 r1, .int .i64 r2, .int .i64 r3, .int .u32 r4, .int .u32 o, .int .u32 a, .int .u32 b, .int .u32 c, .int .i64 x0, .int .i64 x1, .int .i64 x2, .int .i64 x3, .int .u32 x4, .int .i64 y0, .int .i64 y1, .int .i64 y2, .int .i64 y3, .int .u32 y4, .int .i64 p0, .int .i64 p1, .int .i64 p2, .int .i64 p3, .int .u32 p4] : List Value) ∧ World.there wk2 C 0 25 ∧ World.there wk2 R 0 19) := (Lib.hid ⟨(HL).out.2.2.2.2.1.trans (hb.mono (HL).out.2.2.2.2.1.size), range_below (HL).out.2.2.1 hb (HL).out.2.2.2.2.2, nthere_below (HL).out.2.2.2.1 hb (HL).out.2.2.2.2.2, nthere_below (HJ2).out.2.2.2.2.1 ((HL).out.1.trans (hb.mono (HL).out.1.size)) (Nat.lt_trans (HJ2).out.2.2.2.2.2.1 (HJ2).out.2.2.2.2.2.2)⟩); clear hb q0 q1 q2 q3 q4) | (refine wpList_store_mid (by rfl) _ _ _ (by rfl) C 20 ([.int .i64 z0, .int .i64 z1, .int .i64 z2, .int .i64 z3, .int .u32 z4] : List Value).toArray (by rfl) (by rfl) (there_part (HLx).out.2.2.1 20 (by decide)) infoK5 (akey_one _ _ _ _ _) ?_)); generalize hA : World.setCells wk2 _ _ _ = wl; have HM : Hid (Below w.heap.size w wl ∧ World.rangeAt wl C 0 ([.pointer (some ⟨s, 0, none⟩), .int .i64 r0, .int .i64 r1, .int .i64 r2, .int .i64 r3, .int .u32 r4, .int .u32 o, .int .u32 a, .int .u32 b, .int .u32 c, .int .i64 x0, .int .i64 x1, .int .i64 x2, .int .i64 x3, .int .u32 x4, .int .i64 y0, .int .i64 y1, .int .i64 y2, .int .i64 y3, .int .u32 y4, .int .i64 z0, .int .i64 z1, .int .i64 z2, .int .i64 z3, .int .u32 z4] : List Value) ∧ World.there wl C 0 25 ∧ w.heap.size ≤ C ∧ World.there wl R 0 19 ∧ R < C ∧ C < wl.heap.size) := (Lib.hid (by rw [← hA]; exact ⟨nbelow_cells (HLx).out.1 (HJ2).out.2.2.2.1 _ _, range_set5 (HLx).out.2.1 20 _ _ _ _ _, World.there_setCells (HLx).out.2.2.1 _ _ _, (HJ2).out.2.2.2.1, World.there_setCells (HLx).out.2.2.2 _ _ _, (HJ2).out.2.2.2.2.2.1, cell_lt (CallC.cell (range_set5 (HLx).out.2.1 20 _ _ _ _ _) 0 _ rfl)⟩)); clear hA; go_wp2_with fail
    rw [rounds_succ]
    have q1 := CallC.cell HM.out.2.1 1 _ rfl
    have hRn : w.heap.size ≤ R := HR.out.2.2.2.2.2.2
    have q1 := CallC.cell HM.out.2.1 1 _ rfl
    have hRn : w.heap.size ≤ R := HR.out.2.2.2.2.2.2
    have HTR : Hid (World.there wl R 0 19) := Lib.hid HM.out.2.2.2.2.1
    have HBR : Hid (Below w.heap.size w wl) := Lib.hid HM.out.1
    clear HM HL HLx HJ2 HIx HI HH HGx HG HC HJ4 HR HJ HK HSk HSm HSn HSp
    go_wp2_with (first
      | (refine wpList_store_mid (by rfl) _ _ _ (by rfl) R 0 ([.int .u32 0, .int .u32 0, .int .u32 0, .int .u32 0, .int .i64 0, .int .i64 0, .int .i64 0, .int .i64 0, .int .u32 0, .int .i64 0, .int .i64 0, .int .i64 0, .int .i64 0, .int .u32 0, .int .i64 0, .int .i64 0, .int .i64 0, .int .i64 0, .int .u32 0] : List Value).toArray (by rfl) (by rfl) HTR.out infoNote (note_one _ _ _ _ _ _ _ _ _ _ _ _ _ _ _ _ _ _ _) ?_))
    generalize hS : World.setCells wl _ _ _ = wS
    have HS : Hid (Below w.heap.size w wS ∧ wS.rangeAt R 0 [.int .u32 0, .int .u32 0, .int .u32 0, .int .u32 0, .int .i64 0, .int .i64 0, .int .i64 0, .int .i64 0, .int .u32 0, .int .i64 0, .int .i64 0, .int .i64 0, .int .i64 0, .int .u32 0, .int .i64 0, .int .i64 0, .int .i64 0, .int .i64 0, .int .u32 0]) := Lib.hid (by rw [← hS]; exact ⟨nbelow_cells HBR.out hRn _ _, World.rangeAt_setCells_same wl R 0 [.int .u32 0, .int .u32 0, .int .u32 0, .int .u32 0, .int .i64 0, .int .i64 0, .int .i64 0, .int .i64 0, .int .u32 0, .int .i64 0, .int .i64 0, .int .i64 0, .int .i64 0, .int .u32 0, .int .i64 0, .int .i64 0, .int .i64 0, .int .i64 0, .int .u32 0] HTR.out⟩)
    have hld := nload rfl HS.out.2
    refine bodyPost_ret (v := (.tuple #[(Value.agg #[.int .u32 0, .int .u32 0, .int .u32 0, .int .u32 0, .int .i64 0, .int .i64 0, .int .i64 0, .int .i64 0, .int .u32 0, .int .i64 0, .int .i64 0, .int .i64 0, .int .i64 0, .int .u32 0, .int .i64 0, .int .i64 0, .int .i64 0, .int .i64 0, .int .u32 0]), .bool false])) (by simp [results, Tryz.results32, Act.put, asAddr, hld]) rfl ⟨rfl, HS.out.1⟩
end Go.Proofs.YtllcakiomihipaaGreatDoor
namespace Go.Proofs.YtllcakiomihipaaGreatDoor
open Go.ChangeShapes Go.WideShapes Go.ChangeAt Go.RowKit
set_option linter.unusedVariables false
set_option linter.unusedSimpArgs false
section
variable {w0 wb w w' W : World} {L : BLoc} {X : SLoc} {nd B : Nat} {A : List Nat} {F : Nat → Nat → Value} {l : List Int} {J NB : Nat} {rg : Nat → Int} {pc st ft : Int} {kk : Nat → Nat → Int} {wt : Int} {ls : List Value} {f f' : Nat → Value}
end
end Go.Proofs.YtllcakiomihipaaGreatDoor
namespace Go.Proofs.YtllcakiomihipaaGreatDoor
open Go.ChangeShapes Go.WideShapes Go.ChangeAt Go.RowKit
set_option linter.unusedVariables false
set_option linter.unusedSimpArgs false
section
variable {w0 wb w w' W : World} {L : BLoc} {X : SLoc} {nd B : Nat} {A : List Nat} {F : Nat → Nat → Value} {l : List Int} {J NB : Nat} {rg : Nat → Int} {pc st ft : Int} {kk : Nat → Nat → Int} {wt : Int} {f f' : Nat → Value}
/-- A domain's words and keys, as it takes a note. -/
def tRg (rg : Nat → Int) (o a b c bd : Int) : Nat → Int := sR (sR (sR (sR (sR rg 0 o) 1 a) 2 b) 3 c) 4 bd
def tKk (kk : Nat → Nat → Int) (m0 m1 m2 m3 m4 : Int) (n0 n1 n2 n3 n4 : Int) (p0 p1 p2 p3 p4 : Int) (y0 y1 y2 y3 y4 : Int) : Nat → Nat → Int := sK (sK (sK (sK kk 12 m0 m1 m2 m3 m4) 13 n0 n1 n2 n3 n4) 14 p0 p1 p2 p3 p4) 15 y0 y1 y2 y3 y4
end
end Go.Proofs.YtllcakiomihipaaGreatDoor
namespace Go.Proofs.YtllcakiomihipaaGreatDoor
open Go.ChangeShapes Go.WideShapes Go.ChangeAt Go.RowKit
set_option linter.unusedVariables false
set_option linter.unusedSimpArgs false
section
variable {w0 wb w w' W : World} {L : BLoc} {X : SLoc} {nd B : Nat} {A : List Nat} {F : Nat → Nat → Value} {l : List Int} {J NB : Nat} {rg : Nat → Int} {pc st ft : Int} {kk : Nat → Nat → Int} {wt : Int} {f f' : Nat → Value}
theorem off_len (l : List Int) (x : Int) : (V.offI l x).length ≤ l.length := by
  unfold V.offI
  exact List.length_filter_le _ _
theorem put_len (l : List Int) (x : Int) : (V.putAll l [x]).length ≤ l.length + 1 := by
  simp only [V.putAll, List.foldl_cons, List.foldl_nil]
  split <;> simp
end
end Go.Proofs.YtllcakiomihipaaGreatDoor
namespace Go.Proofs.YtllcakiomihipaaGreatDoor
open Go.ChangeShapes Go.WideShapes Go.ChangeAt Go.RowKit
set_option linter.unusedVariables false
set_option linter.unusedSimpArgs false
section
variable {w0 w w' W : World} {L : BLoc} {X : SLoc} {nd B : Nat} {A : List Nat} {F : Nat → Nat → Value} {l : List Int}
theorem ginv_call (h : GS w0 w L X nd B A F l) (x : Int) (i : Nat) (hx : Hid (x = (i : Int))) (hi : i < nd) (rg : Nat → Int) (pc ft : Int) (kk : Nat → Nat → Int) (wt : Int) (hF : Hid (F i = RW rg pc 3 ft kk wt)) (hR : Hid (∀ q, q < 19 → KRight kk q)) (t1 : 0 ≤ ft) (t2 : ft ≤ 6) (u1 : 0 ≤ wt) (u2 : wt ≤ 536870911) (hxq : V.wfI x) (hl : l.length ≤ 1000) (hB : B ≤ 1000) (vs vr : Value) (hE : ErrsAt vs vr w0) (k0 k1 k2 k3 k4 : Int) (hS : ∀ W, GS w0 W L X nd B [] F (V.offI l x) → Calls Tryz.prog 21 #[.pointer (some ⟨X.s, 0, none⟩), (Value.agg #[.int .i64 k0, .int .i64 k1, .int .i64 k2, .int .i64 k3, .int .u32 k4])] W fun e w' => e = .returned (Value.agg #[.int .i64 k0, .int .i64 k1, .int .i64 k2, .int .i64 k3, .int .u32 k4]) ∧ Below W.heap.size W w') (oo aa : Int) (hAn : ∀ W, GS w0 W L X nd B [] F (V.offI l x) → Calls Tryz.prog 32 #[.pointer (some ⟨X.s, 0, none⟩), (Value.agg #[.int .i64 k0, .int .i64 k1, .int .i64 k2, .int .i64 k3, .int .u32 k4]), (Value.agg #[.int .u32 0, .int .u32 0, .int .u32 0, .int .u32 0, .int .i64 0, .int .i64 0, .int .i64 0, .int .i64 0, .int .u32 0, .int .i64 0, .int .i64 0, .int .i64 0, .int .i64 0, .int .u32 0, .int .i64 0, .int .i64 0, .int .i64 0, .int .i64 0, .int .u32 0])] W fun e w' => e = .returned (.tuple #[(Value.agg #[.int .u32 oo, .int .u32 aa, .int .u32 0, .int .u32 0, .int .i64 0, .int .i64 0, .int .i64 0, .int .i64 0, .int .u32 0, .int .i64 0, .int .i64 0, .int .i64 0, .int .i64 0, .int .u32 0, .int .i64 0, .int .i64 0, .int .i64 0, .int .i64 0, .int .u32 0]), .bool true]) ∧ Below W.heap.size W w') :
    Calls Tryz.prog 12 #[.pointer (some ⟨X.s, 0, none⟩), .int .i64 x, .int .i64 0, (Value.agg #[.int .i64 k0, .int .i64 k1, .int .i64 k2, .int .i64 k3, .int .u32 k4]), (Value.agg #[.int .u32 0, .int .u32 0, .int .u32 0, .int .u32 0, .int .i64 0, .int .i64 0, .int .i64 0, .int .i64 0, .int .u32 0, .int .i64 0, .int .i64 0, .int .i64 0, .int .i64 0, .int .u32 0, .int .i64 0, .int .i64 0, .int .i64 0, .int .i64 0, .int .u32 0])] w fun e w' => e = .returned (.tuple #[(Value.agg ([.int .i64 0, .int .i64 (-1), .int .u32 oo, .int .u32 aa, .int .u32 0, .int .u32 0, .int .i64 0, .int .i64 0, .int .i64 0, .int .i64 0, .int .u32 0, .int .i64 0, .int .i64 0, .int .i64 0, .int .i64 0, .int .u32 0, .int .i64 0, .int .i64 0, .int .i64 0, .int .i64 0, .int .u32 0] : List Value).toArray), .nilIface]) ∧ (∃ B' F' l', (B' = B + 1 ∧ (∃ rg' kk', (∀ q, q < 19 → KRight kk' q) ∧ F' = setF F i (RW rg' pc 3 ft kk' wt)) ∧ l' = V.putAll (V.offI l x) [x]) ∧ GS w0 w' L X nd B' A F' l') ∧ GK A w w' := by
  refine (inv_go h x i hx hi rg pc ft kk wt hF 0 (by decide) (by decide) hxq hl k0 k1 k2 k3 k4 0 0 0 0 0 0 0 0 0 0 0 0 0 0 0 0 0 0 0 0 0 0 0 0 (fun W hW => oseen_void X.s vs vr W (hW.errs hE)) 0 0 0 0 0 (fun W hW => oseen_void X.s vs vr W (hW.errs hE)) 0 0 0 0 0 (fun W hW => oseen_void X.s vs vr W (hW.errs hE)) k0 k1 k2 k3 k4 hS oo aa 0 0 0 0 0 0 0 0 0 0 0 0 0 0 0 0 0 hAn (fun B' F' l' => B' = B + 1 ∧ (∃ rg' kk', (∀ q, q < 19 → KRight kk' q) ∧ F' = setF F i (RW rg' pc 3 ft kk' wt)) ∧ l' = V.putAll (V.offI l x) [x]) (fun A' W hW => ?_))
  refine (take_call hW x i hx hi rg pc ft kk wt hF hR t1 t2 u1 u2 vs vr hE hxq (Nat.le_trans (off_len l x) hl) hB 0 0 0 0 0 0 0 0 0 0 0 0 0 0 0 oo aa 0 0 (by decide) (by decide) (by decide)).mono ?_
  rintro e w9 ⟨h1, ⟨rg', kk', h2, -, h3⟩, h4⟩
  exact ⟨h1, ⟨_, _, _, ⟨rfl, ⟨rg', kk', h2, rfl⟩, rfl⟩, h3⟩, h4⟩
theorem ginv_ret (h : GS w0 w L X nd B A F l) (x : Int) (i : Nat) (hx : Hid (x = (i : Int))) (hi : i < nd) (rg : Nat → Int) (pc ft : Int) (kk : Nat → Nat → Int) (wt : Int) (hF : Hid (F i = RW rg pc 3 ft kk wt)) (hR : Hid (∀ q, q < 19 → KRight kk q)) (t1 : 0 ≤ ft) (t2 : ft ≤ 6) (u1 : 0 ≤ wt) (u2 : wt ≤ 536870911) (hxq : V.wfI x) (hl : l.length ≤ 1000) (vs vr : Value) (hE : ErrsAt vs vr w0) (k0 k1 k2 k3 k4 : Int) (hS : ∀ W, GS w0 W L X nd B [] F (V.offI l x) → Calls Tryz.prog 21 #[.pointer (some ⟨X.s, 0, none⟩), (Value.agg #[.int .i64 k0, .int .i64 k1, .int .i64 k2, .int .i64 k3, .int .u32 k4])] W fun e w' => e = .returned (Value.agg #[.int .i64 k0, .int .i64 k1, .int .i64 k2, .int .i64 k3, .int .u32 k4]) ∧ Below W.heap.size W w') (oo aa : Int) (hAn : ∀ W, GS w0 W L X nd B [] F (V.offI l x) → Calls Tryz.prog 32 #[.pointer (some ⟨X.s, 0, none⟩), (Value.agg #[.int .i64 k0, .int .i64 k1, .int .i64 k2, .int .i64 k3, .int .u32 k4]), (Value.agg #[.int .u32 0, .int .u32 0, .int .u32 0, .int .u32 0, .int .i64 0, .int .i64 0, .int .i64 0, .int .i64 0, .int .u32 0, .int .i64 0, .int .i64 0, .int .i64 0, .int .i64 0, .int .u32 0, .int .i64 0, .int .i64 0, .int .i64 0, .int .i64 0, .int .u32 0])] W fun e w' => e = .returned (.tuple #[(Value.agg #[.int .u32 oo, .int .u32 aa, .int .u32 0, .int .u32 0, .int .i64 0, .int .i64 0, .int .i64 0, .int .i64 0, .int .u32 0, .int .i64 0, .int .i64 0, .int .i64 0, .int .i64 0, .int .u32 0, .int .i64 0, .int .i64 0, .int .i64 0, .int .i64 0, .int .u32 0]), .bool true]) ∧ Below W.heap.size W w') :
    Calls Tryz.prog 12 #[.pointer (some ⟨X.s, 0, none⟩), .int .i64 x, .int .i64 1, (Value.agg #[.int .i64 k0, .int .i64 k1, .int .i64 k2, .int .i64 k3, .int .u32 k4]), (Value.agg #[.int .u32 0, .int .u32 0, .int .u32 0, .int .u32 0, .int .i64 0, .int .i64 0, .int .i64 0, .int .i64 0, .int .u32 0, .int .i64 0, .int .i64 0, .int .i64 0, .int .i64 0, .int .u32 0, .int .i64 0, .int .i64 0, .int .i64 0, .int .i64 0, .int .u32 0])] w fun e w' => e = .returned (.tuple #[(Value.agg ([.int .i64 0, .int .i64 (-1), .int .u32 oo, .int .u32 aa, .int .u32 0, .int .u32 0, .int .i64 0, .int .i64 0, .int .i64 0, .int .i64 0, .int .u32 0, .int .i64 0, .int .i64 0, .int .i64 0, .int .i64 0, .int .u32 0, .int .i64 0, .int .i64 0, .int .i64 0, .int .i64 0, .int .u32 0] : List Value).toArray), .nilIface]) ∧ (∃ B' F' l', (B' = B ∧ F' = setF F i (RW rg pc 1 ft kk wt) ∧ l' = V.offI l x) ∧ GS w0 w' L X nd B' A F' l') ∧ GK A w w' := by
  refine (inv_go h x i hx hi rg pc ft kk wt hF 1 (by decide) (by decide) hxq hl k0 k1 k2 k3 k4 0 0 0 0 0 0 0 0 0 0 0 0 0 0 0 0 0 0 0 0 0 0 0 0 (fun W hW => oseen_void X.s vs vr W (hW.errs hE)) 0 0 0 0 0 (fun W hW => oseen_void X.s vs vr W (hW.errs hE)) 0 0 0 0 0 (fun W hW => oseen_void X.s vs vr W (hW.errs hE)) k0 k1 k2 k3 k4 hS oo aa 0 0 0 0 0 0 0 0 0 0 0 0 0 0 0 0 0 hAn (fun B' F' l' => B' = B ∧ F' = setF F i (RW rg pc 1 ft kk wt) ∧ l' = V.offI l x) (fun A' W hW => ?_))
  refine (take_ret hW x i hx hi rg pc ft kk wt hF hR t1 t2 u1 u2 vs vr hE 0 0 0 0 0 0 0 0 0 0 0 0 0 0 0 oo aa 0 0).mono ?_
  rintro e w9 ⟨h1, h3, h4⟩
  exact ⟨h1, ⟨_, _, _, ⟨rfl, rfl, rfl⟩, h3⟩, h4⟩
theorem ginv_fork (h : GS w0 w L X nd B A F l) (x : Int) (i : Nat) (hx : Hid (x = (i : Int))) (hi : i < nd) (rg : Nat → Int) (pc ft : Int) (kk : Nat → Nat → Int) (wt : Int) (hF : Hid (F i = RW rg pc 3 ft kk wt)) (hR : Hid (∀ q, q < 19 → KRight kk q)) (t1 : 0 ≤ ft) (t2 : ft ≤ 6) (u1 : 0 ≤ wt) (u2 : wt ≤ 536870911) (hxq : V.wfI x) (hl : l.length ≤ 1000) (hB : B ≤ 1000) (vs vr : Value) (hE : ErrsAt vs vr w0) (k0 k1 k2 k3 k4 : Int) (hS : ∀ W, GS w0 W L X nd B [] F (V.offI l x) → Calls Tryz.prog 21 #[.pointer (some ⟨X.s, 0, none⟩), (Value.agg #[.int .i64 k0, .int .i64 k1, .int .i64 k2, .int .i64 k3, .int .u32 k4])] W fun e w' => e = .returned (Value.agg #[.int .i64 k0, .int .i64 k1, .int .i64 k2, .int .i64 k3, .int .u32 k4]) ∧ Below W.heap.size W w') (oo aa : Int) (hAn : ∀ W, GS w0 W L X nd B [] F (V.offI l x) → Calls Tryz.prog 32 #[.pointer (some ⟨X.s, 0, none⟩), (Value.agg #[.int .i64 k0, .int .i64 k1, .int .i64 k2, .int .i64 k3, .int .u32 k4]), (Value.agg #[.int .u32 0, .int .u32 0, .int .u32 0, .int .u32 0, .int .i64 0, .int .i64 0, .int .i64 0, .int .i64 0, .int .u32 0, .int .i64 0, .int .i64 0, .int .i64 0, .int .i64 0, .int .u32 0, .int .i64 0, .int .i64 0, .int .i64 0, .int .i64 0, .int .u32 0])] W fun e w' => e = .returned (.tuple #[(Value.agg #[.int .u32 oo, .int .u32 aa, .int .u32 0, .int .u32 0, .int .i64 0, .int .i64 0, .int .i64 0, .int .i64 0, .int .u32 0, .int .i64 0, .int .i64 0, .int .i64 0, .int .i64 0, .int .u32 0, .int .i64 0, .int .i64 0, .int .i64 0, .int .i64 0, .int .u32 0]), .bool true]) ∧ Below W.heap.size W w') :
    Calls Tryz.prog 12 #[.pointer (some ⟨X.s, 0, none⟩), .int .i64 x, .int .i64 2, (Value.agg #[.int .i64 k0, .int .i64 k1, .int .i64 k2, .int .i64 k3, .int .u32 k4]), (Value.agg #[.int .u32 0, .int .u32 0, .int .u32 0, .int .u32 0, .int .i64 0, .int .i64 0, .int .i64 0, .int .i64 0, .int .u32 0, .int .i64 0, .int .i64 0, .int .i64 0, .int .i64 0, .int .u32 0, .int .i64 0, .int .i64 0, .int .i64 0, .int .i64 0, .int .u32 0])] w fun e w' => e = .returned (.tuple #[(Value.agg ([.int .i64 0, .int .i64 (-1), .int .u32 oo, .int .u32 aa, .int .u32 0, .int .u32 0, .int .i64 0, .int .i64 0, .int .i64 0, .int .i64 0, .int .u32 0, .int .i64 0, .int .i64 0, .int .i64 0, .int .i64 0, .int .u32 0, .int .i64 0, .int .i64 0, .int .i64 0, .int .i64 0, .int .u32 0] : List Value).toArray), .nilIface]) ∧ (∃ B' F' l', (B' = B + 1 ∧ F' = F ∧ l' = V.putAll (V.offI l x) [x]) ∧ GS w0 w' L X nd B' A F' l') ∧ GK A w w' := by
  refine (inv_go h x i hx hi rg pc ft kk wt hF 2 (by decide) (by decide) hxq hl k0 k1 k2 k3 k4 0 0 0 0 0 0 0 0 0 0 0 0 0 0 0 0 0 0 0 0 0 0 0 0 (fun W hW => oseen_void X.s vs vr W (hW.errs hE)) 0 0 0 0 0 (fun W hW => oseen_void X.s vs vr W (hW.errs hE)) 0 0 0 0 0 (fun W hW => oseen_void X.s vs vr W (hW.errs hE)) k0 k1 k2 k3 k4 hS oo aa 0 0 0 0 0 0 0 0 0 0 0 0 0 0 0 0 0 hAn (fun B' F' l' => B' = B + 1 ∧ F' = F ∧ l' = V.putAll (V.offI l x) [x]) (fun A' W hW => ?_))
  refine (take_fork hW x i hx hi rg pc ft kk wt hF hR t1 t2 u1 u2 vs vr hE hxq (Nat.le_trans (off_len l x) hl) hB 0 0 0 0 0 0 0 0 0 0 0 0 0 0 0 oo aa 0 0).mono ?_
  rintro e w9 ⟨h1, h3, h4⟩
  exact ⟨h1, ⟨_, _, _, ⟨rfl, rfl, rfl⟩, h3⟩, h4⟩
end
end Go.Proofs.YtllcakiomihipaaGreatDoor
namespace Go.Proofs.YtllcakiomihipaaGreatDoor
open Go.ChangeShapes Go.WideShapes Go.ChangeAt Go.RowKit
set_option linter.unusedVariables false
set_option linter.unusedSimpArgs false
section
variable {w0 w w' W : World} {L : BLoc} {X : SLoc} {nd B : Nat} {A : List Nat} {F : Nat → Nat → Value} {l : List Int}
theorem resInfo : (Tryz.prog.info? 54).map (·.size) = some 21 := by kernel_rfl
theorem inv_two (h : GS w0 w L X nd B A F l) (x : Int) (i : Nat) (hx : Hid (x = (i : Int))) (hi : i < nd) (st : Int) (rg : Nat → Int) (pc ft : Int) (kk : Nat → Nat → Int) (wt : Int) (hF : Hid (F i = RW rg pc st ft kk wt)) (hR : Hid (∀ q, q < 19 → KRight kk q)) (t1 : 0 ≤ ft) (t2 : ft ≤ 6) (u1 : 0 ≤ wt) (u2 : wt ≤ 536870911) (hxq : V.wfI x) (hl : l.length ≤ 1000) (hB : B ≤ 1000) (vs vr : Value) (hE : ErrsAt vs vr w0) (ve : Value) (hV : w0.cell? ⟨2, 0, none⟩ = some ve) (k0 k1 k2 k3 k4 : Int) (hS : ∀ W, GS w0 W L X nd B [] F (V.offI l x) → Calls Tryz.prog 21 #[.pointer (some ⟨X.s, 0, none⟩), (Value.agg #[.int .i64 k0, .int .i64 k1, .int .i64 k2, .int .i64 k3, .int .u32 k4])] W fun e w' => e = .returned (Value.agg #[.int .i64 k0, .int .i64 k1, .int .i64 k2, .int .i64 k3, .int .u32 k4]) ∧ Below W.heap.size W w') (oo aa : Int) (hAn : ∀ W, GS w0 W L X nd B [] F (V.offI l x) → Calls Tryz.prog 32 #[.pointer (some ⟨X.s, 0, none⟩), (Value.agg #[.int .i64 k0, .int .i64 k1, .int .i64 k2, .int .i64 k3, .int .u32 k4]), (Value.agg #[.int .u32 0, .int .u32 0, .int .u32 0, .int .u32 0, .int .i64 0, .int .i64 0, .int .i64 0, .int .i64 0, .int .u32 0, .int .i64 0, .int .i64 0, .int .i64 0, .int .i64 0, .int .u32 0, .int .i64 0, .int .i64 0, .int .i64 0, .int .i64 0, .int .u32 0])] W fun e w' => e = .returned (.tuple #[(Value.agg #[.int .u32 oo, .int .u32 aa, .int .u32 0, .int .u32 0, .int .i64 0, .int .i64 0, .int .i64 0, .int .i64 0, .int .u32 0, .int .i64 0, .int .i64 0, .int .i64 0, .int .i64 0, .int .u32 0, .int .i64 0, .int .i64 0, .int .i64 0, .int .i64 0, .int .u32 0]), .bool true]) ∧ Below W.heap.size W w') :
    Calls Tryz.prog 12 #[.pointer (some ⟨X.s, 0, none⟩), .int .i64 x, .int .i64 2, (Value.agg #[.int .i64 k0, .int .i64 k1, .int .i64 k2, .int .i64 k3, .int .u32 k4]), (Value.agg #[.int .u32 0, .int .u32 0, .int .u32 0, .int .u32 0, .int .i64 0, .int .i64 0, .int .i64 0, .int .i64 0, .int .u32 0, .int .i64 0, .int .i64 0, .int .i64 0, .int .i64 0, .int .u32 0, .int .i64 0, .int .i64 0, .int .i64 0, .int .i64 0, .int .u32 0])] w fun e w' => (∃ (r : List Value) (y : Value), r.length = 21 ∧ r.toArray.all (·.oneCell') = true ∧ e = .returned (.tuple #[.agg r.toArray, y]) ∧ (st = 3 ∧ y = .nilIface ∨ st ≠ 3 ∧ y = ve)) ∧ (∃ B' l', B' ≤ B + 1 ∧ l'.length ≤ l.length + 1 ∧ GS w0 w' L X nd B' A F l') ∧ GK A w w' := by
  by_cases hs : st = 3
  · subst hs
    refine (ginv_fork h x i hx hi rg pc ft kk wt hF hR t1 t2 u1 u2 hxq hl hB vs vr hE k0 k1 k2 k3 k4 hS oo aa hAn).mono ?_
    rintro e w9 ⟨rfl, ⟨_, _, _, ⟨rfl, rfl, rfl⟩, hg⟩, hk⟩
    exact ⟨⟨_, _, rfl, by simp [Value.oneCell'], rfl, .inl ⟨rfl, rfl⟩⟩, ⟨_, _, Nat.le_refl _, by have := put_len (V.offI l x) x; have := off_len l x; omega, hg⟩, hk⟩
  · refine (inv_state h x i hx hi rg pc st ft kk wt hF 2 (by decide) (by decide) hs k0 k1 k2 k3 k4 0 0 0 0 0 0 0 0 0 0 0 0 0 0 0 0 0 0 0 ve hV).mono ?_
    rintro e w9 ⟨rfl, hg, hk⟩
    exact ⟨⟨_, _, rfl, by simp [Value.oneCell'], rfl, .inr ⟨hs, rfl⟩⟩, ⟨_, _, Nat.le_succ _, Nat.le_succ _, hg⟩, hk⟩
theorem inv_how (h : GS w0 w L X nd B A F l) (x : Int) (i : Nat) (hx : Hid (x = (i : Int))) (hi : i < nd) (how : Int) (rg : Nat → Int) (pc ft : Int) (kk : Nat → Nat → Int) (wt : Int) (hF : Hid (F i = RW rg pc 3 ft kk wt)) (hR : Hid (∀ q, q < 19 → KRight kk q)) (t1 : 0 ≤ ft) (t2 : ft ≤ 6) (u1 : 0 ≤ wt) (u2 : wt ≤ 536870911) (hxq : V.wfI x) (hl : l.length ≤ 1000) (hB : B ≤ 1000) (vs vr : Value) (hE : ErrsAt vs vr w0) (ve : Value) (hV : w0.cell? ⟨1, 0, none⟩ = some ve) (k0 k1 k2 k3 k4 : Int) (hS : ∀ W, GS w0 W L X nd B [] F (V.offI l x) → Calls Tryz.prog 21 #[.pointer (some ⟨X.s, 0, none⟩), (Value.agg #[.int .i64 k0, .int .i64 k1, .int .i64 k2, .int .i64 k3, .int .u32 k4])] W fun e w' => e = .returned (Value.agg #[.int .i64 k0, .int .i64 k1, .int .i64 k2, .int .i64 k3, .int .u32 k4]) ∧ Below W.heap.size W w') (oo aa : Int) (hAn : ∀ W, GS w0 W L X nd B [] F (V.offI l x) → Calls Tryz.prog 32 #[.pointer (some ⟨X.s, 0, none⟩), (Value.agg #[.int .i64 k0, .int .i64 k1, .int .i64 k2, .int .i64 k3, .int .u32 k4]), (Value.agg #[.int .u32 0, .int .u32 0, .int .u32 0, .int .u32 0, .int .i64 0, .int .i64 0, .int .i64 0, .int .i64 0, .int .u32 0, .int .i64 0, .int .i64 0, .int .i64 0, .int .i64 0, .int .u32 0, .int .i64 0, .int .i64 0, .int .i64 0, .int .i64 0, .int .u32 0])] W fun e w' => e = .returned (.tuple #[(Value.agg #[.int .u32 oo, .int .u32 aa, .int .u32 0, .int .u32 0, .int .i64 0, .int .i64 0, .int .i64 0, .int .i64 0, .int .u32 0, .int .i64 0, .int .i64 0, .int .i64 0, .int .i64 0, .int .u32 0, .int .i64 0, .int .i64 0, .int .i64 0, .int .i64 0, .int .u32 0]), .bool true]) ∧ Below W.heap.size W w') :
    Calls Tryz.prog 12 #[.pointer (some ⟨X.s, 0, none⟩), .int .i64 x, .int .i64 how, (Value.agg #[.int .i64 k0, .int .i64 k1, .int .i64 k2, .int .i64 k3, .int .u32 k4]), (Value.agg #[.int .u32 0, .int .u32 0, .int .u32 0, .int .u32 0, .int .i64 0, .int .i64 0, .int .i64 0, .int .i64 0, .int .u32 0, .int .i64 0, .int .i64 0, .int .i64 0, .int .i64 0, .int .u32 0, .int .i64 0, .int .i64 0, .int .i64 0, .int .i64 0, .int .u32 0])] w fun e w' => (∃ (r : List Value) (y : Value), r.length = 21 ∧ r.toArray.all (·.oneCell') = true ∧ e = .returned (.tuple #[.agg r.toArray, y]) ∧ ((0 ≤ how ∧ how ≤ 2) ∧ y = .nilIface ∨ (how < 0 ∨ 2 < how) ∧ y = ve)) ∧ (∃ B' F' l', B' ≤ B + 1 ∧ l'.length ≤ l.length + 1 ∧ (∀ a, a ≠ i → F' a = F a) ∧ GS w0 w' L X nd B' A F' l') ∧ GK A w w' := by
  by_cases hs : how < 0 ∨ 2 < how
  · refine (inv_range h x i hx hi rg pc 3 ft kk wt hF how hs k0 k1 k2 k3 k4 0 0 0 0 0 0 0 0 0 0 0 0 0 0 0 0 0 0 0 ve hV).mono ?_
    rintro e w9 ⟨rfl, hg, hk⟩
    exact ⟨⟨_, _, rfl, by simp [Value.oneCell'], rfl, .inr ⟨hs, rfl⟩⟩, ⟨_, _, _, Nat.le_succ _, Nat.le_succ _, fun _ _ => rfl, hg⟩, hk⟩
  · have hof : ∀ f, ∀ a, a ≠ i → setF F i f a = F a := fun f a ha => if_neg ha
    obtain rfl | rfl | rfl : how = 0 ∨ how = 1 ∨ how = 2 := by omega
    · refine (ginv_call h x i hx hi rg pc ft kk wt hF hR t1 t2 u1 u2 hxq hl hB vs vr hE k0 k1 k2 k3 k4 hS oo aa hAn).mono ?_
      rintro e w9 ⟨rfl, ⟨_, _, _, ⟨rfl, ⟨rg', kk', -, rfl⟩, rfl⟩, hg⟩, hk⟩
      exact ⟨⟨_, _, rfl, by simp [Value.oneCell'], rfl, .inl ⟨by decide, rfl⟩⟩, ⟨_, _, _, Nat.le_refl _, by have := put_len (V.offI l x) x; have := off_len l x; omega, hof _, hg⟩, hk⟩
    · refine (ginv_ret h x i hx hi rg pc ft kk wt hF hR t1 t2 u1 u2 hxq hl vs vr hE k0 k1 k2 k3 k4 hS oo aa hAn).mono ?_
      rintro e w9 ⟨rfl, ⟨_, _, _, ⟨rfl, rfl, rfl⟩, hg⟩, hk⟩
      exact ⟨⟨_, _, rfl, by simp [Value.oneCell'], rfl, .inl ⟨by decide, rfl⟩⟩, ⟨_, _, _, Nat.le_succ _, by have := off_len l x; omega, hof _, hg⟩, hk⟩
    · refine (ginv_fork h x i hx hi rg pc ft kk wt hF hR t1 t2 u1 u2 hxq hl hB vs vr hE k0 k1 k2 k3 k4 hS oo aa hAn).mono ?_
      rintro e w9 ⟨rfl, ⟨_, _, _, ⟨rfl, rfl, rfl⟩, hg⟩, hk⟩
      exact ⟨⟨_, _, rfl, by simp [Value.oneCell'], rfl, .inl ⟨by decide, rfl⟩⟩, ⟨_, _, _, Nat.le_refl _, by have := put_len (V.offI l x) x; have := off_len l x; omega, fun _ _ => rfl, hg⟩, hk⟩
set_option maxRecDepth 100000 in
set_option maxHeartbeats 400000 in
theorem gs_first (vs vr : Value) (w : World) (hE : ErrsAt vs vr w) : Calls Tryz.prog 7 #[] w fun e w' => e = .returned (.bool true) ∧ Below w.heap.size w w' := by
  have HE := Lib.hid hE
  clear hE
  go_enter Tryz.func7, Tryz.ntmps7
  go_upto_region 5 with (first
    | (go_at_call 9; (with_reducible refine (two_is vs vr _ HE.out).mono ?_); rintro e w1 ⟨L, X, rfl, hg⟩; have H1 := Lib.hid hg; have HI := Lib.hid (ginv_call hg 0 0 (Lib.hid rfl) (by decide) (fun _ => 0) 0 0 (fun _ _ => 0) 0 (Lib.hid rfl) (Lib.hid (fun _ _ => (show rightB 0 0 0 0 0 = true by decide))) (by decide) (by decide) (by decide) (by decide) (by unfold V.wfI; decide) (by decide) (by decide) vs vr HE.out 1 0 0 0 8 (fun W hW => oseen_live 1 0 0 0 8 W (fun V hV => nvalid_ok 1 0 0 0 8 (Lib.hid (by decide)) vs vr V ((hW.errs HE.out).below hV)) (fun V hV => slive_plain X.s 1 0 0 0 8 (by decide) V)) 0 8 (fun W hW => ga_number 8 (by decide) hW vs vr HE.out)); clear hg)
    | (go_at_call 12; (with_reducible refine HI.out.mono ?_); rintro e w2 ⟨rfl, ⟨B', F', l', ⟨rfl, -, rfl⟩, hg⟩, -⟩; have H2 := Lib.hid hg; clear hg)
    | (refine wpList_store_mid (by rfl) _ _ _ (by rfl) w2.heap.size 0 ([.int .i64 0, .int .i64 (-1), .int .u32 0, .int .u32 8, .int .u32 0, .int .u32 0, .int .i64 0, .int .i64 0, .int .i64 0, .int .i64 0, .int .u32 0, .int .i64 0, .int .i64 0, .int .i64 0, .int .i64 0, .int .u32 0, .int .i64 0, .int .i64 0, .int .i64 0, .int .i64 0, .int .u32 0] : List Value).toArray (by rfl) (by rfl) (nthere_new _ _ 21 (by rfl) _) resInfo (by simp [Value.oneCell']) ?_; generalize hg : World.setCells _ w2.heap.size 0 _ = w3))
  obtain ⟨RB, hRB⟩ : ∃ RB, RB = w2.heap.size := ⟨_, rfl⟩
  have H3 : Hid (GS w w3 L X 4 (0 + 1) [] _ _ ∧ w3.rangeAt RB 0 [.int .i64 0, .int .i64 (-1), .int .u32 0, .int .u32 8, .int .u32 0, .int .u32 0, .int .i64 0, .int .i64 0, .int .i64 0, .int .i64 0, .int .u32 0, .int .i64 0, .int .i64 0, .int .i64 0, .int .i64 0, .int .u32 0, .int .i64 0, .int .i64 0, .int .i64 0, .int .i64 0, .int .u32 0]) := Lib.hid (by rw [← hg, hRB]; exact ⟨H2.out.below (nbelow_cells ((Below.refl _ _).alloc (Nat.le_refl _) _) (Nat.le_refl _) _ _), World.rangeAt_setCells_same _ _ 0 [.int .i64 0, .int .i64 (-1), .int .u32 0, .int .u32 8, .int .u32 0, .int .u32 0, .int .i64 0, .int .i64 0, .int .i64 0, .int .i64 0, .int .u32 0, .int .i64 0, .int .i64 0, .int .i64 0, .int .i64 0, .int .u32 0, .int .i64 0, .int .i64 0, .int .i64 0, .int .i64 0, .int .u32 0] (nthere_new _ _ 21 (by rfl) _)⟩)
  rw [← hRB]
  clear hg hRB
  have p0 := CallC.cell H3.out.2 0 _ rfl
  have p3 := CallC.cell H3.out.2 3 _ rfl
  have c5 := H3.out.1.c5
  go_wp2_with (first
    | (go_at_call 17; (with_reducible refine (H3.out.1.has 0 (by unfold V.wfI; decide) true (Lib.hid (by decide))).mono ?_); rintro e w4 ⟨rfl, hb⟩; have HB4 := Lib.hid hb; clear hb))
  go_ret
  exact ⟨rfl, H3.out.1.bel.trans (HB4.out.mono H3.out.1.bel.size)⟩
end
end Go.Proofs.YtllcakiomihipaaGreatDoor
namespace Go.Proofs.YtllcakiomihipaaGreatDoor
open Go.ChangeShapes Go.WideShapes Go.ChangeAt Go.RowKit
set_option linter.unusedVariables false
set_option linter.unusedSimpArgs false
section
variable {w0 wb w w' W : World} {L : BLoc} {X : SLoc} {nd B : Nat} {A : List Nat} {F : Nat → Nat → Value} {l : List Int} {J NB : Nat}
set_option maxRecDepth 100000 in
set_option maxHeartbeats 4000000 in
theorem inv_stall (h : GS w0 w L X nd B A F l) (x : Int) (i : Nat) (hx : Hid (x = (i : Int))) (hi : i < nd) (rg : Nat → Int) (pc ft : Int) (kk : Nat → Nat → Int) (wt : Int) (hF : Hid (F i = RW rg pc 3 ft kk wt)) (how : Int) (h0 : 0 ≤ how) (h2 : how ≤ 2) (hxq : V.wfI x) (hl : l.length ≤ 1000) (k0 k1 k2 k3 k4 : Int) (m0 m1 m2 m3 m4 : Int) (n0 n1 n2 n3 n4 : Int) (p0 p1 p2 p3 p4 : Int) (o a b c : Int) (u0 u1 u2 u3 u4 : Int) (hSm : ∀ W, GS w0 W L X nd B [] F (V.offI l x) → Calls Tryz.prog 21 #[.pointer (some ⟨X.s, 0, none⟩), (Value.agg #[.int .i64 m0, .int .i64 m1, .int .i64 m2, .int .i64 m3, .int .u32 m4])] W fun e w' => e = .returned (Value.agg #[.int .i64 u0, .int .i64 u1, .int .i64 u2, .int .i64 u3, .int .u32 u4]) ∧ Below W.heap.size W w') (v0 v1 v2 v3 v4 : Int) (hSn : ∀ W, GS w0 W L X nd B [] F (V.offI l x) → Calls Tryz.prog 21 #[.pointer (some ⟨X.s, 0, none⟩), (Value.agg #[.int .i64 n0, .int .i64 n1, .int .i64 n2, .int .i64 n3, .int .u32 n4])] W fun e w' => e = .returned (Value.agg #[.int .i64 v0, .int .i64 v1, .int .i64 v2, .int .i64 v3, .int .u32 v4]) ∧ Below W.heap.size W w') (z0 z1 z2 z3 z4 : Int) (hSp : ∀ W, GS w0 W L X nd B [] F (V.offI l x) → Calls Tryz.prog 21 #[.pointer (some ⟨X.s, 0, none⟩), (Value.agg #[.int .i64 p0, .int .i64 p1, .int .i64 p2, .int .i64 p3, .int .u32 p4])] W fun e w' => e = .returned (Value.agg #[.int .i64 z0, .int .i64 z1, .int .i64 z2, .int .i64 z3, .int .u32 z4]) ∧ Below W.heap.size W w') (r0 r1 r2 r3 r4 : Int) (hS : ∀ W, GS w0 W L X nd B [] F (V.offI l x) → Calls Tryz.prog 21 #[.pointer (some ⟨X.s, 0, none⟩), (Value.agg #[.int .i64 k0, .int .i64 k1, .int .i64 k2, .int .i64 k3, .int .u32 k4])] W fun e w' => e = .returned (Value.agg #[.int .i64 r0, .int .i64 r1, .int .i64 r2, .int .i64 r3, .int .u32 r4]) ∧ Below W.heap.size W w') (h5 : r0 = 5) (hAn : ∀ W, GS w0 W L X nd B [] F (V.offI l x) → Calls Tryz.prog 32 #[.pointer (some ⟨X.s, 0, none⟩), (Value.agg #[.int .i64 r0, .int .i64 r1, .int .i64 r2, .int .i64 r3, .int .u32 r4]), (Value.agg #[.int .u32 o, .int .u32 a, .int .u32 b, .int .u32 c, .int .i64 u0, .int .i64 u1, .int .i64 u2, .int .i64 u3, .int .u32 u4, .int .i64 v0, .int .i64 v1, .int .i64 v2, .int .i64 v3, .int .u32 v4, .int .i64 z0, .int .i64 z1, .int .i64 z2, .int .i64 z3, .int .u32 z4])] W fun e w' => e = .returned (.tuple #[(Value.agg #[.int .u32 0, .int .u32 0, .int .u32 0, .int .u32 0, .int .i64 0, .int .i64 0, .int .i64 0, .int .i64 0, .int .u32 0, .int .i64 0, .int .i64 0, .int .i64 0, .int .i64 0, .int .u32 0, .int .i64 0, .int .i64 0, .int .i64 0, .int .i64 0, .int .u32 0]), .bool false]) ∧ Below W.heap.size W w') (hAv : ∀ W, GS w0 W L X nd B [] F (V.offI l x) → Calls Tryz.prog 34 #[.pointer (some ⟨X.s, 0, none⟩), .int .i64 r1] W fun e w' => e = .returned (.bool false) ∧ Below W.heap.size W w') (Q : Nat → (Nat → Nat → Value) → List Int → Prop) (hT : ∀ A' W, GS w0 W L X nd B A' F (V.offI l x) → Calls Tryz.prog 35 #[.pointer (some ⟨X.s, 0, none⟩), .int .i64 x, .int .i64 r1] W fun e w' => (∃ v, e = .returned v) ∧ (∃ B' F' l', Q B' F' l' ∧ GS w0 w' L X nd B' A' F' l') ∧ GK A' W w') :
    Calls Tryz.prog 12 #[.pointer (some ⟨X.s, 0, none⟩), .int .i64 x, .int .i64 how, (Value.agg #[.int .i64 k0, .int .i64 k1, .int .i64 k2, .int .i64 k3, .int .u32 k4]), (Value.agg #[.int .u32 o, .int .u32 a, .int .u32 b, .int .u32 c, .int .i64 m0, .int .i64 m1, .int .i64 m2, .int .i64 m3, .int .u32 m4, .int .i64 n0, .int .i64 n1, .int .i64 n2, .int .i64 n3, .int .u32 n4, .int .i64 p0, .int .i64 p1, .int .i64 p2, .int .i64 p3, .int .u32 p4])] w fun e w' => e = .returned (.tuple #[.agg ([.int .i64 2, .int .i64 r1, .int .u32 0, .int .u32 0, .int .u32 0, .int .u32 0, .int .i64 0, .int .i64 0, .int .i64 0, .int .i64 0, .int .u32 0, .int .i64 0, .int .i64 0, .int .i64 0, .int .i64 0, .int .u32 0, .int .i64 0, .int .i64 0, .int .i64 0, .int .i64 0, .int .u32 0] : List Value).toArray, .nilIface]) ∧ (∃ B' F' l', Q B' F' l' ∧ GS w0 w' L X nd B' A F' l') ∧ GK A w w' := by
  have e5 : (r0 == 5) = true := by rw [h5]; rfl
  have HAn := Lib.hid hAn
  have HT := Lib.hid hT
  have HAv := Lib.hid hAv
  clear hAn hT h5 hAv
  have H := Lib.hid h
  have HOne : Hid (∀ j, j < 107 → (RW rg pc 3 ft kk wt j).oneCell' = true) := Lib.hid (fun j _ => RW_one _ _ _ _ _ _ j)
  have HOneF : Hid (∀ j, j < 107 → (F i j).oneCell' = true) := Lib.hid (by rw [hF.out]; exact HOne.out)
  have HS := Lib.hid hS
  have HM := Lib.hid hSm
  have HN2 := Lib.hid hSn
  have HP2 := Lib.hid hSp
  clear h hS hSm hSn hSp
  go_enter Tryz.func12, Tryz.ntmps12
  go_upto_region 1 with fail
  generalize hgA : World.alloc _ _ = wA; obtain ⟨KB, NB, RB, hKB, hNB, hRB⟩ : ∃ KB NB RB, KB = w.heap.size ∧ NB = w.heap.size + 1 ∧ RB = w.heap.size + 1 + 1 := ⟨_, _, _, rfl, rfl, rfl⟩; have HA : Hid (IV w0 w wA L X nd B A F l KB NB RB [.int .i64 k0, .int .i64 k1, .int .i64 k2, .int .i64 k3, .int .u32 k4] ([.int .u32 o, .int .u32 a, .int .u32 b, .int .u32 c, .int .i64 m0, .int .i64 m1, .int .i64 m2, .int .i64 m3, .int .u32 m4, .int .i64 n0, .int .i64 n1, .int .i64 n2, .int .i64 n3, .int .u32 n4, .int .i64 p0, .int .i64 p1, .int .i64 p2, .int .i64 p3, .int .u32 p4] : List Value) [.int .i64 0, .int .i64 0, .int .u32 0, .int .u32 0, .int .u32 0, .int .u32 0, .int .i64 0, .int .i64 0, .int .i64 0, .int .i64 0, .int .u32 0, .int .i64 0, .int .i64 0, .int .i64 0, .int .i64 0, .int .u32 0, .int .i64 0, .int .i64 0, .int .i64 0, .int .i64 0, .int .u32 0]) := (Lib.hid (by rw [← hgA, hKB, hNB, hRB]; exact IV.made H.out [.int .i64 k0, .int .i64 k1, .int .i64 k2, .int .i64 k3, .int .u32 k4] ([.int .u32 o, .int .u32 a, .int .u32 b, .int .u32 c, .int .i64 m0, .int .i64 m1, .int .i64 m2, .int .i64 m3, .int .u32 m4, .int .i64 n0, .int .i64 n1, .int .i64 n2, .int .i64 n3, .int .u32 n4, .int .i64 p0, .int .i64 p1, .int .i64 p2, .int .i64 p3, .int .u32 p4] : List Value) [.int .i64 0, .int .i64 0, .int .u32 0, .int .u32 0, .int .u32 0, .int .u32 0, .int .i64 0, .int .i64 0, .int .i64 0, .int .i64 0, .int .u32 0, .int .i64 0, .int .i64 0, .int .i64 0, .int .i64 0, .int .u32 0, .int .i64 0, .int .i64 0, .int .i64 0, .int .i64 0, .int .u32 0] _ _ _ rfl rfl rfl)); rw [← hRB, ← hNB, ← hKB]; clear hgA hKB hNB hRB
  have c1 := HA.out.gs.c1
  go_upto_region 2 with (first
    | (go_at_call 10; (with_reducible refine (HA.out.gs.get x i hx hi HOneF).mono ?_); rintro e w1 ⟨rfl, hb⟩; have H1 := Lib.hid (HA.out.below hb); clear hb)
    | (refine wpList_store_mid (by rfl) _ _ _ (by rfl) w1.heap.size 0 (rowL (F i)).toArray (by rfl) (by rfl) (by rw [rowL_size]; exact nthere_new _ _ 107 zsize _) (by rw [rowL_size]; exact infoDomS) (rowL_one (F i) HOneF.out) ?_))
  generalize hg : World.setCells _ w1.heap.size 0 _ = w2
  have H2 := Lib.hid (show IV w0 w w2 L X nd B A F l KB NB RB _ _ _ ∧ w2.rangeAt w1.heap.size 0 (rowL (RW rg pc 3 ft kk wt)) by rw [← hg, ← hF.out]; exact ⟨H1.out.below (nbelow_cells ((Below.refl _ _).alloc (Nat.le_refl _) _) (Nat.le_refl _) _ _), World.rangeAt_setCells_same _ _ 0 (rowL (F i)) (by rw [rowL_len]; exact nthere_new _ _ 107 zsize _)⟩)
  clear hg
  have j9 : w2.cell? ⟨w1.heap.size, 9, none⟩ = some (.int .i64 3) := rangeD H2.out.2 9 (by decide)
  have H2 := Lib.hid H2.out.1
  have c5 := H2.out.gs.c5
  go_upto_region 9 with (first
    | (go_at_call 31; (with_reducible refine (H2.out.gs.drop x hxq hl).mono ?_); rintro e w3 ⟨⟨t, rfl⟩, hg, hk⟩; have H3 := Lib.hid (H2.out.turn hg hk); clear hg hk c5 j9))
  have k1' := H3.out.kc
  go_upto_region 10 with (first
    | (refine wpList_load_mid (by rfl) _ _ (by rfl) KB 0 (by rfl) [.int .i64 k0, .int .i64 k1, .int .i64 k2, .int .i64 k3, .int .u32 k4] _ k1' Tryz.underlying31 rfl keyInfo5 ?_)
    | (go_at_call 21; (with_reducible refine (HS.out _ (H3.out.gs.sub (by simp))).mono ?_); rintro e w4 ⟨rfl, hb⟩; have H4 := Lib.hid (H3.out.below hb); clear hb k1')
    | (refine wpList_store_mid (by rfl) _ _ _ (by rfl) KB 0 #[.int .i64 r0, .int .i64 r1, .int .i64 r2, .int .i64 r3, .int .u32 r4] (by rfl) (by rfl) H4.out.kt keyInfo5 (by simp [Value.oneCell']) ?_))
  generalize hg : World.setCells w4 KB 0 _ = w5
  have H5 := Lib.hid (show IV w0 w w5 L X nd B A F (V.offI l x) KB NB RB [.int .i64 r0, .int .i64 r1, .int .i64 r2, .int .i64 r3, .int .u32 r4] _ _ by rw [← hg]; exact H4.out.putk [.int .i64 r0, .int .i64 r1, .int .i64 r2, .int .i64 r3, .int .u32 r4] rfl)
  clear hg
  have HN5 : Hid (w5.rangeAt NB 4 [.int .i64 m0, .int .i64 m1, .int .i64 m2, .int .i64 m3, .int .u32 m4, .int .i64 n0, .int .i64 n1, .int .i64 n2, .int .i64 n3, .int .u32 n4, .int .i64 p0, .int .i64 p1, .int .i64 p2, .int .i64 p3, .int .u32 p4]) := Lib.hid (fun j v hv => by
    have h := CallC.cell H5.out.nc (4 + j) v
    exact h (by
      have e : ([.int .u32 o, .int .u32 a, .int .u32 b, .int .u32 c, .int .i64 m0, .int .i64 m1, .int .i64 m2, .int .i64 m3, .int .u32 m4, .int .i64 n0, .int .i64 n1, .int .i64 n2, .int .i64 n3, .int .u32 n4, .int .i64 p0, .int .i64 p1, .int .i64 p2, .int .i64 p3, .int .u32 p4] : List Value) = [.int .u32 o, .int .u32 a, .int .u32 b, .int .u32 c] ++ [.int .i64 m0, .int .i64 m1, .int .i64 m2, .int .i64 m3, .int .u32 m4, .int .i64 n0, .int .i64 n1, .int .i64 n2, .int .i64 n3, .int .u32 n4, .int .i64 p0, .int .i64 p1, .int .i64 p2, .int .i64 p3, .int .u32 p4] := rfl
      rw [e, List.getElem?_append_right (by simp)]
      simpa using hv))
  go_wp2_with (first
    | (refine wpList_load_mid (by rfl) _ _ (by rfl) NB 4 (by rfl) [.int .i64 m0, .int .i64 m1, .int .i64 m2, .int .i64 m3, .int .u32 m4, .int .i64 n0, .int .i64 n1, .int .i64 n2, .int .i64 n3, .int .u32 n4, .int .i64 p0, .int .i64 p1, .int .i64 p2, .int .i64 p3, .int .u32 p4] _ HN5.out Tryz.underlying50 rfl (by kernel_rfl) ?_))
  refine wp_loop_rounds 4 ?_
  rw [rounds_succ]; have hix : (Instr.index 50 (.agg [.int .i64 m0, .int .i64 m1, .int .i64 m2, .int .i64 m3, .int .u32 m4, .int .i64 n0, .int .i64 n1, .int .i64 n2, .int .i64 n3, .int .u32 n4, .int .i64 p0, .int .i64 p1, .int .i64 p2, .int .i64 p3, .int .u32 p4].toArray) (.int .i64 0)).run Tryz.prog w5 = .ok (.agg (List.toArray [.int .i64 m0, .int .i64 m1, .int .i64 m2, .int .i64 m3, .int .u32 m4])) w5 := (by kernel_rfl); simp only [List.toArray] at hix; go_upto_region 13 with fail; generalize hg : World.alloc w5 _ = w6; obtain ⟨XB, hXB⟩ : ∃ XB, XB = w5.heap.size := ⟨_, rfl⟩; have H6 := Lib.hid (show IV w0 w w6 L X nd B A F (V.offI l x) KB NB RB _ _ _ ∧ w6.rangeAt XB 0 [.int .i64 m0, .int .i64 m1, .int .i64 m2, .int .i64 m3, .int .u32 m4] by rw [← hg, hXB]; exact ⟨H5.out.below ((Below.refl _ _).alloc (Nat.le_refl _) _), cbox _ [.int .i64 m0, .int .i64 m1, .int .i64 m2, .int .i64 m3, .int .u32 m4] _⟩); rw [← hXB]; clear hg hXB hix; go_upto_region 14 with (first | (refine wpList_load_mid (by rfl) _ _ (by rfl) XB 0 (by rfl) [.int .i64 m0, .int .i64 m1, .int .i64 m2, .int .i64 m3, .int .u32 m4] _ H6.out.2 Tryz.underlying31 rfl keyInfo5 ?_) | (go_at_call 21; (with_reducible refine (HM.out _ (H6.out.1.gs.sub (by simp))).mono ?_); rintro e w7 ⟨rfl, hb⟩; have H7 := Lib.hid (H6.out.1.below hb); clear hb) | (refine wpList_store_mid (by rfl) _ _ _ (by rfl) NB 4 (List.toArray [.int .i64 u0, .int .i64 u1, .int .i64 u2, .int .i64 u3, .int .u32 u4]) (by rfl) (by rfl) (fun j hj => by have hj' : j < 5 := hj; have h := H7.out.ot (4 + j) (by omega); rwa [Nat.zero_add] at h) keyInfo5 (by simp [Value.oneCell']) ?_)); generalize hg : World.setCells w7 NB 4 _ = w8; have H8 := Lib.hid (show IV w0 w w8 L X nd B A F (V.offI l x) KB NB RB _ ([.int .u32 o, .int .u32 a, .int .u32 b, .int .u32 c, .int .i64 u0, .int .i64 u1, .int .i64 u2, .int .i64 u3, .int .u32 u4, .int .i64 n0, .int .i64 n1, .int .i64 n2, .int .i64 n3, .int .u32 n4, .int .i64 p0, .int .i64 p1, .int .i64 p2, .int .i64 p3, .int .u32 p4] : List Value) _ by rw [← hg]; exact H7.out.putn 4 [.int .i64 u0, .int .i64 u1, .int .i64 u2, .int .i64 u3, .int .u32 u4] _ (range_key5 H7.out.nc 4 _ _ _ _ _)); clear hg; go_wp2_with fail
  rw [rounds_succ]; have hix : (Instr.index 50 (.agg [.int .i64 m0, .int .i64 m1, .int .i64 m2, .int .i64 m3, .int .u32 m4, .int .i64 n0, .int .i64 n1, .int .i64 n2, .int .i64 n3, .int .u32 n4, .int .i64 p0, .int .i64 p1, .int .i64 p2, .int .i64 p3, .int .u32 p4].toArray) (.int .i64 1)).run Tryz.prog w8 = .ok (.agg (List.toArray [.int .i64 n0, .int .i64 n1, .int .i64 n2, .int .i64 n3, .int .u32 n4])) w8 := (by kernel_rfl); simp only [List.toArray] at hix; go_upto_region 13 with fail; generalize hg : World.alloc w8 _ = w6; obtain ⟨XB, hXB⟩ : ∃ XB, XB = w8.heap.size := ⟨_, rfl⟩; have H6 := Lib.hid (show IV w0 w w6 L X nd B A F (V.offI l x) KB NB RB _ _ _ ∧ w6.rangeAt XB 0 [.int .i64 n0, .int .i64 n1, .int .i64 n2, .int .i64 n3, .int .u32 n4] by rw [← hg, hXB]; exact ⟨H8.out.below ((Below.refl _ _).alloc (Nat.le_refl _) _), cbox _ [.int .i64 n0, .int .i64 n1, .int .i64 n2, .int .i64 n3, .int .u32 n4] _⟩); rw [← hXB]; clear hg hXB hix; go_upto_region 14 with (first | (refine wpList_load_mid (by rfl) _ _ (by rfl) XB 0 (by rfl) [.int .i64 n0, .int .i64 n1, .int .i64 n2, .int .i64 n3, .int .u32 n4] _ H6.out.2 Tryz.underlying31 rfl keyInfo5 ?_) | (go_at_call 21; (with_reducible refine (HN2.out _ (H6.out.1.gs.sub (by simp))).mono ?_); rintro e w7 ⟨rfl, hb⟩; have H7 := Lib.hid (H6.out.1.below hb); clear hb) | (refine wpList_store_mid (by rfl) _ _ _ (by rfl) NB 9 (List.toArray [.int .i64 v0, .int .i64 v1, .int .i64 v2, .int .i64 v3, .int .u32 v4]) (by rfl) (by rfl) (fun j hj => by have hj' : j < 5 := hj; have h := H7.out.ot (9 + j) (by omega); rwa [Nat.zero_add] at h) keyInfo5 (by simp [Value.oneCell']) ?_)); generalize hg : World.setCells w7 NB 9 _ = w9; have H9 := Lib.hid (show IV w0 w w9 L X nd B A F (V.offI l x) KB NB RB _ ([.int .u32 o, .int .u32 a, .int .u32 b, .int .u32 c, .int .i64 u0, .int .i64 u1, .int .i64 u2, .int .i64 u3, .int .u32 u4, .int .i64 v0, .int .i64 v1, .int .i64 v2, .int .i64 v3, .int .u32 v4, .int .i64 p0, .int .i64 p1, .int .i64 p2, .int .i64 p3, .int .u32 p4] : List Value) _ by rw [← hg]; exact H7.out.putn 9 [.int .i64 v0, .int .i64 v1, .int .i64 v2, .int .i64 v3, .int .u32 v4] _ (range_key5 H7.out.nc 9 _ _ _ _ _)); clear hg; go_wp2_with fail
  rw [rounds_succ]; have hix : (Instr.index 50 (.agg [.int .i64 m0, .int .i64 m1, .int .i64 m2, .int .i64 m3, .int .u32 m4, .int .i64 n0, .int .i64 n1, .int .i64 n2, .int .i64 n3, .int .u32 n4, .int .i64 p0, .int .i64 p1, .int .i64 p2, .int .i64 p3, .int .u32 p4].toArray) (.int .i64 2)).run Tryz.prog w9 = .ok (.agg (List.toArray [.int .i64 p0, .int .i64 p1, .int .i64 p2, .int .i64 p3, .int .u32 p4])) w9 := (by kernel_rfl); simp only [List.toArray] at hix; go_upto_region 13 with fail; generalize hg : World.alloc w9 _ = w6; obtain ⟨XB, hXB⟩ : ∃ XB, XB = w9.heap.size := ⟨_, rfl⟩; have H6 := Lib.hid (show IV w0 w w6 L X nd B A F (V.offI l x) KB NB RB _ _ _ ∧ w6.rangeAt XB 0 [.int .i64 p0, .int .i64 p1, .int .i64 p2, .int .i64 p3, .int .u32 p4] by rw [← hg, hXB]; exact ⟨H9.out.below ((Below.refl _ _).alloc (Nat.le_refl _) _), cbox _ [.int .i64 p0, .int .i64 p1, .int .i64 p2, .int .i64 p3, .int .u32 p4] _⟩); rw [← hXB]; clear hg hXB hix; go_upto_region 14 with (first | (refine wpList_load_mid (by rfl) _ _ (by rfl) XB 0 (by rfl) [.int .i64 p0, .int .i64 p1, .int .i64 p2, .int .i64 p3, .int .u32 p4] _ H6.out.2 Tryz.underlying31 rfl keyInfo5 ?_) | (go_at_call 21; (with_reducible refine (HP2.out _ (H6.out.1.gs.sub (by simp))).mono ?_); rintro e w7 ⟨rfl, hb⟩; have H7 := Lib.hid (H6.out.1.below hb); clear hb) | (refine wpList_store_mid (by rfl) _ _ _ (by rfl) NB 14 (List.toArray [.int .i64 z0, .int .i64 z1, .int .i64 z2, .int .i64 z3, .int .u32 z4]) (by rfl) (by rfl) (fun j hj => by have hj' : j < 5 := hj; have h := H7.out.ot (14 + j) (by omega); rwa [Nat.zero_add] at h) keyInfo5 (by simp [Value.oneCell']) ?_)); generalize hg : World.setCells w7 NB 14 _ = w10; have H10 := Lib.hid (show IV w0 w w10 L X nd B A F (V.offI l x) KB NB RB _ ([.int .u32 o, .int .u32 a, .int .u32 b, .int .u32 c, .int .i64 u0, .int .i64 u1, .int .i64 u2, .int .i64 u3, .int .u32 u4, .int .i64 v0, .int .i64 v1, .int .i64 v2, .int .i64 v3, .int .u32 v4, .int .i64 z0, .int .i64 z1, .int .i64 z2, .int .i64 z3, .int .u32 z4] : List Value) _ by rw [← hg]; exact H7.out.putn 14 [.int .i64 z0, .int .i64 z1, .int .i64 z2, .int .i64 z3, .int .u32 z4] _ (range_key5 H7.out.nc 14 _ _ _ _ _)); clear hg; go_wp2_with fail
  rw [rounds_succ]
  clear H1 H2 H3 H4 H5 H6 H7 H8 H9 HA HN5
  go_upto_region 15 with fail
  have hkc := H10.out.kc
  have hnc := H10.out.nc
  have HG10 := Lib.hid (H10.out.gs.sub (A' := []) (by simp))
  go_upto_region 16 with (first
    | (refine wpList_load_mid (by rfl) _ _ (by rfl) KB 0 (by rfl) [.int .i64 r0, .int .i64 r1, .int .i64 r2, .int .i64 r3, .int .u32 r4] _ hkc Tryz.underlying31 rfl keyInfo5 ?_; clear hkc)
    | (refine wpList_load_mid (by rfl) _ _ (by rfl) NB 0 (by rfl) ([.int .u32 o, .int .u32 a, .int .u32 b, .int .u32 c, .int .i64 u0, .int .i64 u1, .int .i64 u2, .int .i64 u3, .int .u32 u4, .int .i64 v0, .int .i64 v1, .int .i64 v2, .int .i64 v3, .int .u32 v4, .int .i64 z0, .int .i64 z1, .int .i64 z2, .int .i64 z3, .int .u32 z4] : List Value) _ hnc Tryz.underlying52 rfl infoNote ?_)
    | (go_at_call 32; (with_reducible refine (HAn.out _ HG10.out).mono ?_); rintro e w11 ⟨rfl, hb⟩; have H11 := Lib.hid (H10.out.below hb); clear hb hnc)
    | (refine wpList_store_mid (by rfl) _ _ _ (by rfl) w11.heap.size 0 ([.int .u32 0, .int .u32 0, .int .u32 0, .int .u32 0, .int .i64 0, .int .i64 0, .int .i64 0, .int .i64 0, .int .u32 0, .int .i64 0, .int .i64 0, .int .i64 0, .int .i64 0, .int .u32 0, .int .i64 0, .int .i64 0, .int .i64 0, .int .i64 0, .int .u32 0] : List Value).toArray (by rfl) (by rfl) (nthere_new _ _ 19 (by rfl) _) infoNote (note_one _ _ _ _ _ _ _ _ _ _ _ _ _ _ _ _ _ _ _) ?_; generalize hg : World.setCells _ w11.heap.size 0 _ = w12))
  have H12 := Lib.hid (show IV w0 w w12 L X nd B A F (V.offI l x) KB NB RB _ _ _ by
    have b := nbelow_cells ((Below.refl _ _).alloc (Nat.le_refl _) _ : Below w11.heap.size w11 (w11.alloc (.cells ([.int .u32 0, .int .u32 0, .int .u32 0, .int .u32 0, .int .i64 0, .int .i64 0, .int .i64 0, .int .i64 0, .int .u32 0, .int .i64 0, .int .i64 0, .int .i64 0, .int .i64 0, .int .u32 0, .int .i64 0, .int .i64 0, .int .i64 0, .int .i64 0, .int .u32 0] : List Value).toArray 52))) (Nat.le_refl _) [.int .u32 0, .int .u32 0, .int .u32 0, .int .u32 0, .int .i64 0, .int .i64 0, .int .i64 0, .int .i64 0, .int .u32 0, .int .i64 0, .int .i64 0, .int .i64 0, .int .i64 0, .int .u32 0, .int .i64 0, .int .i64 0, .int .i64 0, .int .i64 0, .int .u32 0] 0
    rw [← hg]
    exact H11.out.below b)
  clear hg H10 H11 HG10
  have q0 := CallC.cell H12.out.kc 0 _ rfl
  have q1 := CallC.cell H12.out.kc 1 _ rfl
  have HG12 := Lib.hid (H12.out.gs.sub (A' := []) (by simp))
  go_upto_region 20 with (first | (go_at_call 34; (with_reducible refine (HAv.out _ HG12.out).mono ?_); rintro e w13 ⟨rfl, hb⟩; have H13 := Lib.hid (H12.out.below hb); clear hb q0 q1; have q1 := CallC.cell H13.out.kc 1 _ rfl; have HG13 := Lib.hid H13.out.gs))
  go_upto_region 21 with (first
    | (go_at_call 35; (with_reducible refine (HT.out _ _ HG13.out).mono ?_); rintro e w14 ⟨⟨vT, rfl⟩, hq, hk⟩; have H14 := Lib.hid hq; have K14 := Lib.hid hk; have HR14 := Lib.hid (nthere_same H13.out.rt (hk.eq RB (by simp))); have HK14 := Lib.hid (range_same H13.out.kc (hk.eq KB (by simp))); clear hq hk q1))
  have q1 := CallC.cell HK14.out 1 _ rfl
  go_wp2_with (first
    | (refine wpList_store_mid (by rfl) _ _ _ (by rfl) RB 0 ([.int .i64 2, .int .i64 r1, .int .u32 0, .int .u32 0, .int .u32 0, .int .u32 0, .int .i64 0, .int .i64 0, .int .i64 0, .int .i64 0, .int .u32 0, .int .i64 0, .int .i64 0, .int .i64 0, .int .i64 0, .int .u32 0, .int .i64 0, .int .i64 0, .int .i64 0, .int .i64 0, .int .u32 0] : List Value).toArray (by rfl) (by rfl) HR14.out (by kernel_rfl) (by simp [Value.oneCell']) ?_; generalize hg : World.setCells _ RB 0 _ = w19))
  obtain ⟨B9, F9, l9, hQ9, hG9⟩ := H14.out
  have H19 := Lib.hid (show GS w0 w19 L X nd B9 (RB :: NB :: KB :: A) F9 l9 ∧ GK A w14 w19 ∧ w19.rangeAt RB 0 ([.int .i64 2, .int .i64 r1, .int .u32 0, .int .u32 0, .int .u32 0, .int .u32 0, .int .i64 0, .int .i64 0, .int .i64 0, .int .i64 0, .int .u32 0, .int .i64 0, .int .i64 0, .int .i64 0, .int .i64 0, .int .u32 0, .int .i64 0, .int .i64 0, .int .i64 0, .int .i64 0, .int .u32 0] : List Value) by
    have hlt := H13.out.lt
    have hxs := H13.out.xs
    have hna := H13.out.na
    rw [← hg]
    exact ⟨hG9.cells RB (by simp) (by omega) 0 _, GK.cells (fun hm => by have := hna _ hm; omega) _ _ _, World.rangeAt_setCells_same _ _ 0 ([.int .i64 2, .int .i64 r1, .int .u32 0, .int .u32 0, .int .u32 0, .int .u32 0, .int .i64 0, .int .i64 0, .int .i64 0, .int .i64 0, .int .u32 0, .int .i64 0, .int .i64 0, .int .i64 0, .int .i64 0, .int .u32 0, .int .i64 0, .int .i64 0, .int .i64 0, .int .i64 0, .int .u32 0] : List Value) HR14.out⟩)
  clear hg hG9
  go_wp2_with fail
  have hld := run_loadVar_mid (P := Tryz.prog) w19 RB 0 54 ([.int .i64 2, .int .i64 r1, .int .u32 0, .int .u32 0, .int .u32 0, .int .u32 0, .int .i64 0, .int .i64 0, .int .i64 0, .int .i64 0, .int .u32 0, .int .i64 0, .int .i64 0, .int .i64 0, .int .i64 0, .int .u32 0, .int .i64 0, .int .i64 0, .int .i64 0, .int .i64 0, .int .u32 0] : List Value) _ H19.out.2.2 Tryz.underlying54 rfl (by kernel_rfl)
  (try simp only [Exit.inBlock, Exit.then])
  exact bodyPost_ret (results_cell_tmp (a := 10) (t := 11) (by rfl) _ ⟨RB, 0, none⟩ (by rfl) _ _ _ hld) rfl ⟨rfl, ⟨B9, F9, l9, hQ9, H19.out.1.tail.tail.tail⟩, H13.out.gk.trans (K14.out.tail.tail.tail.trans H19.out.2.1)⟩
end
end Go.Proofs.YtllcakiomihipaaGreatDoor
namespace Go.Proofs.YtllcakiomihipaaGreatDoor
open Go.ChangeShapes Go.WideShapes Go.ChangeAt Go.RowKit
set_option linter.unusedVariables false
set_option linter.unusedSimpArgs false
section
variable {w0 wb w w' W : World} {L : BLoc} {X : SLoc} {nd B : Nat} {A : List Nat} {F : Nat → Nat → Value} {l : List Int} {J NB : Nat}
end
end Go.Proofs.YtllcakiomihipaaGreatDoor
namespace Go.Proofs.YtllcakiomihipaaGreatDoor.V
open Go.ChangeShapes Go.WideShapes Go.ChangeAt Go.RowKit Go.Maps
set_option linter.unusedVariables false
/-- Numbers are read there. -/
def RI (w : World) (a : Option Addr) (xs : List Int) : Prop := ∀ i, i < xs.length → ∃ ad, a = some ad ∧ ad.block < w.heap.size ∧ w.cell? (ad.add i) = some (.int .i64 (xs.getD i 0))
theorem RI.below {w w' : World} {a : Option Addr} {xs : List Int} (h : RI w a xs) (hb : Below w.heap.size w w') : RI w' a xs := by
  intro i hi
  obtain ⟨ad, h1, h2, h3⟩ := h i hi
  exact ⟨ad, h1, Nat.lt_of_lt_of_le h2 hb.size, (hb.cell (p := ad.add i) (by rw [add_block']; exact h2)).trans h3⟩
theorem own_ri {w : World} {B n c : Nat} {a : Option Addr} {xs : List Int} (h : w.ownsRow B 3 1 (.slice a n c) n (xs.map (Value.int .i64))) (hn : xs.length = n) : RI w a xs := by
  intro i hi
  rcases h.2 with ⟨_, h0⟩ | ⟨g, cap, cur, hv, hB, hg, rest⟩
  · omega
  · obtain rfl : a = some ⟨g, 0, none⟩ := by simp at hv; exact hv.1
    refine ⟨_, rfl, lt_of_block hg, ?_⟩
    have := h.cellAt i (by omega)
    rw [show (Addr.add ⟨g, 0, none⟩ i) = ⟨g, i, none⟩ by (simp [Addr.add]; exact fun h => h.symm), this]
    simp [List.getD, hi]
end Go.Proofs.YtllcakiomihipaaGreatDoor.V
namespace Go.Proofs.YtllcakiomihipaaGreatDoor
open Go.ChangeShapes Go.WideShapes Go.ChangeAt Go.RowKit
set_option linter.unusedVariables false
set_option linter.unusedSimpArgs false
section
variable {w0 w w' W : World} {L : BLoc} {X : SLoc} {nd B : Nat} {A : List Nat} {F : Nat → Nat → Value} {l : List Int}
theorem ga_start (h : GS w0 w L X nd B A F l) (y : Int) (i : Nat) (hy : Hid (y = (i : Int))) (hi : i < nd) (bd : Int) (hr : rightB 5 y 0 0 bd = true) (o a : Int) (vs vr : Value) (hE : ErrsAt vs vr w0) : Calls Tryz.prog 32 #[.pointer (some ⟨X.s, 0, none⟩), (Value.agg #[.int .i64 5, .int .i64 y, .int .i64 0, .int .i64 0, .int .u32 bd]), (Value.agg #[.int .u32 o, .int .u32 a, .int .u32 0, .int .u32 0, .int .i64 0, .int .i64 0, .int .i64 0, .int .i64 0, .int .u32 0, .int .i64 0, .int .i64 0, .int .i64 0, .int .i64 0, .int .u32 0, .int .i64 0, .int .i64 0, .int .i64 0, .int .i64 0, .int .u32 0])] w fun e w' => e = .returned (.tuple #[(Value.agg #[.int .u32 0, .int .u32 0, .int .u32 0, .int .u32 0, .int .i64 0, .int .i64 0, .int .i64 0, .int .i64 0, .int .u32 0, .int .i64 0, .int .i64 0, .int .i64 0, .int .i64 0, .int .u32 0, .int .i64 0, .int .i64 0, .int .i64 0, .int .i64 0, .int .u32 0]), .bool false]) ∧ Below w.heap.size w w' :=
  oanswer_no X.s 5 y 0 0 bd 5 y 0 0 bd o a 0 0 0 0 0 0 0 0 0 0 0 0 0 0 0 0 0 0 0 0 0 0 0 0 0 0 0 0 0 0 0 0 rfl w (fun W hW => (h.below hW).seen_start y i hy hi bd hr vs vr hE) (fun W hW => oseen_void X.s vs vr W ((h.errs hE).below hW)) (fun W hW => oseen_void X.s vs vr W ((h.errs hE).below hW)) (fun W hW => oseen_void X.s vs vr W ((h.errs hE).below hW))
/-- The row of who is sent that. -/
def T1 (a bd : Int) : Nat → Value := RW (tRg (fun _ => 0) 4 a 0 0 bd) 0 3 0 (tKk (fun _ _ => 0) 0 0 0 0 0 0 0 0 0 0 0 0 0 0 0 0 0 0 0 0) 0
theorem GS.all (h : GS w0 w L X nd B A F l) (n : Nat) (hn : l.length = n) (hm : n ≤ 1000) : Calls Tryz.prog 19 #[.pointer (some ⟨X.q, 0, none⟩)] w fun e w' => (∃ a c, e = .returned (.slice a n c) ∧ V.RI w' a l) ∧ Below w.heap.size w w' := by
  obtain ⟨b, S, _, h3, _⟩ := h.q
  refine (V.qall_is (Lib.hid hn) (by omega) w h3).mono ?_
  rintro e w9 ⟨a, c, h1, h2, h4⟩
  exact ⟨⟨a, c, h1, V.own_ri h2 hn⟩, h4⟩
end
end Go.Proofs.YtllcakiomihipaaGreatDoor
namespace Go.Proofs.YtllcakiomihipaaGreatDoor
open Go.ChangeShapes Go.WideShapes Go.ChangeAt Go.RowKit
set_option linter.unusedVariables false
set_option linter.unusedSimpArgs false
section
variable {w0 wb w w' W : World} {L : BLoc} {X : SLoc} {nd B : Nat} {A : List Nat} {F : Nat → Nat → Value} {l : List Int} {J NB : Nat} {rg : Nat → Int} {pc st ft : Int} {kk : Nat → Nat → Int} {wt : Int} {f f' : Nat → Value}
theorem GB.congr {W : World} {g : Nat → Value} (h : GB w0 wb W L X nd B A F l J f) (hf : ∀ j, j < 107 → f j = g j) : GB w0 wb W L X nd B A F l J g :=
  ⟨h.gs, h.gk, by
    have e : rowL f = rowL g := List.map_congr_left (fun j hj => hf j (List.mem_range.1 hj))
    rw [← e]; exact h.r, h.th, h.xj, h.nj⟩
theorem setF_at (F : Nat → Nat → Value) (i : Nat) (g : Nat → Value) : setF F i g i = g := if_pos rfl
end
end Go.Proofs.YtllcakiomihipaaGreatDoor
namespace Go.Proofs.YtllcakiomihipaaGreatDoor
open Go.ChangeShapes Go.WideShapes Go.ChangeAt Go.RowKit
set_option linter.unusedVariables false
set_option linter.unusedSimpArgs false
section
variable {w0 w w' W : World} {L : BLoc} {X : SLoc} {nd B : Nat} {A : List Nat} {F : Nat → Nat → Value} {l : List Int}
theorem right_start3 : rightB 5 3 0 0 0 = true := by decide
/-- Domain 3 calls itself. -/
theorem states_self (h : GS w0 w L X 4 B A F l) (hF : Hid (F 3 = RW (fun _ => 0) 0 3 0 (fun _ _ => 0) 0)) (hl : l.length ≤ 1000) (vs vr : Value) (hE : ErrsAt vs vr w0) :
    Calls Tryz.prog 12 #[.pointer (some ⟨X.s, 0, none⟩), .int .i64 3, .int .i64 0, (Value.agg #[.int .i64 5, .int .i64 3, .int .i64 0, .int .i64 0, .int .u32 0]), (Value.agg #[.int .u32 0, .int .u32 0, .int .u32 0, .int .u32 0, .int .i64 0, .int .i64 0, .int .i64 0, .int .i64 0, .int .u32 0, .int .i64 0, .int .i64 0, .int .i64 0, .int .i64 0, .int .u32 0, .int .i64 0, .int .i64 0, .int .i64 0, .int .i64 0, .int .u32 0])] w fun e w' => e = .returned (.tuple #[.agg ([.int .i64 2, .int .i64 3, .int .u32 0, .int .u32 0, .int .u32 0, .int .u32 0, .int .i64 0, .int .i64 0, .int .i64 0, .int .i64 0, .int .u32 0, .int .i64 0, .int .i64 0, .int .i64 0, .int .i64 0, .int .u32 0, .int .i64 0, .int .i64 0, .int .i64 0, .int .i64 0, .int .u32 0] : List Value).toArray, .nilIface]) ∧ (∃ F', F' 3 = RW (fun _ => 0) 4294967295 4 0 (fun _ _ => 0) 0 ∧ GS w0 w' L X 4 B A F' (V.offI l 3)) ∧ GK A w w' := by
  refine (inv_stall h 3 3 (Lib.hid rfl) (by decide) (fun _ => 0) 0 0 (fun _ _ => 0) 0 hF 0 (by decide) (by decide) (by unfold V.wfI; decide) hl 5 3 0 0 0 0 0 0 0 0 0 0 0 0 0 0 0 0 0 0 0 0 0 0 0 0 0 0 0 (fun W hW => oseen_void X.s vs vr W (hW.errs hE)) 0 0 0 0 0 (fun W hW => oseen_void X.s vs vr W (hW.errs hE)) 0 0 0 0 0 (fun W hW => oseen_void X.s vs vr W (hW.errs hE)) 5 3 0 0 0 (fun W hW => hW.seen_start 3 3 (Lib.hid rfl) (by decide) 0 right_start3 vs vr hE) rfl (fun W hW => ga_start hW 3 3 (Lib.hid rfl) (by decide) 0 right_start3 0 0 vs vr hE) (fun W hW => avail_is hW 3 3 (Lib.hid rfl) (by decide) (fun _ => 0) 0 3 0 (fun _ _ => 0) 0 hF) (fun B' F' l' => B' = B ∧ F' 3 = RW (fun _ => 0) 4294967295 4 0 (fun _ _ => 0) 0 ∧ l' = V.offI l 3) (fun A' W hW => ?_)).mono ?_
  · refine (stall_self hW 3 3 (Lib.hid rfl) (by decide) (fun _ => 0) 0 3 0 (fun _ _ => 0) 0 hF (Lib.hid (fun _ _ => (show rightB 0 0 0 0 0 = true by decide))) (by decide) (by decide) (by decide) (by decide) vs vr hE).mono ?_
    rintro e w9 ⟨h1, h2, h3⟩
    exact ⟨h1, ⟨_, _, _, ⟨rfl, setF_at _ _ _, rfl⟩, h2⟩, h3⟩
  · rintro e w9 ⟨rfl, ⟨B', F', l', ⟨rfl, h1, rfl⟩, hg⟩, hk⟩
    exact ⟨rfl, ⟨F', h1, hg⟩, hk⟩
theorem off_not (l : List Int) (x : Int) : (V.offI l x).contains x = false := by
  unfold V.offI
  rw [List.contains_eq_any_beq]
  rw [List.any_eq_false]
  intro y hy
  simp at hy
  simp
  exact fun e => hy.2 e.symm
end
set_option maxRecDepth 100000 in
set_option maxHeartbeats 2000000 in
theorem states_walk (a0 a1 : Int) (r : Nat) (hr : r < 4) (CR : ∀ w, Calls Tryz.prog 8 #[.int .i64 a0, .int .i64 4] w fun e w' => e = .returned (.int .i64 r) ∧ w = w') (g1 : -9223372036854775808 ≤ a1 ∧ a1 ≤ 9223372036854775807) (A : Nat → Addr) (w : World) (hS : Sen A w) (vs vr : Value) (hE : ErrsAt vs vr w) :
    Calls Tryz.prog 3 #[.int .i64 a0, .int .i64 a1] w fun e w' => e = .returned (.bool true) ∧ Below w.heap.size w w' := by
  have HS := Lib.hid hS
  have HE := Lib.hid hE
  have HC := Lib.hid CR
  obtain ⟨st, hst⟩ : ∃ st : Int, st = (r : Int) + 1 := ⟨_, rfl⟩
  have hw1 : IntKind.i64.wrap ((r : Int) + 1) = st := by rw [IntKind.wrap_i64]; omega
  have hs1 : 1 ≤ st := by omega
  have hs4 : st ≤ 4 := by omega
  clear hS hE CR hst
  go_enter Tryz.func3, Tryz.ntmps3
  go_upto_region 6 with (first
    | (go_at_call 7; (with_reducible refine (gs_first vs vr _ HE.out).mono ?_); rintro e w1 ⟨rfl, hb⟩; have HB1 := Lib.hid hb; have HE1 := Lib.hid (HE.out.below hb); have HS1 := Lib.hid (HS.out.below hb); clear hb)
    | (go_at_call 8; (with_reducible refine (HC.out _).mono ?_); rintro e w2 ⟨rfl, rfl⟩)
    | (go_at_call 9; (with_reducible refine (two_is vs vr _ HE1.out).mono ?_); rintro e w3 ⟨L, X, rfl, hg⟩; have H3 := Lib.hid hg; have c1 := hg.c1; clear hg))
  have HOneF : Hid (∀ j, j < 107 → (F1 2 j).oneCell' = true) := Lib.hid (fun j _ => RW_one (fun _ => 0) 0 1 0 (fun _ _ => 0) 0 j)
  obtain ⟨rg, kk, hFr, hRr⟩ : ∃ (rg : Nat → Int) (kk : Nat → Nat → Int), Hid (F1 2 = RW rg 0 1 0 kk 0) ∧ Hid (∀ q, q < 19 → KRight kk q) := ⟨fun _ => 0, fun _ _ => 0, Lib.hid rfl, (Lib.hid (fun _ _ => (show rightB 0 0 0 0 0 = true by decide)))⟩
  have HG := Lib.hid (H3.out.get 2 2 (Lib.hid rfl) (by decide) HOneF)
  go_upto_region 7 with (first
    | (go_at_call 10; (with_reducible refine HG.out.mono ?_); rintro e w4 ⟨rfl, hb⟩; have HB4 := Lib.hid hb; clear hb)
    | (refine wpList_store_mid (by rfl) _ _ _ (by rfl) w4.heap.size 0 (rowL (F1 2)).toArray (by rfl) (by rfl) (by rw [rowL_size]; exact nthere_new _ _ 107 zsize _) (by rw [rowL_size]; exact infoDomS) (rowL_one (F1 2) HOneF.out) ?_))
  generalize hg : World.setCells _ w4.heap.size 0 _ = w5
  obtain ⟨J, hJ⟩ : ∃ J, J = w4.heap.size := ⟨_, rfl⟩
  have H5 : Hid (GB w1 w3 w5 L X 4 0 [] F1 [] J (RW rg 0 1 0 kk 0)) := Lib.hid (by rw [← hg, hJ, ← hFr.out]; exact GB.made H3.out HB4.out (F1 2) _ zsize _)
  rw [← hJ]
  clear hg hJ c1
  have j9 := H5.out.cell 9 (by decide)
  have z9 := H5.out.free 9 (by decide)
  go_upto_region 8 with fail
  generalize hg : World.setCell w5 _ _ = w6
  have H6 : Hid (GB w1 w3 w6 L X 4 0 [] F1 [] J (RW rg 0 st 0 kk 0)) := Lib.hid (by rw [← hg, ← RW_st rg 0 1 0 kk 0 st]; exact H5.out.set 9 _)
  clear hg j9 z9
  have HSC : Hid (∀ W, Below w6.heap.size w6 W → (World.cell? W ⟨X.s, 1, none⟩ = some (.pointer (some ⟨L.dP, 0, none⟩)) ∧ World.rangeAt W J 0 (rowL (RW rg 0 st 0 kk 0)))) := (Lib.hid (fun W hW => ⟨((H6.out).below hW).gs.c1, ((H6.out).below hW).r⟩)); obtain ⟨wD, hwD⟩ : ∃ wD, wD = w6.drew := ⟨_, rfl⟩; have HBd : Hid (Below w6.heap.size w6 wD) := (Lib.hid (by rw [hwD]; exact (Below.refl _ _).drew)); refine wp_region_noPanic ?_; refine wp_region_held_drew (S := fun W => (World.cell? W ⟨X.s, 1, none⟩ = some (.pointer (some ⟨L.dP, 0, none⟩)) ∧ World.rangeAt W J 0 (rowL (RW rg 0 st 0 kk 0)))) (by kernel_rfl) (by rw [← hwD]; exact HSC.out _ HBd.out) (fun hHeld => ?_); rw [← hwD] at hHeld ⊢; clear hwD; refine wpAnyH_take (i := 0) (v := ?_) (by rfl) (by kernel_rfl) (by kernel_rfl) (by kernel_rfl) (fun _ _ _ h => h) (Or.inl ⟨by kernel_rfl, ?_⟩) (by assumption) ?_; rotate_left 1; (focus (intro w hSw; (try dsimp only at hSw); simp only [List.getElem_toArray, List.getElem_cons_succ, List.getElem_cons_zero]; all_goals go_simp; all_goals (try with_reducible rfl))); (try simp only [Act.put, List.getElem_toArray, List.getElem_cons_succ, List.getElem_cons_zero, List.setIfInBounds_toArray, List.set_cons_zero, List.set_cons_succ]); refine wpAnyH_take (i := 1) (v := ?_) (by rfl) (by kernel_rfl) (by kernel_rfl) (by kernel_rfl) (fun _ _ _ h => h) (Or.inl ⟨by kernel_rfl, ?_⟩) (by assumption) ?_; rotate_left 1; (focus (intro w hSw; (try dsimp only at hSw); simp only [List.getElem_toArray, List.getElem_cons_succ, List.getElem_cons_zero]; all_goals go_simp; all_goals (try with_reducible rfl))); (try simp only [Act.put, List.getElem_toArray, List.getElem_cons_succ, List.getElem_cons_zero, List.setIfInBounds_toArray, List.set_cons_zero, List.set_cons_succ]); refine wpAnyH_take (i := 2) (v := ?_) (by rfl) (by kernel_rfl) (by kernel_rfl) (by kernel_rfl) (fun _ _ _ h => h) (Or.inl ⟨by kernel_rfl, ?_⟩) (by assumption) ?_; rotate_left 1; (focus (intro w hSw; (try dsimp only at hSw); simp only [List.getElem_toArray, List.getElem_cons_succ, List.getElem_cons_zero]; all_goals go_simp; all_goals (try with_reducible rfl))); (try simp only [Act.put, List.getElem_toArray, List.getElem_cons_succ, List.getElem_cons_zero, List.setIfInBounds_toArray, List.set_cons_zero, List.set_cons_succ]); refine wpAnyH_take (i := 3) (v := ?_) (by rfl) (by kernel_rfl) (by kernel_rfl) (by kernel_rfl) (fun _ _ _ h => h) (Or.inl ⟨by kernel_rfl, ?_⟩) (by assumption) ?_; rotate_left 1; (focus (intro w hSw; (try dsimp only at hSw); simp only [List.getElem_toArray, List.getElem_cons_succ, List.getElem_cons_zero]; all_goals go_simp; all_goals (try with_reducible rfl))); (try simp only [Act.put, List.getElem_toArray, List.getElem_cons_succ, List.getElem_cons_zero, List.setIfInBounds_toArray, List.set_cons_zero, List.set_cons_succ]); refine wpAnyH_take (i := 4) (v := .agg (rowL (RW rg 0 st 0 kk 0)).toArray) (by rfl) (by kernel_rfl) (by kernel_rfl) (by kernel_rfl) (fun _ _ _ h => h) (yieldsIf_load_mid (by kernel_rfl) 34 (.tmp 7) (by rfl) J 0 (by rfl) (rowL (RW rg 0 st 0 kk 0)) _ (fun w h => h.2) Tryz.underlying34 rfl (by rw [rowL_len]; exact infoDomS)) (by assumption) ?_; (try simp only [Act.put, List.getElem_toArray, List.getElem_cons_succ, List.getElem_cons_zero, List.setIfInBounds_toArray, List.set_cons_zero, List.set_cons_succ]); refine wpAnyH_ready (rs := [5]) (by kernel_rfl) (by simp) ?_; refine AllReadyH.cons (by rfl) (fun K hK => ?_) AllReadyH.nil; rw [if_pos (by kernel_rfl)]; simp only [List.getElem_toArray, List.getElem_cons_succ, List.getElem_cons_zero]; go_wp2_with (first | (go_at_call 11; (with_reducible refine (((H6.out.gs.below HBd.out).put 2 2 (Lib.hid rfl) (by decide) rg 0 st 0 kk 0 hRr hs1 hs4 (by decide) (by decide) (by decide) (by decide) vs vr HE1.out)).mono ?_); rintro e w4 ⟨rfl, hgs, hgk⟩; have H4 := Lib.hid hgs; have K4 := Lib.hid hgk; clear hgs hgk)); refine hK.out _ _ ⟨H4.out.c1, range_same ((H6.out).below HBd.out).r (K4.out.eq J (by simp))⟩ (fun hHeld => ?_); clear hK K; (try simp only [Act.put, List.getElem_toArray, List.getElem_cons_succ, List.getElem_cons_zero, List.setIfInBounds_toArray, List.set_cons_zero, List.set_cons_succ]); refine wpAnyH_done (by kernel_rfl) ?_ _; refine NoPanic.normal ?_
  have HF2 : Hid (GS w1 w4 L X 4 0 [J] (setF F1 2 (RW rg 0 st 0 kk 0)) []) := H4
  clear H5 H6 H4
  have HI := Lib.hid (inv_two HF2.out 2 2 (Lib.hid rfl) (by decide) st rg 0 0 kk 0 (Lib.hid (setF_at _ _ _)) hRr (by decide) (by decide) (by decide) (by decide) (by unfold V.wfI; decide) (by decide) (by decide) vs vr HE1.out _ HS1.out.c8 14 0 0 0 0 (fun W hW => oseen_live 14 0 0 0 0 W (fun V hV => nvalid_ok 14 0 0 0 0 (Lib.hid (by decide)) vs vr V ((hW.errs HE1.out).below hV)) (fun V hV => slive_plain X.s 14 0 0 0 0 (by decide) V)) 0 0 (fun W hW => ga_clock hW vs vr HE1.out))
  go_upto_region 10 with (first
    | (go_at_call 12; (with_reducible refine HI.out.mono ?_); rintro e w5 ⟨⟨r1, y1, hl1, ho1, rfl, hy1⟩, ⟨B1, l1, hB1, hL1, hg⟩, hk⟩; have H5 := Lib.hid hg; have R1 := Lib.hid (show r1.toArray.size = 21 ∧ _ from And.intro (by rw [List.size_toArray]; exact hl1) ho1); have HY1 := Lib.hid hy1; have HL1 := Lib.hid (And.intro hB1 hL1); clear hg hk hl1 ho1 hy1 hB1 hL1)
    | (refine wpList_store_mid (by rfl) _ _ _ (by rfl) w5.heap.size 0 r1.toArray (by rfl) (by rfl) (by rw [R1.out.1]; exact nthere_new _ _ 21 (by rfl) _) (by rw [R1.out.1]; exact resInfo) R1.out.2 ?_; generalize hg : World.setCells _ w5.heap.size 0 _ = w6))
  have H6 := Lib.hid (show GS w1 w6 L X 4 B1 [J] (setF F1 2 (RW rg 0 st 0 kk 0)) l1 by rw [← hg]; exact H5.out.below (nbelow_cells ((Below.refl _ _).alloc (Nat.le_refl _) _) (Nat.le_refl _) _ _))
  clear hg H5 HI
  have HI := Lib.hid (inv_how H6.out 0 0 (Lib.hid rfl) (by decide) a1 (fun _ => 0) 0 0 (fun _ _ => 0) 0 (Lib.hid rfl) (Lib.hid (fun _ _ => (show rightB 0 0 0 0 0 = true by decide))) (by decide) (by decide) (by decide) (by decide) (by unfold V.wfI; decide) (by have := HL1.out.2; simp at this; omega) (by have := HL1.out.1; omega) vs vr HE1.out _ HS1.out.c2 0 0 0 0 0 (fun W hW => oseen_void X.s vs vr W (hW.errs HE1.out)) 1 0 (fun W hW => ga_void hW vs vr HE1.out))
  go_upto_region 11 with (first
    | (go_at_call 12; (with_reducible refine HI.out.mono ?_); rintro e w7 ⟨⟨r2, y2, hl2, ho2, rfl, hy2⟩, ⟨B2, F2, l2, hB2, hL2, hF2, hg⟩, hk⟩; have H7 := Lib.hid hg; have R2 := Lib.hid (show r2.toArray.size = 21 ∧ _ from And.intro (by rw [List.size_toArray]; exact hl2) ho2); have HY2 := Lib.hid hy2; have HL2 := Lib.hid (And.intro hB2 (And.intro hL2 (hF2 3 (by decide)))); clear hg hk hl2 ho2 hy2 hB2 hL2 hF2)
    | (refine wpList_store_mid (by rfl) _ _ _ (by rfl) w7.heap.size 0 r2.toArray (by rfl) (by rfl) (by rw [R2.out.1]; exact nthere_new _ _ 21 (by rfl) _) (by rw [R2.out.1]; exact resInfo) R2.out.2 ?_; generalize hg : World.setCells _ w7.heap.size 0 _ = w8))
  have H8 := Lib.hid (show GS w1 w8 L X 4 B2 [J] F2 l2 by rw [← hg]; exact H7.out.below (nbelow_cells ((Below.refl _ _).alloc (Nat.le_refl _) _) (Nat.le_refl _) _ _))
  clear hg H7 HI
  have HI := Lib.hid (inv_none H8.out 5 5 (Lib.hid rfl) (by decide) 0 0 0 0 0 0 0 0 0 0 0 0 0 0 0 0 0 0 0 0 0 0 0 0 0 _ HS1.out.c4)
  go_upto_region 12 with (first
    | (go_at_call 12; (with_reducible refine HI.out.mono ?_); rintro e w9 ⟨rfl, hg, hk⟩; have H9 := Lib.hid hg; clear hg hk)
    | (refine wpList_store_mid (by rfl) _ _ _ (by rfl) w9.heap.size 0 [.int .i64 0, .int .i64 0, .int .u32 0, .int .u32 0, .int .u32 0, .int .u32 0, .int .i64 0, .int .i64 0, .int .i64 0, .int .i64 0, .int .u32 0, .int .i64 0, .int .i64 0, .int .i64 0, .int .i64 0, .int .u32 0, .int .i64 0, .int .i64 0, .int .i64 0, .int .i64 0, .int .u32 0].toArray (by rfl) (by rfl) (nthere_new _ _ 21 (by rfl) _) resInfo (by simp [Value.oneCell']) ?_; generalize hg : World.setCells _ w9.heap.size 0 _ = w10))
  have H10 := Lib.hid (show GS w1 w10 L X 4 B2 [J] F2 l2 by rw [← hg]; exact H9.out.below (nbelow_cells ((Below.refl _ _).alloc (Nat.le_refl _) _) (Nat.le_refl _) _ _))
  clear hg H9 HI
  have HSn := Lib.hid (HS1.out.below H10.out.bel)
  have HL10 := Lib.hid (show B2 ≤ 1000 ∧ l2.length ≤ 1000 by have h1 := HL1.out; have h2 := HL2.out; have h3 : ([] : List Int).length = 0 := rfl; omega)
  have HF3 : Hid (F2 3 = RW (fun _ => 0) 0 1 0 (fun _ _ => 0) 0) := Lib.hid (HL2.out.2.2.trans rfl)
  clear HF2 H6 H8 R1 R2 HL1 HL2 H3 HOneF HG hFr
  have HB : Hid (Below w10.heap.size w10 w10) := Lib.hid (Below.refl _ _)
  have HI8 := Lib.hid (fun W (h : Below w10.heap.size w10 W) => is_sen A 8 109 (by decide) (Lib.hid rfl) W (HSn.out.below h))
  have HI2 := Lib.hid (fun W (h : Below w10.heap.size w10 W) => is_sen A 2 103 (by decide) (Lib.hid rfl) W (HSn.out.below h))
  have HI4 := Lib.hid (fun W (h : Below w10.heap.size w10 W) => is_sen A 4 105 (by decide) (Lib.hid rfl) W (HSn.out.below h))
  go_cut [101] (fun u wx => u = .bool false ∧ Below w10.heap.size w10 wx)
  case first =>
    have h1 := HY1.out
    have h2 := HY2.out
    clear HY1 HY2 H10 HL10 HF3 HSn HS HS1 HE HE1 HC HB1
    rcases h1 with ⟨h1, rfl⟩ | ⟨h1, rfl⟩
    · have e3 : (st == 3) = true := by rw [h1]; rfl
      clear h1 hs1 hs4
      rcases h2 with ⟨⟨h2, h3⟩, rfl⟩ | ⟨h2 | h2, rfl⟩
      · have d1 : decide (0 ≤ a1) = true := decide_eq_true h2
        have d2 : decide (a1 ≤ 2) = true := decide_eq_true h3
        clear h2 h3
        go_wp2_with (first
        | (go_at_call 13; (with_reducible refine (HI8.out _ HB.out).mono ?_); rintro e wI ⟨rfl, hb⟩; have HB := Lib.hid (HB.out.trans (hb.mono HB.out.size)); clear hb)
        | (go_at_call 13; (with_reducible refine (HI2.out _ HB.out).mono ?_); rintro e wI ⟨rfl, hb⟩; have HB := Lib.hid (HB.out.trans (hb.mono HB.out.size)); clear hb)
        | (go_at_call 13; (with_reducible refine (HI4.out _ HB.out).mono ?_); rintro e wI ⟨rfl, hb⟩; have HB := Lib.hid (HB.out.trans (hb.mono HB.out.size)); clear hb))
        go_meet
        exact ⟨rfl, HB.out⟩
      · have d1 : decide (0 ≤ a1) = false := decide_eq_false (by omega)
        clear h2
        go_wp2_with (first
        | (go_at_call 13; (with_reducible refine (HI8.out _ HB.out).mono ?_); rintro e wI ⟨rfl, hb⟩; have HB := Lib.hid (HB.out.trans (hb.mono HB.out.size)); clear hb)
        | (go_at_call 13; (with_reducible refine (HI2.out _ HB.out).mono ?_); rintro e wI ⟨rfl, hb⟩; have HB := Lib.hid (HB.out.trans (hb.mono HB.out.size)); clear hb)
        | (go_at_call 13; (with_reducible refine (HI4.out _ HB.out).mono ?_); rintro e wI ⟨rfl, hb⟩; have HB := Lib.hid (HB.out.trans (hb.mono HB.out.size)); clear hb))
        go_meet
        exact ⟨rfl, HB.out⟩
      · have d1 : decide (0 ≤ a1) = true := decide_eq_true (by omega)
        have d2 : decide (a1 ≤ 2) = false := decide_eq_false (by omega)
        clear h2
        go_wp2_with (first
        | (go_at_call 13; (with_reducible refine (HI8.out _ HB.out).mono ?_); rintro e wI ⟨rfl, hb⟩; have HB := Lib.hid (HB.out.trans (hb.mono HB.out.size)); clear hb)
        | (go_at_call 13; (with_reducible refine (HI2.out _ HB.out).mono ?_); rintro e wI ⟨rfl, hb⟩; have HB := Lib.hid (HB.out.trans (hb.mono HB.out.size)); clear hb)
        | (go_at_call 13; (with_reducible refine (HI4.out _ HB.out).mono ?_); rintro e wI ⟨rfl, hb⟩; have HB := Lib.hid (HB.out.trans (hb.mono HB.out.size)); clear hb))
        go_meet
        exact ⟨rfl, HB.out⟩
    · have e3 : (st == 3) = false := by simpa using h1
      clear h1 hs1 hs4
      rcases h2 with ⟨⟨h2, h3⟩, rfl⟩ | ⟨h2 | h2, rfl⟩
      · have d1 : decide (0 ≤ a1) = true := decide_eq_true h2
        have d2 : decide (a1 ≤ 2) = true := decide_eq_true h3
        clear h2 h3
        go_wp2_with (first
        | (go_at_call 13; (with_reducible refine (HI8.out _ HB.out).mono ?_); rintro e wI ⟨rfl, hb⟩; have HB := Lib.hid (HB.out.trans (hb.mono HB.out.size)); clear hb)
        | (go_at_call 13; (with_reducible refine (HI2.out _ HB.out).mono ?_); rintro e wI ⟨rfl, hb⟩; have HB := Lib.hid (HB.out.trans (hb.mono HB.out.size)); clear hb)
        | (go_at_call 13; (with_reducible refine (HI4.out _ HB.out).mono ?_); rintro e wI ⟨rfl, hb⟩; have HB := Lib.hid (HB.out.trans (hb.mono HB.out.size)); clear hb))
        go_meet
        exact ⟨rfl, HB.out⟩
      · have d1 : decide (0 ≤ a1) = false := decide_eq_false (by omega)
        clear h2
        go_wp2_with (first
        | (go_at_call 13; (with_reducible refine (HI8.out _ HB.out).mono ?_); rintro e wI ⟨rfl, hb⟩; have HB := Lib.hid (HB.out.trans (hb.mono HB.out.size)); clear hb)
        | (go_at_call 13; (with_reducible refine (HI2.out _ HB.out).mono ?_); rintro e wI ⟨rfl, hb⟩; have HB := Lib.hid (HB.out.trans (hb.mono HB.out.size)); clear hb)
        | (go_at_call 13; (with_reducible refine (HI4.out _ HB.out).mono ?_); rintro e wI ⟨rfl, hb⟩; have HB := Lib.hid (HB.out.trans (hb.mono HB.out.size)); clear hb))
        go_meet
        exact ⟨rfl, HB.out⟩
      · have d1 : decide (0 ≤ a1) = true := decide_eq_true (by omega)
        have d2 : decide (a1 ≤ 2) = false := decide_eq_false (by omega)
        clear h2
        go_wp2_with (first
        | (go_at_call 13; (with_reducible refine (HI8.out _ HB.out).mono ?_); rintro e wI ⟨rfl, hb⟩; have HB := Lib.hid (HB.out.trans (hb.mono HB.out.size)); clear hb)
        | (go_at_call 13; (with_reducible refine (HI2.out _ HB.out).mono ?_); rintro e wI ⟨rfl, hb⟩; have HB := Lib.hid (HB.out.trans (hb.mono HB.out.size)); clear hb)
        | (go_at_call 13; (with_reducible refine (HI4.out _ HB.out).mono ?_); rintro e wI ⟨rfl, hb⟩; have HB := Lib.hid (HB.out.trans (hb.mono HB.out.size)); clear hb))
        go_meet
        exact ⟨rfl, HB.out⟩
  case rest =>
    obtain ⟨rfl, hb⟩ := hcut
    have H11 := Lib.hid (H10.out.below hb)
    clear hb HB HI8 HI2 HI4 HY1 HY2
    have HR := Lib.hid (run_is H11.out 3 3 (Lib.hid rfl) (by decide) (fun _ => 0) 0 1 0 (fun _ _ => 0) 0 HF3 (Lib.hid (fun _ _ => (show rightB 0 0 0 0 0 = true by decide))) (by decide) (by decide) (by decide) (by decide) vs vr HE1.out)
    go_upto_region 15 with (first
      | (go_at_call 14; (with_reducible refine HR.out.mono ?_); rintro e w12 ⟨⟨v, rfl⟩, hg, hk⟩; have H12 := Lib.hid hg; clear hg hk))
    have c1 := H12.out.c1
    have HD := Lib.hid (H12.out.door 3 3 (Lib.hid rfl) (by decide) 0 (by decide))
    go_upto_region 16 with (first
      | (go_at_call 15; (with_reducible refine HD.out.mono ?_); rintro e w13 ⟨rfl, hb⟩; have H13 := Lib.hid (H12.out.below hb); have HI := Lib.hid (states_self H13.out (Lib.hid (setF_at _ _ _)) HL10.out.2 vs vr HE1.out); clear hb c1)
      | (go_at_call 12; (with_reducible refine HI.out.mono ?_); rintro e w14 ⟨rfl, ⟨F4, hF4, hg⟩, hk⟩; have H14 := Lib.hid hg; have HF4 := Lib.hid hF4; clear hg hk hF4)
      | (refine wpList_store_mid (by rfl) _ _ _ (by rfl) w14.heap.size 0 ([.int .i64 2, .int .i64 3, .int .u32 0, .int .u32 0, .int .u32 0, .int .u32 0, .int .i64 0, .int .i64 0, .int .i64 0, .int .i64 0, .int .u32 0, .int .i64 0, .int .i64 0, .int .i64 0, .int .i64 0, .int .u32 0, .int .i64 0, .int .i64 0, .int .i64 0, .int .i64 0, .int .u32 0] : List Value).toArray (by rfl) (by rfl) (nthere_new _ _ 21 (by rfl) _) resInfo (by simp [Value.oneCell']) ?_; generalize hg : World.setCells _ w14.heap.size 0 _ = w15))
    obtain ⟨RB, hRB⟩ : ∃ RB, RB = w14.heap.size := ⟨_, rfl⟩
    have H15 := Lib.hid (show GS w1 w15 L X 4 B2 [J] F4 (V.offI l2 3) ∧ w15.rangeAt RB 0 ([.int .i64 2, .int .i64 3, .int .u32 0, .int .u32 0, .int .u32 0, .int .u32 0, .int .i64 0, .int .i64 0, .int .i64 0, .int .i64 0, .int .u32 0, .int .i64 0, .int .i64 0, .int .i64 0, .int .i64 0, .int .u32 0, .int .i64 0, .int .i64 0, .int .i64 0, .int .i64 0, .int .u32 0] : List Value) by
      rw [← hg, hRB]
      exact ⟨H14.out.below (nbelow_cells ((Below.refl _ _).alloc (Nat.le_refl _) _) (Nat.le_refl _) _ _), World.rangeAt_setCells_same _ _ 0 ([.int .i64 2, .int .i64 3, .int .u32 0, .int .u32 0, .int .u32 0, .int .u32 0, .int .i64 0, .int .i64 0, .int .i64 0, .int .i64 0, .int .u32 0, .int .i64 0, .int .i64 0, .int .i64 0, .int .i64 0, .int .u32 0, .int .i64 0, .int .i64 0, .int .i64 0, .int .i64 0, .int .u32 0] : List Value) (nthere_new _ _ 21 (by rfl) _)⟩)
    rw [← hRB]
    clear hg hRB HI HD HR
    have p0 := CallC.cell H15.out.2 0 _ rfl
    have p1 := CallC.cell H15.out.2 1 _ rfl
    have HST := Lib.hid (state_is H15.out.1 3 3 (Lib.hid rfl) (by decide) (fun _ => 0) 4294967295 4 0 (fun _ _ => 0) 0 HF4)
    go_wp2_with (first
      | (go_at_call 16; (with_reducible refine HST.out.mono ?_); rintro e w16 ⟨rfl, hb⟩; have H16 := Lib.hid (H15.out.1.below hb); have c5 := H16.out.c5; have HHS := Lib.hid (H16.out.has 3 (by unfold V.wfI; decide) false (Lib.hid (off_not l2 3))); clear hb)
      | (go_at_call 17; (with_reducible refine HHS.out.mono ?_); rintro e w17 ⟨rfl, hb⟩; have HB17 := Lib.hid hb; clear hb))
    go_ret
    exact ⟨rfl, (HB1.out.trans (H16.out.bel.mono HB1.out.size)).trans (HB17.out.mono (Nat.le_trans HB1.out.size H16.out.bel.size))⟩
end Go.Proofs.YtllcakiomihipaaGreatDoor
namespace Go.Proofs.YtllcakiomihipaaGreatDoor
open Go.ChangeShapes Go.WideShapes Go.ChangeAt Go.RowKit
set_option linter.unusedVariables false
theorem walk_GateStates (a0 : Int) (a1 : Int) (w : World) (w0 : (Lit.int .i64 a0).wf = true) (w1 : (Lit.int .i64 a1).wf = true) (hL : laidMetH Tryz.prog Rows.gateStatesRow.laid w) :
    Calls Tryz.prog 3 #[.int .i64 a0, .int .i64 a1] w fun e w' => e = .returned (.bool true) ∧ Below w.heap.size w w' := by
  obtain ⟨vs, vr, hE⟩ := (errs2 hL ⟨_, by repeat (first | exact List.Mem.head _ | apply List.Mem.tail)⟩ ⟨_, by repeat (first | exact List.Mem.head _ | apply List.Mem.tail)⟩)
  have hS : Sen (atErr w) w := (sen_of hL (by intro n hn; simp only [List.mem_cons, List.not_mem_nil, or_false] at hn; rcases hn with rfl | rfl | rfl | rfl | rfl | rfl | rfl | rfl | rfl | rfl | rfl | rfl <;> exact ⟨_, by repeat (first | exact List.Mem.head _ | apply List.Mem.tail)⟩))
  clear hL
  obtain ⟨R, hR, CR⟩ := number_nat a0 4 4 rfl (by decide) (by decide) (fit64 w0).1 (fit64 w0).2
  exact states_walk a0 a1 R hR CR (fit64 w1) _ w hS vs vr hE
end Go.Proofs.YtllcakiomihipaaGreatDoor
