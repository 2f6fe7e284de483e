/-
  package hole without factories: look, factory, isHole, Is.
-/
import Derived.Test.YtdfcpgbimihcoaaRef7
import Derived.Test.YtdfcpgbimihcoaaValidZ
import Derived.Maps.OwnSet
import Derived.DeepKeys4
namespace Go.Proofs.Ytdfcpgbimihcoaa
open Go.ChangeShapes Go.WideShapes Go.ChangeAt Go.RowKit Go.Maps
set_option linter.unusedVariables false
theorem look_empty (M c : Nat) (a b : Int) (w : World) (hM : w.heap[M]? = some (.map #[] c)) : (Instr.lookup 60 (.map (some M)) (.agg #[.int .i64 a, .int .i64 b]) true).run Try.prog w = .ok (.tuple #[.int .i64 0, .bool false]) w := by
  have h1 : (Instr.checkKey true 10000 69 (.agg #[.int .i64 a, .int .i64 b])).run Try.prog w = .ok () w := by kernel_rfl
  have h2 : (Instr.findKey 69 (.agg #[.int .i64 a, .int .i64 b]) []).run Try.prog w = .ok none w := by kernel_rfl
  have hz : (zeroValue 3).run Try.prog w = .ok (.int .i64 0) w := by kernel_rfl
  simp [Instr.lookup, run_underlying Try.underlying60, h1, h2, hz, MapKept.run_getObj_map hM, Result.andThen]
theorem make_b (w : World) : (Instr.makeSlice 43 (.int .i64 0) (.int .i64 0)).run Try.prog w = .ok (.slice (some ⟨w.heap.size, 0, none⟩) 0 0) (w.alloc (.cells #[] 4)) := by kernel_rfl
theorem make_i (w : World) : (Instr.makeSlice 70 (.int .i64 0) (.int .i64 0)).run Try.prog w = .ok (.slice (some ⟨w.heap.size, 0, none⟩) 0 0) (w.alloc (.cells #[] 24)) := by kernel_rfl
set_option maxRecDepth 100000 in
set_option maxHeartbeats 4000000 in
theorem look_none (w : World) : Calls Try.prog 28 #[.slice none 0 0] w fun e w' => ∃ M a, e = .returned ((Value.agg #[.map (some (M)), .slice (a) 0 0])) ∧ w'.heap[M]? = some (.map #[] 0) ∧ Below w.heap.size w w' := by
  have hmm := @run_makeMap Try.prog
  have m1 := make_b
  have m2 := make_i
  go_enter Try.func28, Try.ntmps28
  go_wp2
  refine wp_loop_rounds 1 ?_
  rw [rounds_succ]
  go_wp2
  refine wp_loop_rounds 1 ?_
  rw [rounds_succ]
  go_wp2
  refine wp_loop_rounds 1 ?_
  rw [rounds_succ]
  go_wp2
  refine bodyPost_ret (v := (Value.agg #[.map (some (w.heap.size + 1)), .slice (some ⟨w.heap.size + 1 + 1, 0, none⟩) 0 0])) (by simp [results, Try.results28, go_sem]) rfl ⟨_, _, rfl, ?_, ?_⟩
  · have h := heap_alloc_new (w.alloc (.cells #[.map (some (w.heap.size + 1)), .slice (some ⟨w.heap.size + 1 + 1, 0, none⟩) 0 0] 62)) (.map #[] 0)
    have e : (w.alloc (.cells #[.map (some (w.heap.size + 1)), .slice (some ⟨w.heap.size + 1 + 1, 0, none⟩) 0 0] 62)).heap.size = w.heap.size + 1 := by simp
    rw [e] at h
    exact (Below.heap_alloc _ _ _ (by first | (simp; done) | (simp; omega))).trans ((Below.heap_alloc _ _ _ (by first | (simp; done) | (simp; omega))).trans ((Below.heap_alloc _ _ _ (by first | (simp; done) | (simp; omega))).trans h))
  · exact (((((Below.refl _ _).alloc (Nat.le_refl _) _).alloc (by simp) _).alloc (by simp; omega) _).alloc (by simp; omega) _).alloc (by simp; omega) _
theorem factory_is (k0 k1 k2 k3 k4 : Int) (M : Nat) (a : Option Addr) (w : World) (hM : w.heap[M]? = some (.map #[] 0)) :
    Calls Try.prog 31 #[(Value.agg #[.map (some (M)), .slice (a) 0 0]), (Value.agg #[.int .i64 k0, .int .i64 k1, .int .i64 k2, .int .i64 k3, .int .u32 k4])] w fun e w' => e = .returned (.tuple #[.int .i64 0, .bool false]) ∧ Below w.heap.size w w' := by
  by_cases h9 : k0 = 9
  · subst h9
    have hl : (Instr.lookup 60 (.map (some M)) (.agg #[.int .i64 k1, .int .i64 k2]) true).run Try.prog ((w.alloc (.cells #[.map (some M), .slice a 0 0] 62)).alloc (.cells #[.int .i64 9, .int .i64 k1, .int .i64 k2, .int .i64 k3, .int .u32 k4] 47)) = .ok (.tuple #[.int .i64 0, .bool false]) ((w.alloc (.cells #[.map (some M), .slice a 0 0] 62)).alloc (.cells #[.int .i64 9, .int .i64 k1, .int .i64 k2, .int .i64 k3, .int .u32 k4] 47)) := look_empty M 0 k1 k2 _ (by
      have hlt : M < w.heap.size := by
        rcases Nat.lt_or_ge M w.heap.size with h' | h'
        · exact h'
        · simp [Array.getElem?_eq_none h'] at hM
      exact (Below.heap_alloc _ _ _ (by simp; omega)).trans ((Below.heap_alloc _ _ _ hlt).trans hM))
    clear hM
    go_enter Try.func31, Try.ntmps31
    go_wp2
    go_ret2
    exact ⟨rfl, ((Below.refl _ _).alloc (Nat.le_refl _) _).alloc (by simp) _⟩
  · have e9 : (k0 == 9) = false := by simpa using h9
    clear hM
    go_enter Try.func31, Try.ntmps31
    go_wp2
    go_ret2
    exact ⟨rfl, ((Below.refl _ _).alloc (Nat.le_refl _) _).alloc (by simp) _⟩
def Sens (k0 k1 k2 k3 k4 : Int) (t : Bool) : Prop := ∀ W, Calls Try.prog 32 #[(Value.agg #[.int .i64 k0, .int .i64 k1, .int .i64 k2, .int .i64 k3, .int .u32 k4])] W fun e w' => e = .returned (.bool t) ∧ Below W.heap.size W w'
theorem Sens.at {k0 k1 k2 k3 k4 : Int} {t : Bool} (h : Sens k0 k1 k2 k3 k4 t) (W : World) : Calls Try.prog 32 #[(Value.agg #[.int .i64 k0, .int .i64 k1, .int .i64 k2, .int .i64 k3, .int .u32 k4])] W fun e w' => e = .returned (.bool t) ∧ Below W.heap.size W w' := h W
set_option maxRecDepth 100000 in
theorem ishole_is (k0 k1 k2 k3 k4 : Int) (t : Bool) (M : Nat) (a : Option Addr) (hS : Sens k0 k1 k2 k3 k4 t) (w : World) (hM : w.heap[M]? = some (.map #[] 0)) :
    Calls Try.prog 29 #[(Value.agg #[.map (some (M)), .slice (a) 0 0]), (Value.agg #[.int .i64 k0, .int .i64 k1, .int .i64 k2, .int .i64 k3, .int .u32 k4])] w fun e w' => e = .returned (.bool (!t)) ∧ Below w.heap.size w w' := by
  have hlt : M < w.heap.size := by
    rcases Nat.lt_or_ge M w.heap.size with h' | h'
    · exact h'
    · simp [Array.getElem?_eq_none h'] at hM
  have HM : Hid (((w.alloc (.cells #[.map (some M), .slice a 0 0] 62)).alloc (.cells #[.int .i64 k0, .int .i64 k1, .int .i64 k2, .int .i64 k3, .int .u32 k4] 47)).heap[M]? = some (.map #[] 0)) := Lib.hid ((Below.heap_alloc _ _ _ (by simp; omega)).trans ((Below.heap_alloc _ _ _ hlt).trans hM))
  have HS := Lib.hid hS
  clear hM hS
  go_enter Try.func29, Try.ntmps29
  go_wp2_with (first
    | (go_at_call 31; (with_reducible refine (factory_is k0 k1 k2 k3 k4 M a _ HM.out).mono ?_); rintro e w1 ⟨rfl, hb⟩; obtain ⟨hc, hf⟩ := bcell hb; have HB := Lib.hid (Below.trans (((Below.refl _ _).alloc (Nat.le_refl _) _).alloc (by simp) _) (hb.mono (by simp; omega))); have hz : w.heap.size + 1 < w1.heap.size := by { have := hb.size; simp at this; omega }; clear hb)
    | (go_at_call 32; (with_reducible refine (HS.out.at _).mono ?_); rintro e w2 ⟨rfl, hb2⟩; have HB2 := Lib.hid (HB.out.trans (hb2.mono HB.out.size)); clear hb2))
  go_ret
  exact ⟨rfl, HB2.out⟩
set_option maxRecDepth 100000 in
theorem his_is (k0 k1 k2 k3 k4 : Int) (t : Bool) (hS : Sens k0 k1 k2 k3 k4 t) (w : World) :
    Calls Try.prog 22 #[(Value.agg #[.int .i64 k0, .int .i64 k1, .int .i64 k2, .int .i64 k3, .int .u32 k4]), .slice none 0 0] w fun e w' => e = .returned (.bool (!t)) ∧ Below w.heap.size w w' := by
  have st := start1 w k0 k1 k2 k3 k4
  have ST := Lib.hid st
  have HS := Lib.hid hS
  clear st hS
  go_enter Try.func22, Try.ntmps22
  go_wp2
  go_region_held3 (fun w' => Below w.heap.size w w' ∧ w.heap.size < w'.heap.size ∧ w'.cell? ⟨w.heap.size, 0, none⟩ = some (.int .i64 k0) ∧ w'.cell? ⟨w.heap.size, 1, none⟩ = some (.int .i64 k1) ∧ w'.cell? ⟨w.heap.size, 2, none⟩ = some (.int .i64 k2) ∧ w'.cell? ⟨w.heap.size, 3, none⟩ = some (.int .i64 k3) ∧ w'.cell? ⟨w.heap.size, 4, none⟩ = some (.int .u32 k4)) (first | exact ST.out | exact keep1 _ _ _ _ _ (by assumption) hb)
    (first | (go_at_call 28; refine (look_none _).mono ?_; rintro e w' ⟨M, a, rfl, hM, hb⟩) | (go_at_call 29; refine (ishole_is k0 k1 k2 k3 k4 t M a HS.out _ hM).mono ?_; rintro e w' ⟨rfl, hb⟩))
  have hS : Below w.heap.size w w' ∧ w.heap.size < w'.heap.size ∧ w'.cell? ⟨w.heap.size, 0, none⟩ = some (.int .i64 k0) ∧ w'.cell? ⟨w.heap.size, 1, none⟩ = some (.int .i64 k1) ∧ w'.cell? ⟨w.heap.size, 2, none⟩ = some (.int .i64 k2) ∧ w'.cell? ⟨w.heap.size, 3, none⟩ = some (.int .i64 k3) ∧ w'.cell? ⟨w.heap.size, 4, none⟩ = some (.int .u32 k4) := by assumption
  obtain ⟨hB, -⟩ := hS
  go_wp2
  go_ret
  exact ⟨rfl, hB⟩
theorem hfirst_is (w : World) : Calls Try.prog 19 #[] w fun e w' => e = .returned (.bool true) ∧ Below w.heap.size w w' := by
  have h5 : Sens 5 0 0 0 0 false := fun W => sensory_no 5 0 0 0 0 0 0 0 0 0 (Lib.hid (.inr (.inr ⟨by decide, rfl⟩))) (.inl (by decide)) W
  have h1 : Sens 1 0 0 0 0 true := fun W => sensory_yes 1 0 0 0 0 (Lib.hid (.inr (.inl ⟨by decide, rfl⟩))) W
  have H5 := Lib.hid h5
  have H1 := Lib.hid h1
  clear h5 h1
  go_enter Try.func19, Try.ntmps19
  go_wp2_with (first
    | (go_at_call 22; (with_reducible refine (his_is 5 0 0 0 0 false H5.out _).mono ?_); rintro e w1 ⟨rfl, hb⟩; have HB := Lib.hid hb; clear hb)
    | (go_at_call 22; (with_reducible refine (his_is 1 0 0 0 0 true H1.out _).mono ?_); rintro e w2 ⟨rfl, hb⟩; have HB2 := Lib.hid (HB.out.trans (hb.mono HB.out.size)); clear hb))
  go_ret
  exact ⟨rfl, HB2.out⟩
theorem keep7 {W w w' : World} {B C : Nat} {k0 k1 k2 k3 k4 r0 r1 r2 r3 r4 : Int} (h : Below W.heap.size W w ∧ (B < w.heap.size ∧ w.cell? ⟨B, 0, none⟩ = some (.int .i64 k0) ∧ w.cell? ⟨B, 1, none⟩ = some (.int .i64 k1) ∧ w.cell? ⟨B, 2, none⟩ = some (.int .i64 k2) ∧ w.cell? ⟨B, 3, none⟩ = some (.int .i64 k3) ∧ w.cell? ⟨B, 4, none⟩ = some (.int .u32 k4)) ∧ (C < w.heap.size ∧ w.cell? ⟨C, 0, none⟩ = some (.int .i64 r0) ∧ w.cell? ⟨C, 1, none⟩ = some (.int .i64 r1) ∧ w.cell? ⟨C, 2, none⟩ = some (.int .i64 r2) ∧ w.cell? ⟨C, 3, none⟩ = some (.int .i64 r3) ∧ w.cell? ⟨C, 4, none⟩ = some (.int .u32 r4))) (hb : Below w.heap.size w w') : Below W.heap.size W w' ∧ (B < w'.heap.size ∧ w'.cell? ⟨B, 0, none⟩ = some (.int .i64 k0) ∧ w'.cell? ⟨B, 1, none⟩ = some (.int .i64 k1) ∧ w'.cell? ⟨B, 2, none⟩ = some (.int .i64 k2) ∧ w'.cell? ⟨B, 3, none⟩ = some (.int .i64 k3) ∧ w'.cell? ⟨B, 4, none⟩ = some (.int .u32 k4)) ∧ (C < w'.heap.size ∧ w'.cell? ⟨C, 0, none⟩ = some (.int .i64 r0) ∧ w'.cell? ⟨C, 1, none⟩ = some (.int .i64 r1) ∧ w'.cell? ⟨C, 2, none⟩ = some (.int .i64 r2) ∧ w'.cell? ⟨C, 3, none⟩ = some (.int .i64 r3) ∧ w'.cell? ⟨C, 4, none⟩ = some (.int .u32 r4)) := ⟨h.1.trans (hb.mono h.1.size), keep5 h.2.1 hb, keep5 h.2.2 hb⟩
set_option maxRecDepth 100000 in
theorem hole_bad (k0 k1 k2 k3 k4 : Int) (c : Int) (gk : k4 ≤ 4294967295) (hc : Hid (codeOf k0 k1 k2 k3 k4 = c)) (hn : (c == 0) = false) (w : World) :
    Calls Try.prog 7 #[(Value.agg #[.int .i64 k0, .int .i64 k1, .int .i64 k2, .int .i64 k3, .int .u32 k4])] w fun e w' => e = .returned (.bool true) ∧ Below w.heap.size w w' := by
  go_enter Try.func7, Try.ntmps7
  go_wp2_with (first
    | (go_at_call 19; refine (hfirst_is _).mono ?_; rintro e w1 ⟨rfl, hb⟩; have Ka := keep5 (new5 w k0 k1 k2 k3 k4) hb; have Ba := Lib.hid (Below.trans ((Below.refl _ _).alloc (Nat.le_refl _) _) (hb.mono (by simp))); obtain ⟨kl, e0, e1, e2, e3, e4⟩ := Ka; clear hb)
    | (go_at_call 20; (with_reducible refine (valid_is _ _ _ _ _ c hc gk _).mono ?_); rintro e w2 ⟨rfl, hb⟩; have Bb := Lib.hid (Ba.out.trans (hb.mono Ba.out.size)); clear hb))
  go_ret
  exact ⟨rfl, Bb.out⟩
set_option maxRecDepth 100000 in
set_option maxHeartbeats 4000000 in
theorem hole_walk (k0 k1 k2 k3 k4 : Int) (r0 r1 r2 r3 r4 : Int) (t : Bool) (gk : k4 ≤ 4294967295) (h8 : In8 k3) (hc : Hid (codeOf k0 k1 k2 k3 k4 = 0)) (hW : Hid (Wk [k0, k1, k2, k3, k4] [r0, r1, r2, r3, r4])) (hk : Hid (Sens k0 k1 k2 k3 k4 t)) (hr : Hid (Sens r0 r1 r2 r3 r4 true)) (hs : Hid (sameB k0 k1 k2 k3 k4 r0 r1 r2 r3 r4 = t)) (w : World) :
    Calls Try.prog 7 #[(Value.agg #[.int .i64 k0, .int .i64 k1, .int .i64 k2, .int .i64 k3, .int .u32 k4])] w fun e w' => e = .returned (.bool true) ∧ Below w.heap.size w w' := by
  have H8 := Lib.hid h8
  clear h8
  go_enter Try.func7, Try.ntmps7
  go_wp2_with (first
    | (go_at_call 19; refine (hfirst_is _).mono ?_; rintro e w1 ⟨rfl, hb⟩; have Ka := keep5 (new5 w k0 k1 k2 k3 k4) hb; have Ba := Lib.hid (Below.trans ((Below.refl _ _).alloc (Nat.le_refl _) _) (hb.mono (by simp))); have KA := Lib.hid Ka; obtain ⟨kl, e0, e1, e2, e3, e4⟩ := Ka; clear hb)
    | (go_at_call 20; (with_reducible refine (valid_is _ _ _ _ _ 0 hc gk _).mono ?_); rintro e w2 ⟨rfl, hb⟩; have Bb := Lib.hid (Ba.out.trans (hb.mono Ba.out.size)); have Kb := keep5 KA.out hb; have KB := Lib.hid Kb; clear hb kl e0 e1 e2 e3 e4; obtain ⟨kl, e0, e1, e2, e3, e4⟩ := Kb)
    | (go_at_call 21; (with_reducible refine (rweaken_any _ _ _ _ _ _ _ _ _ _ H8.out hW _).mono ?_); rintro e w3 ⟨rfl, hb⟩; have Bc := Lib.hid (Bb.out.trans (hb.mono Bb.out.size)); have KC := Lib.hid (keep5 KB.out hb); clear hb kl e0 e1 e2 e3 e4))
  have ST : Hid (Below w.heap.size w (w3.alloc (.cells #[.int .i64 r0, .int .i64 r1, .int .i64 r2, .int .i64 r3, .int .u32 r4] 47)).drew ∧ (w.heap.size < (w3.alloc (.cells #[.int .i64 r0, .int .i64 r1, .int .i64 r2, .int .i64 r3, .int .u32 r4] 47)).drew.heap.size ∧ (w3.alloc (.cells #[.int .i64 r0, .int .i64 r1, .int .i64 r2, .int .i64 r3, .int .u32 r4] 47)).drew.cell? ⟨w.heap.size, 0, none⟩ = some (.int .i64 k0) ∧ (w3.alloc (.cells #[.int .i64 r0, .int .i64 r1, .int .i64 r2, .int .i64 r3, .int .u32 r4] 47)).drew.cell? ⟨w.heap.size, 1, none⟩ = some (.int .i64 k1) ∧ (w3.alloc (.cells #[.int .i64 r0, .int .i64 r1, .int .i64 r2, .int .i64 r3, .int .u32 r4] 47)).drew.cell? ⟨w.heap.size, 2, none⟩ = some (.int .i64 k2) ∧ (w3.alloc (.cells #[.int .i64 r0, .int .i64 r1, .int .i64 r2, .int .i64 r3, .int .u32 r4] 47)).drew.cell? ⟨w.heap.size, 3, none⟩ = some (.int .i64 k3) ∧ (w3.alloc (.cells #[.int .i64 r0, .int .i64 r1, .int .i64 r2, .int .i64 r3, .int .u32 r4] 47)).drew.cell? ⟨w.heap.size, 4, none⟩ = some (.int .u32 k4)) ∧ (w3.heap.size < (w3.alloc (.cells #[.int .i64 r0, .int .i64 r1, .int .i64 r2, .int .i64 r3, .int .u32 r4] 47)).drew.heap.size ∧ (w3.alloc (.cells #[.int .i64 r0, .int .i64 r1, .int .i64 r2, .int .i64 r3, .int .u32 r4] 47)).drew.cell? ⟨w3.heap.size, 0, none⟩ = some (.int .i64 r0) ∧ (w3.alloc (.cells #[.int .i64 r0, .int .i64 r1, .int .i64 r2, .int .i64 r3, .int .u32 r4] 47)).drew.cell? ⟨w3.heap.size, 1, none⟩ = some (.int .i64 r1) ∧ (w3.alloc (.cells #[.int .i64 r0, .int .i64 r1, .int .i64 r2, .int .i64 r3, .int .u32 r4] 47)).drew.cell? ⟨w3.heap.size, 2, none⟩ = some (.int .i64 r2) ∧ (w3.alloc (.cells #[.int .i64 r0, .int .i64 r1, .int .i64 r2, .int .i64 r3, .int .u32 r4] 47)).drew.cell? ⟨w3.heap.size, 3, none⟩ = some (.int .i64 r3) ∧ (w3.alloc (.cells #[.int .i64 r0, .int .i64 r1, .int .i64 r2, .int .i64 r3, .int .u32 r4] 47)).drew.cell? ⟨w3.heap.size, 4, none⟩ = some (.int .u32 r4))) := Lib.hid ⟨(Bc.out.alloc Bc.out.size _).drew, keep5 (keep5_alloc KC.out _) (Below.refl _ _).drew, keep5 (new5 w3 r0 r1 r2 r3 r4) (Below.refl _ _).drew⟩
  go_region_held3 (fun w' => Below w.heap.size w w' ∧ (w.heap.size < w'.heap.size ∧ w'.cell? ⟨w.heap.size, 0, none⟩ = some (.int .i64 k0) ∧ w'.cell? ⟨w.heap.size, 1, none⟩ = some (.int .i64 k1) ∧ w'.cell? ⟨w.heap.size, 2, none⟩ = some (.int .i64 k2) ∧ w'.cell? ⟨w.heap.size, 3, none⟩ = some (.int .i64 k3) ∧ w'.cell? ⟨w.heap.size, 4, none⟩ = some (.int .u32 k4)) ∧ (w3.heap.size < w'.heap.size ∧ w'.cell? ⟨w3.heap.size, 0, none⟩ = some (.int .i64 r0) ∧ w'.cell? ⟨w3.heap.size, 1, none⟩ = some (.int .i64 r1) ∧ w'.cell? ⟨w3.heap.size, 2, none⟩ = some (.int .i64 r2) ∧ w'.cell? ⟨w3.heap.size, 3, none⟩ = some (.int .i64 r3) ∧ w'.cell? ⟨w3.heap.size, 4, none⟩ = some (.int .u32 r4))) (first | exact ST.out | exact keep7 (by assumption) hb)
    (first
      | (go_at_call 22; (with_reducible refine (his_is r0 r1 r2 r3 r4 true hr.out _).mono ?_); rintro e w' ⟨rfl, hb⟩)
      | (go_at_call 22; (with_reducible refine (his_is k0 k1 k2 k3 k4 t hk.out _).mono ?_); rintro e w' ⟨rfl, hb⟩)
      | (go_at_call 23; (with_reducible refine (same_is _ _ _ _ _ _ _ _ _ _ t hs _).mono ?_); rintro e w' ⟨rfl, hb⟩))
  all_goals
    have hS : Below w.heap.size w w' ∧ (w.heap.size < w'.heap.size ∧ w'.cell? ⟨w.heap.size, 0, none⟩ = some (.int .i64 k0) ∧ w'.cell? ⟨w.heap.size, 1, none⟩ = some (.int .i64 k1) ∧ w'.cell? ⟨w.heap.size, 2, none⟩ = some (.int .i64 k2) ∧ w'.cell? ⟨w.heap.size, 3, none⟩ = some (.int .i64 k3) ∧ w'.cell? ⟨w.heap.size, 4, none⟩ = some (.int .u32 k4)) ∧ (w3.heap.size < w'.heap.size ∧ w'.cell? ⟨w3.heap.size, 0, none⟩ = some (.int .i64 r0) ∧ w'.cell? ⟨w3.heap.size, 1, none⟩ = some (.int .i64 r1) ∧ w'.cell? ⟨w3.heap.size, 2, none⟩ = some (.int .i64 r2) ∧ w'.cell? ⟨w3.heap.size, 3, none⟩ = some (.int .i64 r3) ∧ w'.cell? ⟨w3.heap.size, 4, none⟩ = some (.int .u32 r4)) := by assumption
    obtain ⟨hB, -⟩ := hS
    go_wp2
    go_ret
    exact ⟨by simp, hB⟩
theorem or55 : ∀ n : Fin 8, orI (orI (n.val : Int) 5) 5 = orI (n.val : Int) 5 := by decide +kernel
theorem walk_HoleSensory (x0_0 : Int) (x0_1 : Int) (x0_2 : Int) (x0_3 : Int) (x0_4 : Int) (w : World) (wx0_0 : (Lit.int .i64 x0_0).wf = true) (wx0_1 : (Lit.int .i64 x0_1).wf = true) (wx0_2 : (Lit.int .i64 x0_2).wf = true) (wx0_3 : (Lit.int .i64 x0_3).wf = true) (wx0_4 : (Lit.int .u32 x0_4).wf = true) :
    Calls Try.prog 7 #[.agg #[.int .i64 x0_0, .int .i64 x0_1, .int .i64 x0_2, .int .i64 x0_3, .int .u32 x0_4]] w fun e w' => e = .returned (.bool true) ∧ Below w.heap.size w w' := by
  have gk : x0_4 ≤ 4294967295 := by
    have := wx0_4
    simp [Lit.wf, IntKind.min, IntKind.max, IntKind.signed, IntKind.bits] at this
    omega
  by_cases hc : codeOf x0_0 x0_1 x0_2 x0_3 x0_4 = 0
  · have h8 := rights_in _ _ _ _ _ hc
    by_cases hm : x0_0 = 2 ∨ x0_0 = 3
    · have hW : Wk [x0_0, x0_1, x0_2, x0_3, x0_4] [x0_0, x0_1, x0_2, orI x0_3 5, x0_4] := .inl ⟨hm, rfl⟩
      have hR : Wk [x0_0, x0_1, x0_2, orI x0_3 5, x0_4] [x0_0, x0_1, x0_2, orI x0_3 5, x0_4] := .inl ⟨hm, by
        obtain ⟨n, hn⟩ := h8.fin
        have := or55 n
        rw [← hn] at this
        show _ = [x0_0, x0_1, x0_2, orI (orI x0_3 5) 5, x0_4]
        rw [this]⟩
      by_cases he : x0_3 = orI x0_3 5
      · have hW2 : Wk [x0_0, x0_1, x0_2, x0_3, x0_4] [x0_0, x0_1, x0_2, x0_3, x0_4] := by rw [← he] at hW; exact hW
        exact hole_walk _ _ _ _ _ _ _ _ _ _ true gk h8 (Lib.hid hc) (Lib.hid hW) (Lib.hid (fun W => sensory_yes _ _ _ _ _ (Lib.hid hW2) W)) (Lib.hid (fun W => sensory_yes _ _ _ _ _ (Lib.hid hR) W)) (Lib.hid (by rw [← he]; simp [sameB])) w
      · exact hole_walk _ _ _ _ _ _ _ _ _ _ false gk h8 (Lib.hid hc) (Lib.hid hW) (Lib.hid (fun W => sensory_no _ _ _ _ _ _ _ _ _ _ (Lib.hid hW) (.inr ⟨rfl, rfl, rfl, by simpa using he⟩) W)) (Lib.hid (fun W => sensory_yes _ _ _ _ _ (Lib.hid hR) W)) (Lib.hid (by simp [sameB, he])) w
    · by_cases hv : x0_0 = 0 ∨ x0_0 = 1 ∨ x0_0 = 12 ∨ x0_0 = 14
      · have hW : Wk [x0_0, x0_1, x0_2, x0_3, x0_4] [x0_0, x0_1, x0_2, x0_3, x0_4] := .inr (.inl ⟨hv, rfl⟩)
        exact hole_walk _ _ _ _ _ _ _ _ _ _ true gk h8 (Lib.hid hc) (Lib.hid hW) (Lib.hid (fun W => sensory_yes _ _ _ _ _ (Lib.hid hW) W)) (Lib.hid (fun W => sensory_yes _ _ _ _ _ (Lib.hid hW) W)) (Lib.hid (by simp [sameB])) w
      · have hW : Wk [x0_0, x0_1, x0_2, x0_3, x0_4] [0, 0, 0, 0, 0] := .inr (.inr ⟨⟨fun e => hv (.inl e), fun e => hv (.inr (.inl e)), fun e => hm (.inl e), fun e => hm (.inr e), fun e => hv (.inr (.inr (.inl e))), fun e => hv (.inr (.inr (.inr e)))⟩, rfl⟩)
        have hR : Wk [0, 0, 0, 0, 0] [0, 0, 0, 0, 0] := .inr (.inl ⟨.inl rfl, rfl⟩)
        have h0 : (x0_0 == 0) = false := by simp; exact fun e => hv (.inl e)
        exact hole_walk _ _ _ _ _ _ _ _ _ _ false gk h8 (Lib.hid hc) (Lib.hid hW) (Lib.hid (fun W => sensory_no _ _ _ _ _ _ _ _ _ _ (Lib.hid hW) (.inl h0) W)) (Lib.hid (fun W => sensory_yes _ _ _ _ _ (Lib.hid hR) W)) (Lib.hid (by simp [sameB, h0])) w
  · exact hole_bad _ _ _ _ _ _ gk (Lib.hid rfl) (by simpa using hc) w
end Go.Proofs.Ytdfcpgbimihcoaa
