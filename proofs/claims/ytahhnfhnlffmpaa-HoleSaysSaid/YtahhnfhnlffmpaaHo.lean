/-
  package hole without factories: look, factory, isHole, Is.
-/
import Derived.Test.YtahhnfhnlffmpaaRef7
import Derived.Test.YtahhnfhnlffmpaaValidZ
import Derived.Maps.OwnSet
import Derived.DeepKeys4
namespace Go.Proofs.Ytahhnfhnlffmpaa
open Go.ChangeShapes Go.WideShapes Go.ChangeAt Go.RowKit Go.Maps
set_option linter.unusedVariables false
theorem look_empty (M c : Nat) (a b : Int) (w : World) (hM : w.heap[M]? = some (.map #[] c)) : (Instr.lookup 47 (.map (some M)) (.agg #[.int .i64 a, .int .i64 b]) true).run Try.prog w = .ok (.tuple #[.int .i64 0, .bool false]) w := by
  have h1 : (Instr.checkKey true 10000 55 (.agg #[.int .i64 a, .int .i64 b])).run Try.prog w = .ok () w := by kernel_rfl
  have h2 : (Instr.findKey 55 (.agg #[.int .i64 a, .int .i64 b]) []).run Try.prog w = .ok none w := by kernel_rfl
  have hz : (zeroValue 3).run Try.prog w = .ok (.int .i64 0) w := by kernel_rfl
  simp [Instr.lookup, run_underlying Try.underlying47, h1, h2, hz, MapKept.run_getObj_map hM, Result.andThen]
theorem make_b (w : World) : (Instr.makeSlice 48 (.int .i64 0) (.int .i64 0)).run Try.prog w = .ok (.slice (some ⟨w.heap.size, 0, none⟩) 0 0) (w.alloc (.cells #[] 4)) := by kernel_rfl
theorem make_i (w : World) : (Instr.makeSlice 57 (.int .i64 0) (.int .i64 0)).run Try.prog w = .ok (.slice (some ⟨w.heap.size, 0, none⟩) 0 0) (w.alloc (.cells #[] 58)) := by kernel_rfl
set_option maxRecDepth 100000 in
set_option maxHeartbeats 4000000 in
theorem look_none (w : World) : Calls Try.prog 19 #[.slice none 0 0] w fun e w' => ∃ M a, e = .returned ((Value.agg #[.map (some (M)), .slice (a) 0 0])) ∧ w'.heap[M]? = some (.map #[] 0) ∧ Below w.heap.size w w' := by
  have hmm := @run_makeMap Try.prog
  have m1 := make_b
  have m2 := make_i
  go_enter Try.func19, Try.ntmps19
  go_wp2
  refine wp_loop_rounds 1 ?_
  rw [rounds_succ]
  go_wp2
  refine wp_loop_rounds 1 ?_
  rw [rounds_succ]
  go_wp2
  refine wp_loop_rounds 1 ?_
  rw [rounds_succ]
  go_wp2
  refine bodyPost_ret (v := (Value.agg #[.map (some (w.heap.size + 1)), .slice (some ⟨w.heap.size + 1 + 1, 0, none⟩) 0 0])) (by simp [results, Try.results19, go_sem]) rfl ⟨_, _, rfl, ?_, ?_⟩
  · have h := heap_alloc_new (w.alloc (.cells #[.map (some (w.heap.size + 1)), .slice (some ⟨w.heap.size + 1 + 1, 0, none⟩) 0 0] 50)) (.map #[] 0)
    have e : (w.alloc (.cells #[.map (some (w.heap.size + 1)), .slice (some ⟨w.heap.size + 1 + 1, 0, none⟩) 0 0] 50)).heap.size = w.heap.size + 1 := by simp
    rw [e] at h
    exact (Below.heap_alloc _ _ _ (by first | (simp; done) | (simp; omega))).trans ((Below.heap_alloc _ _ _ (by first | (simp; done) | (simp; omega))).trans ((Below.heap_alloc _ _ _ (by first | (simp; done) | (simp; omega))).trans h))
  · exact (((((Below.refl _ _).alloc (Nat.le_refl _) _).alloc (by simp) _).alloc (by simp; omega) _).alloc (by simp; omega) _).alloc (by simp; omega) _
theorem factory_is (k0 k1 k2 k3 k4 : Int) (M : Nat) (a : Option Addr) (w : World) (hM : w.heap[M]? = some (.map #[] 0)) :
    Calls Try.prog 23 #[(Value.agg #[.map (some (M)), .slice (a) 0 0]), (Value.agg #[.int .i64 k0, .int .i64 k1, .int .i64 k2, .int .i64 k3, .int .u32 k4])] w fun e w' => e = .returned (.tuple #[.int .i64 0, .bool false]) ∧ Below w.heap.size w w' := by
  by_cases h9 : k0 = 9
  · subst h9
    have hl : (Instr.lookup 47 (.map (some M)) (.agg #[.int .i64 k1, .int .i64 k2]) true).run Try.prog ((w.alloc (.cells #[.map (some M), .slice a 0 0] 50)).alloc (.cells #[.int .i64 9, .int .i64 k1, .int .i64 k2, .int .i64 k3, .int .u32 k4] 24)) = .ok (.tuple #[.int .i64 0, .bool false]) ((w.alloc (.cells #[.map (some M), .slice a 0 0] 50)).alloc (.cells #[.int .i64 9, .int .i64 k1, .int .i64 k2, .int .i64 k3, .int .u32 k4] 24)) := look_empty M 0 k1 k2 _ (by
      have hlt : M < w.heap.size := by
        rcases Nat.lt_or_ge M w.heap.size with h' | h'
        · exact h'
        · simp [Array.getElem?_eq_none h'] at hM
      exact (Below.heap_alloc _ _ _ (by simp; omega)).trans ((Below.heap_alloc _ _ _ hlt).trans hM))
    clear hM
    go_enter Try.func23, Try.ntmps23
    go_wp2
    go_ret2
    exact ⟨rfl, ((Below.refl _ _).alloc (Nat.le_refl _) _).alloc (by simp) _⟩
  · have e9 : (k0 == 9) = false := by simpa using h9
    clear hM
    go_enter Try.func23, Try.ntmps23
    go_wp2
    go_ret2
    exact ⟨rfl, ((Below.refl _ _).alloc (Nat.le_refl _) _).alloc (by simp) _⟩
def Sens (k0 k1 k2 k3 k4 : Int) (t : Bool) : Prop := ∀ W, Calls Try.prog 24 #[(Value.agg #[.int .i64 k0, .int .i64 k1, .int .i64 k2, .int .i64 k3, .int .u32 k4])] W fun e w' => e = .returned (.bool t) ∧ Below W.heap.size W w'
theorem Sens.at {k0 k1 k2 k3 k4 : Int} {t : Bool} (h : Sens k0 k1 k2 k3 k4 t) (W : World) : Calls Try.prog 24 #[(Value.agg #[.int .i64 k0, .int .i64 k1, .int .i64 k2, .int .i64 k3, .int .u32 k4])] W fun e w' => e = .returned (.bool t) ∧ Below W.heap.size W w' := h W
set_option maxRecDepth 100000 in
theorem ishole_is (k0 k1 k2 k3 k4 : Int) (t : Bool) (M : Nat) (a : Option Addr) (hS : Sens k0 k1 k2 k3 k4 t) (w : World) (hM : w.heap[M]? = some (.map #[] 0)) :
    Calls Try.prog 20 #[(Value.agg #[.map (some (M)), .slice (a) 0 0]), (Value.agg #[.int .i64 k0, .int .i64 k1, .int .i64 k2, .int .i64 k3, .int .u32 k4])] w fun e w' => e = .returned (.bool (!t)) ∧ Below w.heap.size w w' := by
  have hlt : M < w.heap.size := by
    rcases Nat.lt_or_ge M w.heap.size with h' | h'
    · exact h'
    · simp [Array.getElem?_eq_none h'] at hM
  have HM : Hid (((w.alloc (.cells #[.map (some M), .slice a 0 0] 50)).alloc (.cells #[.int .i64 k0, .int .i64 k1, .int .i64 k2, .int .i64 k3, .int .u32 k4] 24)).heap[M]? = some (.map #[] 0)) := Lib.hid ((Below.heap_alloc _ _ _ (by simp; omega)).trans ((Below.heap_alloc _ _ _ hlt).trans hM))
  have HS := Lib.hid hS
  clear hM hS
  go_enter Try.func20, Try.ntmps20
  go_wp2_with (first
    | (go_at_call 23; (with_reducible refine (factory_is k0 k1 k2 k3 k4 M a _ HM.out).mono ?_); rintro e w1 ⟨rfl, hb⟩; obtain ⟨hc, hf⟩ := bcell hb; have HB := Lib.hid (Below.trans (((Below.refl _ _).alloc (Nat.le_refl _) _).alloc (by simp) _) (hb.mono (by simp; omega))); have hz : w.heap.size + 1 < w1.heap.size := by { have := hb.size; simp at this; omega }; clear hb)
    | (go_at_call 24; (with_reducible refine (HS.out.at _).mono ?_); rintro e w2 ⟨rfl, hb2⟩; have HB2 := Lib.hid (HB.out.trans (hb2.mono HB.out.size)); clear hb2))
  go_ret
  exact ⟨rfl, HB2.out⟩
set_option maxRecDepth 100000 in
theorem his_is (k0 k1 k2 k3 k4 : Int) (t : Bool) (hS : Sens k0 k1 k2 k3 k4 t) (w : World) :
    Calls Try.prog 11 #[(Value.agg #[.int .i64 k0, .int .i64 k1, .int .i64 k2, .int .i64 k3, .int .u32 k4]), .slice none 0 0] w fun e w' => e = .returned (.bool (!t)) ∧ Below w.heap.size w w' := by
  have st := start1 w k0 k1 k2 k3 k4
  have ST := Lib.hid st
  have HS := Lib.hid hS
  clear st hS
  go_enter Try.func11, Try.ntmps11
  go_wp2
  go_region_held3 (fun w' => Below w.heap.size w w' ∧ w.heap.size < w'.heap.size ∧ w'.cell? ⟨w.heap.size, 0, none⟩ = some (.int .i64 k0) ∧ w'.cell? ⟨w.heap.size, 1, none⟩ = some (.int .i64 k1) ∧ w'.cell? ⟨w.heap.size, 2, none⟩ = some (.int .i64 k2) ∧ w'.cell? ⟨w.heap.size, 3, none⟩ = some (.int .i64 k3) ∧ w'.cell? ⟨w.heap.size, 4, none⟩ = some (.int .u32 k4)) (first | exact ST.out | exact keep1 _ _ _ _ _ (by assumption) hb)
    (first | (go_at_call 19; refine (look_none _).mono ?_; rintro e w' ⟨M, a, rfl, hM, hb⟩) | (go_at_call 20; refine (ishole_is k0 k1 k2 k3 k4 t M a HS.out _ hM).mono ?_; rintro e w' ⟨rfl, hb⟩))
  have hS : Below w.heap.size w w' ∧ w.heap.size < w'.heap.size ∧ w'.cell? ⟨w.heap.size, 0, none⟩ = some (.int .i64 k0) ∧ w'.cell? ⟨w.heap.size, 1, none⟩ = some (.int .i64 k1) ∧ w'.cell? ⟨w.heap.size, 2, none⟩ = some (.int .i64 k2) ∧ w'.cell? ⟨w.heap.size, 3, none⟩ = some (.int .i64 k3) ∧ w'.cell? ⟨w.heap.size, 4, none⟩ = some (.int .u32 k4) := by assumption
  obtain ⟨hB, -⟩ := hS
  go_wp2
  go_ret
  exact ⟨rfl, hB⟩
theorem hfirst_is (w : World) : Calls Try.prog 6 #[] w fun e w' => e = .returned (.bool true) ∧ Below w.heap.size w w' := by
  have h5 : Sens 5 0 0 0 0 false := fun W => sensory_no 5 0 0 0 0 0 0 0 0 0 (Lib.hid (.inr (.inr ⟨by decide, rfl⟩))) (.inl (by decide)) W
  have h1 : Sens 1 0 0 0 0 true := fun W => sensory_yes 1 0 0 0 0 (Lib.hid (.inr (.inl ⟨by decide, rfl⟩))) W
  have H5 := Lib.hid h5
  have H1 := Lib.hid h1
  clear h5 h1
  go_enter Try.func6, Try.ntmps6
  go_wp2_with (first
    | (go_at_call 11; (with_reducible refine (his_is 5 0 0 0 0 false H5.out _).mono ?_); rintro e w1 ⟨rfl, hb⟩; have HB := Lib.hid hb; clear hb)
    | (go_at_call 11; (with_reducible refine (his_is 1 0 0 0 0 true H1.out _).mono ?_); rintro e w2 ⟨rfl, hb⟩; have HB2 := Lib.hid (HB.out.trans (hb.mono HB.out.size)); clear hb))
  go_ret
  exact ⟨rfl, HB2.out⟩
theorem keep7 {W w w' : World} {B C : Nat} {k0 k1 k2 k3 k4 r0 r1 r2 r3 r4 : Int} (h : Below W.heap.size W w ∧ (B < w.heap.size ∧ w.cell? ⟨B, 0, none⟩ = some (.int .i64 k0) ∧ w.cell? ⟨B, 1, none⟩ = some (.int .i64 k1) ∧ w.cell? ⟨B, 2, none⟩ = some (.int .i64 k2) ∧ w.cell? ⟨B, 3, none⟩ = some (.int .i64 k3) ∧ w.cell? ⟨B, 4, none⟩ = some (.int .u32 k4)) ∧ (C < w.heap.size ∧ w.cell? ⟨C, 0, none⟩ = some (.int .i64 r0) ∧ w.cell? ⟨C, 1, none⟩ = some (.int .i64 r1) ∧ w.cell? ⟨C, 2, none⟩ = some (.int .i64 r2) ∧ w.cell? ⟨C, 3, none⟩ = some (.int .i64 r3) ∧ w.cell? ⟨C, 4, none⟩ = some (.int .u32 r4))) (hb : Below w.heap.size w w') : Below W.heap.size W w' ∧ (B < w'.heap.size ∧ w'.cell? ⟨B, 0, none⟩ = some (.int .i64 k0) ∧ w'.cell? ⟨B, 1, none⟩ = some (.int .i64 k1) ∧ w'.cell? ⟨B, 2, none⟩ = some (.int .i64 k2) ∧ w'.cell? ⟨B, 3, none⟩ = some (.int .i64 k3) ∧ w'.cell? ⟨B, 4, none⟩ = some (.int .u32 k4)) ∧ (C < w'.heap.size ∧ w'.cell? ⟨C, 0, none⟩ = some (.int .i64 r0) ∧ w'.cell? ⟨C, 1, none⟩ = some (.int .i64 r1) ∧ w'.cell? ⟨C, 2, none⟩ = some (.int .i64 r2) ∧ w'.cell? ⟨C, 3, none⟩ = some (.int .i64 r3) ∧ w'.cell? ⟨C, 4, none⟩ = some (.int .u32 r4)) := ⟨h.1.trans (hb.mono h.1.size), keep5 h.2.1 hb, keep5 h.2.2 hb⟩
theorem or55 : ∀ n : Fin 8, orI (orI (n.val : Int) 5) 5 = orI (n.val : Int) 5 := by decide +kernel
end Go.Proofs.Ytahhnfhnlffmpaa
