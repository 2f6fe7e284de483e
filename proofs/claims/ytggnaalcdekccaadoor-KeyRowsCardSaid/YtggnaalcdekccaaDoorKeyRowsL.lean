import Derived.Test.YtggnaalcdekccaaDoorKeyRow
import Derived.Deep.DrawnRows
namespace Go.Proofs.YtggnaalcdekccaaDoor
open Go.ChangeShapes Go.WideShapes Go.ChangeAt Go.RowKit
set_option linter.unusedVariables false
attribute [local go_sem ↓] Go.wp_at_zero Go.wp_at_succ
def KR (w w2 wr : World) (cs : Array Value) : Prop := Below w.heap.size w wr ∧ w.heap.size ≤ w2.heap.size ∧ w2.heap.size < wr.heap.size ∧ wr.heap[w2.heap.size]? = some (.cells cs 66 (0, 0))
theorem KR.step {w w2 wr w' : World} {cs : Array Value} (h : KR w w2 wr cs) (hb : Below wr.heap.size wr w') : KR w w2 w' cs :=
  ⟨h.1.trans (hb.mono h.1.size), h.2.1, Nat.lt_of_lt_of_le h.2.2.1 hb.size, (hb.block _ h.2.2.1).trans h.2.2.2⟩
theorem KR.bel {w w2 wr : World} {cs : Array Value} (h : KR w w2 wr cs) : Below w.heap.size w wr := h.1
theorem same_of (k0 k1 k2 k3 k4 : Int) (w : World) :
    Calls Tryd.prog 33 #[(Value.agg #[.int .i64 k0, .int .i64 k1, .int .i64 k2, .int .i64 k3, .int .u32 k4]), (Value.agg #[.int .i64 k0, .int .i64 k1, .int .i64 k2, .int .i64 k3, .int .u32 k4])] w fun e w' => e = .returned (.bool true) ∧ Below w.heap.size w w' :=
  (samekey_any k0 k1 k2 k3 k4 k0 k1 k2 k3 k4 w).mono fun e w' ⟨he, hb⟩ => ⟨by rw [he]; simp [sameB], hb⟩
theorem keepZ0 {w w2 v v' : World} {B : Nat} {cs : Array Value} (y0 y1 y2 y3 y4 : Int) (h : (KR w w2 v cs ∧ w2.heap.size < v.heap.size ∧ v.cell? ⟨w2.heap.size, 0, none⟩ = some (.int .i64 y0) ∧ v.cell? ⟨w2.heap.size, 1, none⟩ = some (.int .i64 y1) ∧ v.cell? ⟨w2.heap.size, 2, none⟩ = some (.int .i64 y2) ∧ v.cell? ⟨w2.heap.size, 3, none⟩ = some (.int .i64 y3) ∧ v.cell? ⟨w2.heap.size, 4, none⟩ = some (.int .u32 y4) ∧ B < v.heap.size ∧ v.cell? ⟨B, 0, none⟩ = some (.int .i64 y0) ∧ v.cell? ⟨B, 1, none⟩ = some (.int .i64 y1) ∧ v.cell? ⟨B, 2, none⟩ = some (.int .i64 y2) ∧ v.cell? ⟨B, 3, none⟩ = some (.int .i64 y3) ∧ v.cell? ⟨B, 4, none⟩ = some (.int .u32 y4))) (hb : Below v.heap.size v v') : (KR w w2 v' cs ∧ w2.heap.size < v'.heap.size ∧ v'.cell? ⟨w2.heap.size, 0, none⟩ = some (.int .i64 y0) ∧ v'.cell? ⟨w2.heap.size, 1, none⟩ = some (.int .i64 y1) ∧ v'.cell? ⟨w2.heap.size, 2, none⟩ = some (.int .i64 y2) ∧ v'.cell? ⟨w2.heap.size, 3, none⟩ = some (.int .i64 y3) ∧ v'.cell? ⟨w2.heap.size, 4, none⟩ = some (.int .u32 y4) ∧ B < v'.heap.size ∧ v'.cell? ⟨B, 0, none⟩ = some (.int .i64 y0) ∧ v'.cell? ⟨B, 1, none⟩ = some (.int .i64 y1) ∧ v'.cell? ⟨B, 2, none⟩ = some (.int .i64 y2) ∧ v'.cell? ⟨B, 3, none⟩ = some (.int .i64 y3) ∧ v'.cell? ⟨B, 4, none⟩ = some (.int .u32 y4)) := by
  obtain ⟨h0, l1, r0, r1, r2, r3, r4, l2, s0, s1, s2, s3, s4⟩ := h
  have hc := (bcell hb).1
  have hz := hb.size
  exact ⟨h0.step hb, by omega, (hc _ _ l1).trans r0, (hc _ _ l1).trans r1, (hc _ _ l1).trans r2, (hc _ _ l1).trans r3, (hc _ _ l1).trans r4, by omega, (hc _ _ l2).trans s0, (hc _ _ l2).trans s1, (hc _ _ l2).trans s2, (hc _ _ l2).trans s3, (hc _ _ l2).trans s4⟩
theorem keepZ1 {w w2 v v' : World} {B : Nat} {cs : Array Value} (y0 y1 y2 y3 y4 : Int) (h : (KR w w2 v cs ∧ w2.heap.size < v.heap.size ∧ v.cell? ⟨w2.heap.size, 5, none⟩ = some (.int .i64 y0) ∧ v.cell? ⟨w2.heap.size, 6, none⟩ = some (.int .i64 y1) ∧ v.cell? ⟨w2.heap.size, 7, none⟩ = some (.int .i64 y2) ∧ v.cell? ⟨w2.heap.size, 8, none⟩ = some (.int .i64 y3) ∧ v.cell? ⟨w2.heap.size, 9, none⟩ = some (.int .u32 y4) ∧ B < v.heap.size ∧ v.cell? ⟨B, 0, none⟩ = some (.int .i64 y0) ∧ v.cell? ⟨B, 1, none⟩ = some (.int .i64 y1) ∧ v.cell? ⟨B, 2, none⟩ = some (.int .i64 y2) ∧ v.cell? ⟨B, 3, none⟩ = some (.int .i64 y3) ∧ v.cell? ⟨B, 4, none⟩ = some (.int .u32 y4))) (hb : Below v.heap.size v v') : (KR w w2 v' cs ∧ w2.heap.size < v'.heap.size ∧ v'.cell? ⟨w2.heap.size, 5, none⟩ = some (.int .i64 y0) ∧ v'.cell? ⟨w2.heap.size, 6, none⟩ = some (.int .i64 y1) ∧ v'.cell? ⟨w2.heap.size, 7, none⟩ = some (.int .i64 y2) ∧ v'.cell? ⟨w2.heap.size, 8, none⟩ = some (.int .i64 y3) ∧ v'.cell? ⟨w2.heap.size, 9, none⟩ = some (.int .u32 y4) ∧ B < v'.heap.size ∧ v'.cell? ⟨B, 0, none⟩ = some (.int .i64 y0) ∧ v'.cell? ⟨B, 1, none⟩ = some (.int .i64 y1) ∧ v'.cell? ⟨B, 2, none⟩ = some (.int .i64 y2) ∧ v'.cell? ⟨B, 3, none⟩ = some (.int .i64 y3) ∧ v'.cell? ⟨B, 4, none⟩ = some (.int .u32 y4)) := by
  obtain ⟨h0, l1, r0, r1, r2, r3, r4, l2, s0, s1, s2, s3, s4⟩ := h
  have hc := (bcell hb).1
  have hz := hb.size
  exact ⟨h0.step hb, by omega, (hc _ _ l1).trans r0, (hc _ _ l1).trans r1, (hc _ _ l1).trans r2, (hc _ _ l1).trans r3, (hc _ _ l1).trans r4, by omega, (hc _ _ l2).trans s0, (hc _ _ l2).trans s1, (hc _ _ l2).trans s2, (hc _ _ l2).trans s3, (hc _ _ l2).trans s4⟩
theorem keepZ2 {w w2 v v' : World} {B : Nat} {cs : Array Value} (y0 y1 y2 y3 y4 : Int) (h : (KR w w2 v cs ∧ w2.heap.size < v.heap.size ∧ v.cell? ⟨w2.heap.size, 10, none⟩ = some (.int .i64 y0) ∧ v.cell? ⟨w2.heap.size, 11, none⟩ = some (.int .i64 y1) ∧ v.cell? ⟨w2.heap.size, 12, none⟩ = some (.int .i64 y2) ∧ v.cell? ⟨w2.heap.size, 13, none⟩ = some (.int .i64 y3) ∧ v.cell? ⟨w2.heap.size, 14, none⟩ = some (.int .u32 y4) ∧ B < v.heap.size ∧ v.cell? ⟨B, 0, none⟩ = some (.int .i64 y0) ∧ v.cell? ⟨B, 1, none⟩ = some (.int .i64 y1) ∧ v.cell? ⟨B, 2, none⟩ = some (.int .i64 y2) ∧ v.cell? ⟨B, 3, none⟩ = some (.int .i64 y3) ∧ v.cell? ⟨B, 4, none⟩ = some (.int .u32 y4))) (hb : Below v.heap.size v v') : (KR w w2 v' cs ∧ w2.heap.size < v'.heap.size ∧ v'.cell? ⟨w2.heap.size, 10, none⟩ = some (.int .i64 y0) ∧ v'.cell? ⟨w2.heap.size, 11, none⟩ = some (.int .i64 y1) ∧ v'.cell? ⟨w2.heap.size, 12, none⟩ = some (.int .i64 y2) ∧ v'.cell? ⟨w2.heap.size, 13, none⟩ = some (.int .i64 y3) ∧ v'.cell? ⟨w2.heap.size, 14, none⟩ = some (.int .u32 y4) ∧ B < v'.heap.size ∧ v'.cell? ⟨B, 0, none⟩ = some (.int .i64 y0) ∧ v'.cell? ⟨B, 1, none⟩ = some (.int .i64 y1) ∧ v'.cell? ⟨B, 2, none⟩ = some (.int .i64 y2) ∧ v'.cell? ⟨B, 3, none⟩ = some (.int .i64 y3) ∧ v'.cell? ⟨B, 4, none⟩ = some (.int .u32 y4)) := by
  obtain ⟨h0, l1, r0, r1, r2, r3, r4, l2, s0, s1, s2, s3, s4⟩ := h
  have hc := (bcell hb).1
  have hz := hb.size
  exact ⟨h0.step hb, by omega, (hc _ _ l1).trans r0, (hc _ _ l1).trans r1, (hc _ _ l1).trans r2, (hc _ _ l1).trans r3, (hc _ _ l1).trans r4, by omega, (hc _ _ l2).trans s0, (hc _ _ l2).trans s1, (hc _ _ l2).trans s2, (hc _ _ l2).trans s3, (hc _ _ l2).trans s4⟩
set_option maxRecDepth 100000 in
set_option maxHeartbeats 4000000 in
theorem krows_0 (a : Option Addr) (len cap : Nat) (a0 b0 : Addr) (w : World) (hK : KW a0 b0 w w) (l1 : len = 0)  :
    Calls Tryd.prog 11 #[.slice (a) len cap] w fun e w' => e = .returned (.bool true) ∧ Below w.heap.size w w' := by
  subst l1
  go_enter Tryd.func11, Tryd.ntmps11
  go_wp2_with (first | (go_at_call 26; refine (kfirst_any _ hK.2.2.1 hK.2.2.2).mono ?_; rintro e w1 ⟨rfl, hb⟩; replace hK := hK.step hb; clear hb) | (go_at_call 40; refine (krow_0 a 0 cap  _ (by simp) ).mono ?_; rintro e w2 ⟨rfl, hb⟩; have hB := hK.bel.trans (hb.mono hK.bel.size); clear hb))
  go_loopw [5] (fun i wr => (i = .int .i64 0 ∨ i = .int .i64 1 ∨ i = .int .i64 2 ∨ i = .int .i64 3) ∧ KR w w2 wr #[.int .i64 0, .int .i64 0, .int .i64 0, .int .i64 0, .int .u32 0, .int .i64 0, .int .i64 0, .int .i64 0, .int .i64 0, .int .u32 0, .int .i64 0, .int .i64 0, .int .i64 0, .int .i64 0, .int .u32 0]) (fun i _ => 3 - (intOf i).toNat)
  case atStart => exact ⟨.inl rfl, hB.alloc hB.size _, hB.size, by simp, heap_alloc_new _ _⟩
  case round =>
    obtain ⟨hi, hR⟩ := hrel
    obtain ⟨hlt, q⟩ := cells15 hR.2.2.2
    have hw2 : w.heap.size ≤ w2.heap.size := hR.2.1
    rcases hi with rfl | rfl | rfl | rfl
    · obtain ⟨q0, q1, q2, q3, q4, q5, q6, q7, q8, q9, q10, q11, q12, q13, q14⟩ := q
      clear q5 q6 q7 q8 q9 q10 q11 q12 q13 q14
      have ST : Hid ((KR w w2 (wr.alloc (.cells #[.int .i64 0, .int .i64 0, .int .i64 0, .int .i64 0, .int .u32 0] 47)).drew #[.int .i64 0, .int .i64 0, .int .i64 0, .int .i64 0, .int .u32 0, .int .i64 0, .int .i64 0, .int .i64 0, .int .i64 0, .int .u32 0, .int .i64 0, .int .i64 0, .int .i64 0, .int .i64 0, .int .u32 0] ∧ w2.heap.size < (wr.alloc (.cells #[.int .i64 0, .int .i64 0, .int .i64 0, .int .i64 0, .int .u32 0] 47)).drew.heap.size ∧ (wr.alloc (.cells #[.int .i64 0, .int .i64 0, .int .i64 0, .int .i64 0, .int .u32 0] 47)).drew.cell? ⟨w2.heap.size, 0, none⟩ = some (.int .i64 0) ∧ (wr.alloc (.cells #[.int .i64 0, .int .i64 0, .int .i64 0, .int .i64 0, .int .u32 0] 47)).drew.cell? ⟨w2.heap.size, 1, none⟩ = some (.int .i64 0) ∧ (wr.alloc (.cells #[.int .i64 0, .int .i64 0, .int .i64 0, .int .i64 0, .int .u32 0] 47)).drew.cell? ⟨w2.heap.size, 2, none⟩ = some (.int .i64 0) ∧ (wr.alloc (.cells #[.int .i64 0, .int .i64 0, .int .i64 0, .int .i64 0, .int .u32 0] 47)).drew.cell? ⟨w2.heap.size, 3, none⟩ = some (.int .i64 0) ∧ (wr.alloc (.cells #[.int .i64 0, .int .i64 0, .int .i64 0, .int .i64 0, .int .u32 0] 47)).drew.cell? ⟨w2.heap.size, 4, none⟩ = some (.int .u32 0) ∧ wr.heap.size < (wr.alloc (.cells #[.int .i64 0, .int .i64 0, .int .i64 0, .int .i64 0, .int .u32 0] 47)).drew.heap.size ∧ (wr.alloc (.cells #[.int .i64 0, .int .i64 0, .int .i64 0, .int .i64 0, .int .u32 0] 47)).drew.cell? ⟨wr.heap.size, 0, none⟩ = some (.int .i64 0) ∧ (wr.alloc (.cells #[.int .i64 0, .int .i64 0, .int .i64 0, .int .i64 0, .int .u32 0] 47)).drew.cell? ⟨wr.heap.size, 1, none⟩ = some (.int .i64 0) ∧ (wr.alloc (.cells #[.int .i64 0, .int .i64 0, .int .i64 0, .int .i64 0, .int .u32 0] 47)).drew.cell? ⟨wr.heap.size, 2, none⟩ = some (.int .i64 0) ∧ (wr.alloc (.cells #[.int .i64 0, .int .i64 0, .int .i64 0, .int .i64 0, .int .u32 0] 47)).drew.cell? ⟨wr.heap.size, 3, none⟩ = some (.int .i64 0) ∧ (wr.alloc (.cells #[.int .i64 0, .int .i64 0, .int .i64 0, .int .i64 0, .int .u32 0] 47)).drew.cell? ⟨wr.heap.size, 4, none⟩ = some (.int .u32 0))) := Lib.hid ⟨hR.step (((Below.refl _ _).alloc (Nat.le_refl _) _).drew), by simp; omega, (World.cell?_alloc_lt wr _ ⟨w2.heap.size, 0, none⟩ hlt).trans q0, (World.cell?_alloc_lt wr _ ⟨w2.heap.size, 1, none⟩ hlt).trans q1, (World.cell?_alloc_lt wr _ ⟨w2.heap.size, 2, none⟩ hlt).trans q2, (World.cell?_alloc_lt wr _ ⟨w2.heap.size, 3, none⟩ hlt).trans q3, (World.cell?_alloc_lt wr _ ⟨w2.heap.size, 4, none⟩ hlt).trans q4, by simp, by simp, by simp, by simp, by simp, by simp⟩
      go_wp2_with fail
      go_region_held3 (fun w' => (KR w w2 w' #[.int .i64 0, .int .i64 0, .int .i64 0, .int .i64 0, .int .u32 0, .int .i64 0, .int .i64 0, .int .i64 0, .int .i64 0, .int .u32 0, .int .i64 0, .int .i64 0, .int .i64 0, .int .i64 0, .int .u32 0] ∧ w2.heap.size < w'.heap.size ∧ w'.cell? ⟨w2.heap.size, 0, none⟩ = some (.int .i64 0) ∧ w'.cell? ⟨w2.heap.size, 1, none⟩ = some (.int .i64 0) ∧ w'.cell? ⟨w2.heap.size, 2, none⟩ = some (.int .i64 0) ∧ w'.cell? ⟨w2.heap.size, 3, none⟩ = some (.int .i64 0) ∧ w'.cell? ⟨w2.heap.size, 4, none⟩ = some (.int .u32 0) ∧ wr.heap.size < w'.heap.size ∧ w'.cell? ⟨wr.heap.size, 0, none⟩ = some (.int .i64 0) ∧ w'.cell? ⟨wr.heap.size, 1, none⟩ = some (.int .i64 0) ∧ w'.cell? ⟨wr.heap.size, 2, none⟩ = some (.int .i64 0) ∧ w'.cell? ⟨wr.heap.size, 3, none⟩ = some (.int .i64 0) ∧ w'.cell? ⟨wr.heap.size, 4, none⟩ = some (.int .u32 0))) (first | exact ST.out | assumption | exact keepZ0 (0) (0) (0) (0) (0) (by assumption) hb) (first | (go_at_call 33; refine (same_of (0) (0) (0) (0) (0) _).mono ?_; rintro e w' ⟨rfl, hb⟩))
      clear ST
      go_wp2
      go_roundw
      case rel =>
        refine ⟨.inr (.inl rfl), ?_⟩
        apply And.left
        assumption
      case measure => simp [intOf]
    · obtain ⟨q0, q1, q2, q3, q4, q5, q6, q7, q8, q9, q10, q11, q12, q13, q14⟩ := q
      clear q0 q1 q2 q3 q4 q10 q11 q12 q13 q14
      have ST : Hid ((KR w w2 (wr.alloc (.cells #[.int .i64 0, .int .i64 0, .int .i64 0, .int .i64 0, .int .u32 0] 47)).drew #[.int .i64 0, .int .i64 0, .int .i64 0, .int .i64 0, .int .u32 0, .int .i64 0, .int .i64 0, .int .i64 0, .int .i64 0, .int .u32 0, .int .i64 0, .int .i64 0, .int .i64 0, .int .i64 0, .int .u32 0] ∧ w2.heap.size < (wr.alloc (.cells #[.int .i64 0, .int .i64 0, .int .i64 0, .int .i64 0, .int .u32 0] 47)).drew.heap.size ∧ (wr.alloc (.cells #[.int .i64 0, .int .i64 0, .int .i64 0, .int .i64 0, .int .u32 0] 47)).drew.cell? ⟨w2.heap.size, 5, none⟩ = some (.int .i64 0) ∧ (wr.alloc (.cells #[.int .i64 0, .int .i64 0, .int .i64 0, .int .i64 0, .int .u32 0] 47)).drew.cell? ⟨w2.heap.size, 6, none⟩ = some (.int .i64 0) ∧ (wr.alloc (.cells #[.int .i64 0, .int .i64 0, .int .i64 0, .int .i64 0, .int .u32 0] 47)).drew.cell? ⟨w2.heap.size, 7, none⟩ = some (.int .i64 0) ∧ (wr.alloc (.cells #[.int .i64 0, .int .i64 0, .int .i64 0, .int .i64 0, .int .u32 0] 47)).drew.cell? ⟨w2.heap.size, 8, none⟩ = some (.int .i64 0) ∧ (wr.alloc (.cells #[.int .i64 0, .int .i64 0, .int .i64 0, .int .i64 0, .int .u32 0] 47)).drew.cell? ⟨w2.heap.size, 9, none⟩ = some (.int .u32 0) ∧ wr.heap.size < (wr.alloc (.cells #[.int .i64 0, .int .i64 0, .int .i64 0, .int .i64 0, .int .u32 0] 47)).drew.heap.size ∧ (wr.alloc (.cells #[.int .i64 0, .int .i64 0, .int .i64 0, .int .i64 0, .int .u32 0] 47)).drew.cell? ⟨wr.heap.size, 0, none⟩ = some (.int .i64 0) ∧ (wr.alloc (.cells #[.int .i64 0, .int .i64 0, .int .i64 0, .int .i64 0, .int .u32 0] 47)).drew.cell? ⟨wr.heap.size, 1, none⟩ = some (.int .i64 0) ∧ (wr.alloc (.cells #[.int .i64 0, .int .i64 0, .int .i64 0, .int .i64 0, .int .u32 0] 47)).drew.cell? ⟨wr.heap.size, 2, none⟩ = some (.int .i64 0) ∧ (wr.alloc (.cells #[.int .i64 0, .int .i64 0, .int .i64 0, .int .i64 0, .int .u32 0] 47)).drew.cell? ⟨wr.heap.size, 3, none⟩ = some (.int .i64 0) ∧ (wr.alloc (.cells #[.int .i64 0, .int .i64 0, .int .i64 0, .int .i64 0, .int .u32 0] 47)).drew.cell? ⟨wr.heap.size, 4, none⟩ = some (.int .u32 0))) := Lib.hid ⟨hR.step (((Below.refl _ _).alloc (Nat.le_refl _) _).drew), by simp; omega, (World.cell?_alloc_lt wr _ ⟨w2.heap.size, 5, none⟩ hlt).trans q5, (World.cell?_alloc_lt wr _ ⟨w2.heap.size, 6, none⟩ hlt).trans q6, (World.cell?_alloc_lt wr _ ⟨w2.heap.size, 7, none⟩ hlt).trans q7, (World.cell?_alloc_lt wr _ ⟨w2.heap.size, 8, none⟩ hlt).trans q8, (World.cell?_alloc_lt wr _ ⟨w2.heap.size, 9, none⟩ hlt).trans q9, by simp, by simp, by simp, by simp, by simp, by simp⟩
      go_wp2_with fail
      go_region_held3 (fun w' => (KR w w2 w' #[.int .i64 0, .int .i64 0, .int .i64 0, .int .i64 0, .int .u32 0, .int .i64 0, .int .i64 0, .int .i64 0, .int .i64 0, .int .u32 0, .int .i64 0, .int .i64 0, .int .i64 0, .int .i64 0, .int .u32 0] ∧ w2.heap.size < w'.heap.size ∧ w'.cell? ⟨w2.heap.size, 5, none⟩ = some (.int .i64 0) ∧ w'.cell? ⟨w2.heap.size, 6, none⟩ = some (.int .i64 0) ∧ w'.cell? ⟨w2.heap.size, 7, none⟩ = some (.int .i64 0) ∧ w'.cell? ⟨w2.heap.size, 8, none⟩ = some (.int .i64 0) ∧ w'.cell? ⟨w2.heap.size, 9, none⟩ = some (.int .u32 0) ∧ wr.heap.size < w'.heap.size ∧ w'.cell? ⟨wr.heap.size, 0, none⟩ = some (.int .i64 0) ∧ w'.cell? ⟨wr.heap.size, 1, none⟩ = some (.int .i64 0) ∧ w'.cell? ⟨wr.heap.size, 2, none⟩ = some (.int .i64 0) ∧ w'.cell? ⟨wr.heap.size, 3, none⟩ = some (.int .i64 0) ∧ w'.cell? ⟨wr.heap.size, 4, none⟩ = some (.int .u32 0))) (first | exact ST.out | assumption | exact keepZ1 (0) (0) (0) (0) (0) (by assumption) hb) (first | (go_at_call 33; refine (same_of (0) (0) (0) (0) (0) _).mono ?_; rintro e w' ⟨rfl, hb⟩))
      clear ST
      go_wp2
      go_roundw
      case rel =>
        refine ⟨.inr (.inr (.inl rfl)), ?_⟩
        apply And.left
        assumption
      case measure => simp [intOf]
    · obtain ⟨q0, q1, q2, q3, q4, q5, q6, q7, q8, q9, q10, q11, q12, q13, q14⟩ := q
      clear q0 q1 q2 q3 q4 q5 q6 q7 q8 q9
      have ST : Hid ((KR w w2 (wr.alloc (.cells #[.int .i64 0, .int .i64 0, .int .i64 0, .int .i64 0, .int .u32 0] 47)).drew #[.int .i64 0, .int .i64 0, .int .i64 0, .int .i64 0, .int .u32 0, .int .i64 0, .int .i64 0, .int .i64 0, .int .i64 0, .int .u32 0, .int .i64 0, .int .i64 0, .int .i64 0, .int .i64 0, .int .u32 0] ∧ w2.heap.size < (wr.alloc (.cells #[.int .i64 0, .int .i64 0, .int .i64 0, .int .i64 0, .int .u32 0] 47)).drew.heap.size ∧ (wr.alloc (.cells #[.int .i64 0, .int .i64 0, .int .i64 0, .int .i64 0, .int .u32 0] 47)).drew.cell? ⟨w2.heap.size, 10, none⟩ = some (.int .i64 0) ∧ (wr.alloc (.cells #[.int .i64 0, .int .i64 0, .int .i64 0, .int .i64 0, .int .u32 0] 47)).drew.cell? ⟨w2.heap.size, 11, none⟩ = some (.int .i64 0) ∧ (wr.alloc (.cells #[.int .i64 0, .int .i64 0, .int .i64 0, .int .i64 0, .int .u32 0] 47)).drew.cell? ⟨w2.heap.size, 12, none⟩ = some (.int .i64 0) ∧ (wr.alloc (.cells #[.int .i64 0, .int .i64 0, .int .i64 0, .int .i64 0, .int .u32 0] 47)).drew.cell? ⟨w2.heap.size, 13, none⟩ = some (.int .i64 0) ∧ (wr.alloc (.cells #[.int .i64 0, .int .i64 0, .int .i64 0, .int .i64 0, .int .u32 0] 47)).drew.cell? ⟨w2.heap.size, 14, none⟩ = some (.int .u32 0) ∧ wr.heap.size < (wr.alloc (.cells #[.int .i64 0, .int .i64 0, .int .i64 0, .int .i64 0, .int .u32 0] 47)).drew.heap.size ∧ (wr.alloc (.cells #[.int .i64 0, .int .i64 0, .int .i64 0, .int .i64 0, .int .u32 0] 47)).drew.cell? ⟨wr.heap.size, 0, none⟩ = some (.int .i64 0) ∧ (wr.alloc (.cells #[.int .i64 0, .int .i64 0, .int .i64 0, .int .i64 0, .int .u32 0] 47)).drew.cell? ⟨wr.heap.size, 1, none⟩ = some (.int .i64 0) ∧ (wr.alloc (.cells #[.int .i64 0, .int .i64 0, .int .i64 0, .int .i64 0, .int .u32 0] 47)).drew.cell? ⟨wr.heap.size, 2, none⟩ = some (.int .i64 0) ∧ (wr.alloc (.cells #[.int .i64 0, .int .i64 0, .int .i64 0, .int .i64 0, .int .u32 0] 47)).drew.cell? ⟨wr.heap.size, 3, none⟩ = some (.int .i64 0) ∧ (wr.alloc (.cells #[.int .i64 0, .int .i64 0, .int .i64 0, .int .i64 0, .int .u32 0] 47)).drew.cell? ⟨wr.heap.size, 4, none⟩ = some (.int .u32 0))) := Lib.hid ⟨hR.step (((Below.refl _ _).alloc (Nat.le_refl _) _).drew), by simp; omega, (World.cell?_alloc_lt wr _ ⟨w2.heap.size, 10, none⟩ hlt).trans q10, (World.cell?_alloc_lt wr _ ⟨w2.heap.size, 11, none⟩ hlt).trans q11, (World.cell?_alloc_lt wr _ ⟨w2.heap.size, 12, none⟩ hlt).trans q12, (World.cell?_alloc_lt wr _ ⟨w2.heap.size, 13, none⟩ hlt).trans q13, (World.cell?_alloc_lt wr _ ⟨w2.heap.size, 14, none⟩ hlt).trans q14, by simp, by simp, by simp, by simp, by simp, by simp⟩
      go_wp2_with fail
      go_region_held3 (fun w' => (KR w w2 w' #[.int .i64 0, .int .i64 0, .int .i64 0, .int .i64 0, .int .u32 0, .int .i64 0, .int .i64 0, .int .i64 0, .int .i64 0, .int .u32 0, .int .i64 0, .int .i64 0, .int .i64 0, .int .i64 0, .int .u32 0] ∧ w2.heap.size < w'.heap.size ∧ w'.cell? ⟨w2.heap.size, 10, none⟩ = some (.int .i64 0) ∧ w'.cell? ⟨w2.heap.size, 11, none⟩ = some (.int .i64 0) ∧ w'.cell? ⟨w2.heap.size, 12, none⟩ = some (.int .i64 0) ∧ w'.cell? ⟨w2.heap.size, 13, none⟩ = some (.int .i64 0) ∧ w'.cell? ⟨w2.heap.size, 14, none⟩ = some (.int .u32 0) ∧ wr.heap.size < w'.heap.size ∧ w'.cell? ⟨wr.heap.size, 0, none⟩ = some (.int .i64 0) ∧ w'.cell? ⟨wr.heap.size, 1, none⟩ = some (.int .i64 0) ∧ w'.cell? ⟨wr.heap.size, 2, none⟩ = some (.int .i64 0) ∧ w'.cell? ⟨wr.heap.size, 3, none⟩ = some (.int .i64 0) ∧ w'.cell? ⟨wr.heap.size, 4, none⟩ = some (.int .u32 0))) (first | exact ST.out | assumption | exact keepZ2 (0) (0) (0) (0) (0) (by assumption) hb) (first | (go_at_call 33; refine (same_of (0) (0) (0) (0) (0) _).mono ?_; rintro e w' ⟨rfl, hb⟩))
      clear ST
      go_wp2
      go_roundw
      case rel =>
        refine ⟨.inr (.inr (.inr rfl)), ?_⟩
        apply And.left
        assumption
      case measure => simp [intOf]
    · clear q
      go_wp2
      go_ret
      exact ⟨rfl, hR.bel⟩
set_option maxRecDepth 100000 in
set_option maxHeartbeats 4000000 in
theorem krows_1 (xb xo : Nat) (len cap : Nat) (x00 x01 x02 x03 x04 : Int) (a0 b0 : Addr) (w : World) (hK : KW a0 b0 w w) (l1 : len = 1) (hx : xb < w.heap.size) (c00 : w.cell? ⟨xb, xo + 0, none⟩ = some (.int .i64 x00)) (c01 : w.cell? ⟨xb, xo + 1, none⟩ = some (.int .i64 x01)) (c02 : w.cell? ⟨xb, xo + 2, none⟩ = some (.int .i64 x02)) (c03 : w.cell? ⟨xb, xo + 3, none⟩ = some (.int .i64 x03)) (c04 : w.cell? ⟨xb, xo + 4, none⟩ = some (.int .u32 x04)) :
    Calls Tryd.prog 11 #[.slice (some ⟨xb, xo, none⟩) len cap] w fun e w' => e = .returned (.bool true) ∧ Below w.heap.size w w' := by
  subst l1
  have C00 := Lib.hid c00
  have C01 := Lib.hid c01
  have C02 := Lib.hid c02
  have C03 := Lib.hid c03
  have C04 := Lib.hid c04
  clear c00 c01 c02 c03 c04
  go_enter Tryd.func11, Tryd.ntmps11
  go_wp2_with (first | (go_at_call 26; refine (kfirst_any _ hK.2.2.1 hK.2.2.2).mono ?_; rintro e w1 ⟨rfl, hb⟩; replace hK := hK.step hb; clear hb) | (go_at_call 40; refine (krow_1 ⟨xb, xo, none⟩ 1 cap x00 x01 x02 x03 x04 _ (by simp) (by simpa [Addr.add] using (hK.bel.cell (p := ⟨xb, xo + 0, none⟩) hx).trans C00.out) (by simpa [Addr.add] using (hK.bel.cell (p := ⟨xb, xo + 1, none⟩) hx).trans C01.out) (by simpa [Addr.add] using (hK.bel.cell (p := ⟨xb, xo + 2, none⟩) hx).trans C02.out) (by simpa [Addr.add] using (hK.bel.cell (p := ⟨xb, xo + 3, none⟩) hx).trans C03.out) (by simpa [Addr.add] using (hK.bel.cell (p := ⟨xb, xo + 4, none⟩) hx).trans C04.out)).mono ?_; rintro e w2 ⟨rfl, hb⟩; have hB := hK.bel.trans (hb.mono hK.bel.size); clear hb))
  go_loopw [5] (fun i wr => (i = .int .i64 0 ∨ i = .int .i64 1 ∨ i = .int .i64 2 ∨ i = .int .i64 3) ∧ KR w w2 wr #[.int .i64 x00, .int .i64 x01, .int .i64 x02, .int .i64 x03, .int .u32 x04, .int .i64 0, .int .i64 0, .int .i64 0, .int .i64 0, .int .u32 0, .int .i64 0, .int .i64 0, .int .i64 0, .int .i64 0, .int .u32 0]) (fun i _ => 3 - (intOf i).toNat)
  case atStart => exact ⟨.inl rfl, hB.alloc hB.size _, hB.size, by simp, heap_alloc_new _ _⟩
  case round =>
    obtain ⟨hi, hR⟩ := hrel
    obtain ⟨hlt, q⟩ := cells15 hR.2.2.2
    have hw2 : w.heap.size ≤ w2.heap.size := hR.2.1
    rcases hi with rfl | rfl | rfl | rfl
    · obtain ⟨q0, q1, q2, q3, q4, q5, q6, q7, q8, q9, q10, q11, q12, q13, q14⟩ := q
      clear q5 q6 q7 q8 q9 q10 q11 q12 q13 q14
      have hxr : xb < wr.heap.size := Nat.lt_of_lt_of_le hx hR.bel.size
      have d0 : wr.cell? ⟨xb, xo, none⟩ = some (.int .i64 x00) := (hR.bel.cell (p := ⟨xb, xo + 0, none⟩) hx).trans C00.out
      have d1 : wr.cell? ⟨xb, xo + 1, none⟩ = some (.int .i64 x01) := (hR.bel.cell (p := ⟨xb, xo + 1, none⟩) hx).trans C01.out
      have d2 : wr.cell? ⟨xb, xo + 2, none⟩ = some (.int .i64 x02) := (hR.bel.cell (p := ⟨xb, xo + 2, none⟩) hx).trans C02.out
      have d3 : wr.cell? ⟨xb, xo + 3, none⟩ = some (.int .i64 x03) := (hR.bel.cell (p := ⟨xb, xo + 3, none⟩) hx).trans C03.out
      have d4 : wr.cell? ⟨xb, xo + 4, none⟩ = some (.int .u32 x04) := (hR.bel.cell (p := ⟨xb, xo + 4, none⟩) hx).trans C04.out
      have ST : Hid ((KR w w2 (wr.alloc (.cells #[.int .i64 x00, .int .i64 x01, .int .i64 x02, .int .i64 x03, .int .u32 x04] 47)).drew #[.int .i64 x00, .int .i64 x01, .int .i64 x02, .int .i64 x03, .int .u32 x04, .int .i64 0, .int .i64 0, .int .i64 0, .int .i64 0, .int .u32 0, .int .i64 0, .int .i64 0, .int .i64 0, .int .i64 0, .int .u32 0] ∧ w2.heap.size < (wr.alloc (.cells #[.int .i64 x00, .int .i64 x01, .int .i64 x02, .int .i64 x03, .int .u32 x04] 47)).drew.heap.size ∧ (wr.alloc (.cells #[.int .i64 x00, .int .i64 x01, .int .i64 x02, .int .i64 x03, .int .u32 x04] 47)).drew.cell? ⟨w2.heap.size, 0, none⟩ = some (.int .i64 x00) ∧ (wr.alloc (.cells #[.int .i64 x00, .int .i64 x01, .int .i64 x02, .int .i64 x03, .int .u32 x04] 47)).drew.cell? ⟨w2.heap.size, 1, none⟩ = some (.int .i64 x01) ∧ (wr.alloc (.cells #[.int .i64 x00, .int .i64 x01, .int .i64 x02, .int .i64 x03, .int .u32 x04] 47)).drew.cell? ⟨w2.heap.size, 2, none⟩ = some (.int .i64 x02) ∧ (wr.alloc (.cells #[.int .i64 x00, .int .i64 x01, .int .i64 x02, .int .i64 x03, .int .u32 x04] 47)).drew.cell? ⟨w2.heap.size, 3, none⟩ = some (.int .i64 x03) ∧ (wr.alloc (.cells #[.int .i64 x00, .int .i64 x01, .int .i64 x02, .int .i64 x03, .int .u32 x04] 47)).drew.cell? ⟨w2.heap.size, 4, none⟩ = some (.int .u32 x04) ∧ wr.heap.size < (wr.alloc (.cells #[.int .i64 x00, .int .i64 x01, .int .i64 x02, .int .i64 x03, .int .u32 x04] 47)).drew.heap.size ∧ (wr.alloc (.cells #[.int .i64 x00, .int .i64 x01, .int .i64 x02, .int .i64 x03, .int .u32 x04] 47)).drew.cell? ⟨wr.heap.size, 0, none⟩ = some (.int .i64 x00) ∧ (wr.alloc (.cells #[.int .i64 x00, .int .i64 x01, .int .i64 x02, .int .i64 x03, .int .u32 x04] 47)).drew.cell? ⟨wr.heap.size, 1, none⟩ = some (.int .i64 x01) ∧ (wr.alloc (.cells #[.int .i64 x00, .int .i64 x01, .int .i64 x02, .int .i64 x03, .int .u32 x04] 47)).drew.cell? ⟨wr.heap.size, 2, none⟩ = some (.int .i64 x02) ∧ (wr.alloc (.cells #[.int .i64 x00, .int .i64 x01, .int .i64 x02, .int .i64 x03, .int .u32 x04] 47)).drew.cell? ⟨wr.heap.size, 3, none⟩ = some (.int .i64 x03) ∧ (wr.alloc (.cells #[.int .i64 x00, .int .i64 x01, .int .i64 x02, .int .i64 x03, .int .u32 x04] 47)).drew.cell? ⟨wr.heap.size, 4, none⟩ = some (.int .u32 x04))) := Lib.hid ⟨hR.step (((Below.refl _ _).alloc (Nat.le_refl _) _).drew), by simp; omega, (World.cell?_alloc_lt wr _ ⟨w2.heap.size, 0, none⟩ hlt).trans q0, (World.cell?_alloc_lt wr _ ⟨w2.heap.size, 1, none⟩ hlt).trans q1, (World.cell?_alloc_lt wr _ ⟨w2.heap.size, 2, none⟩ hlt).trans q2, (World.cell?_alloc_lt wr _ ⟨w2.heap.size, 3, none⟩ hlt).trans q3, (World.cell?_alloc_lt wr _ ⟨w2.heap.size, 4, none⟩ hlt).trans q4, by simp, by simp, by simp, by simp, by simp, by simp⟩
      go_wp2_with fail
      go_region_held3 (fun w' => (KR w w2 w' #[.int .i64 x00, .int .i64 x01, .int .i64 x02, .int .i64 x03, .int .u32 x04, .int .i64 0, .int .i64 0, .int .i64 0, .int .i64 0, .int .u32 0, .int .i64 0, .int .i64 0, .int .i64 0, .int .i64 0, .int .u32 0] ∧ w2.heap.size < w'.heap.size ∧ w'.cell? ⟨w2.heap.size, 0, none⟩ = some (.int .i64 x00) ∧ w'.cell? ⟨w2.heap.size, 1, none⟩ = some (.int .i64 x01) ∧ w'.cell? ⟨w2.heap.size, 2, none⟩ = some (.int .i64 x02) ∧ w'.cell? ⟨w2.heap.size, 3, none⟩ = some (.int .i64 x03) ∧ w'.cell? ⟨w2.heap.size, 4, none⟩ = some (.int .u32 x04) ∧ wr.heap.size < w'.heap.size ∧ w'.cell? ⟨wr.heap.size, 0, none⟩ = some (.int .i64 x00) ∧ w'.cell? ⟨wr.heap.size, 1, none⟩ = some (.int .i64 x01) ∧ w'.cell? ⟨wr.heap.size, 2, none⟩ = some (.int .i64 x02) ∧ w'.cell? ⟨wr.heap.size, 3, none⟩ = some (.int .i64 x03) ∧ w'.cell? ⟨wr.heap.size, 4, none⟩ = some (.int .u32 x04))) (first | exact ST.out | assumption | exact keepZ0 (x00) (x01) (x02) (x03) (x04) (by assumption) hb) (first | (go_at_call 33; refine (same_of (x00) (x01) (x02) (x03) (x04) _).mono ?_; rintro e w' ⟨rfl, hb⟩))
      clear ST
      go_wp2
      go_roundw
      case rel =>
        refine ⟨.inr (.inl rfl), ?_⟩
        apply And.left
        assumption
      case measure => simp [intOf]
    · obtain ⟨q0, q1, q2, q3, q4, q5, q6, q7, q8, q9, q10, q11, q12, q13, q14⟩ := q
      clear q0 q1 q2 q3 q4 q10 q11 q12 q13 q14
      have ST : Hid ((KR w w2 (wr.alloc (.cells #[.int .i64 0, .int .i64 0, .int .i64 0, .int .i64 0, .int .u32 0] 47)).drew #[.int .i64 x00, .int .i64 x01, .int .i64 x02, .int .i64 x03, .int .u32 x04, .int .i64 0, .int .i64 0, .int .i64 0, .int .i64 0, .int .u32 0, .int .i64 0, .int .i64 0, .int .i64 0, .int .i64 0, .int .u32 0] ∧ w2.heap.size < (wr.alloc (.cells #[.int .i64 0, .int .i64 0, .int .i64 0, .int .i64 0, .int .u32 0] 47)).drew.heap.size ∧ (wr.alloc (.cells #[.int .i64 0, .int .i64 0, .int .i64 0, .int .i64 0, .int .u32 0] 47)).drew.cell? ⟨w2.heap.size, 5, none⟩ = some (.int .i64 0) ∧ (wr.alloc (.cells #[.int .i64 0, .int .i64 0, .int .i64 0, .int .i64 0, .int .u32 0] 47)).drew.cell? ⟨w2.heap.size, 6, none⟩ = some (.int .i64 0) ∧ (wr.alloc (.cells #[.int .i64 0, .int .i64 0, .int .i64 0, .int .i64 0, .int .u32 0] 47)).drew.cell? ⟨w2.heap.size, 7, none⟩ = some (.int .i64 0) ∧ (wr.alloc (.cells #[.int .i64 0, .int .i64 0, .int .i64 0, .int .i64 0, .int .u32 0] 47)).drew.cell? ⟨w2.heap.size, 8, none⟩ = some (.int .i64 0) ∧ (wr.alloc (.cells #[.int .i64 0, .int .i64 0, .int .i64 0, .int .i64 0, .int .u32 0] 47)).drew.cell? ⟨w2.heap.size, 9, none⟩ = some (.int .u32 0) ∧ wr.heap.size < (wr.alloc (.cells #[.int .i64 0, .int .i64 0, .int .i64 0, .int .i64 0, .int .u32 0] 47)).drew.heap.size ∧ (wr.alloc (.cells #[.int .i64 0, .int .i64 0, .int .i64 0, .int .i64 0, .int .u32 0] 47)).drew.cell? ⟨wr.heap.size, 0, none⟩ = some (.int .i64 0) ∧ (wr.alloc (.cells #[.int .i64 0, .int .i64 0, .int .i64 0, .int .i64 0, .int .u32 0] 47)).drew.cell? ⟨wr.heap.size, 1, none⟩ = some (.int .i64 0) ∧ (wr.alloc (.cells #[.int .i64 0, .int .i64 0, .int .i64 0, .int .i64 0, .int .u32 0] 47)).drew.cell? ⟨wr.heap.size, 2, none⟩ = some (.int .i64 0) ∧ (wr.alloc (.cells #[.int .i64 0, .int .i64 0, .int .i64 0, .int .i64 0, .int .u32 0] 47)).drew.cell? ⟨wr.heap.size, 3, none⟩ = some (.int .i64 0) ∧ (wr.alloc (.cells #[.int .i64 0, .int .i64 0, .int .i64 0, .int .i64 0, .int .u32 0] 47)).drew.cell? ⟨wr.heap.size, 4, none⟩ = some (.int .u32 0))) := Lib.hid ⟨hR.step (((Below.refl _ _).alloc (Nat.le_refl _) _).drew), by simp; omega, (World.cell?_alloc_lt wr _ ⟨w2.heap.size, 5, none⟩ hlt).trans q5, (World.cell?_alloc_lt wr _ ⟨w2.heap.size, 6, none⟩ hlt).trans q6, (World.cell?_alloc_lt wr _ ⟨w2.heap.size, 7, none⟩ hlt).trans q7, (World.cell?_alloc_lt wr _ ⟨w2.heap.size, 8, none⟩ hlt).trans q8, (World.cell?_alloc_lt wr _ ⟨w2.heap.size, 9, none⟩ hlt).trans q9, by simp, by simp, by simp, by simp, by simp, by simp⟩
      go_wp2_with fail
      go_region_held3 (fun w' => (KR w w2 w' #[.int .i64 x00, .int .i64 x01, .int .i64 x02, .int .i64 x03, .int .u32 x04, .int .i64 0, .int .i64 0, .int .i64 0, .int .i64 0, .int .u32 0, .int .i64 0, .int .i64 0, .int .i64 0, .int .i64 0, .int .u32 0] ∧ w2.heap.size < w'.heap.size ∧ w'.cell? ⟨w2.heap.size, 5, none⟩ = some (.int .i64 0) ∧ w'.cell? ⟨w2.heap.size, 6, none⟩ = some (.int .i64 0) ∧ w'.cell? ⟨w2.heap.size, 7, none⟩ = some (.int .i64 0) ∧ w'.cell? ⟨w2.heap.size, 8, none⟩ = some (.int .i64 0) ∧ w'.cell? ⟨w2.heap.size, 9, none⟩ = some (.int .u32 0) ∧ wr.heap.size < w'.heap.size ∧ w'.cell? ⟨wr.heap.size, 0, none⟩ = some (.int .i64 0) ∧ w'.cell? ⟨wr.heap.size, 1, none⟩ = some (.int .i64 0) ∧ w'.cell? ⟨wr.heap.size, 2, none⟩ = some (.int .i64 0) ∧ w'.cell? ⟨wr.heap.size, 3, none⟩ = some (.int .i64 0) ∧ w'.cell? ⟨wr.heap.size, 4, none⟩ = some (.int .u32 0))) (first | exact ST.out | assumption | exact keepZ1 (0) (0) (0) (0) (0) (by assumption) hb) (first | (go_at_call 33; refine (same_of (0) (0) (0) (0) (0) _).mono ?_; rintro e w' ⟨rfl, hb⟩))
      clear ST
      go_wp2
      go_roundw
      case rel =>
        refine ⟨.inr (.inr (.inl rfl)), ?_⟩
        apply And.left
        assumption
      case measure => simp [intOf]
    · obtain ⟨q0, q1, q2, q3, q4, q5, q6, q7, q8, q9, q10, q11, q12, q13, q14⟩ := q
      clear q0 q1 q2 q3 q4 q5 q6 q7 q8 q9
      have ST : Hid ((KR w w2 (wr.alloc (.cells #[.int .i64 0, .int .i64 0, .int .i64 0, .int .i64 0, .int .u32 0] 47)).drew #[.int .i64 x00, .int .i64 x01, .int .i64 x02, .int .i64 x03, .int .u32 x04, .int .i64 0, .int .i64 0, .int .i64 0, .int .i64 0, .int .u32 0, .int .i64 0, .int .i64 0, .int .i64 0, .int .i64 0, .int .u32 0] ∧ w2.heap.size < (wr.alloc (.cells #[.int .i64 0, .int .i64 0, .int .i64 0, .int .i64 0, .int .u32 0] 47)).drew.heap.size ∧ (wr.alloc (.cells #[.int .i64 0, .int .i64 0, .int .i64 0, .int .i64 0, .int .u32 0] 47)).drew.cell? ⟨w2.heap.size, 10, none⟩ = some (.int .i64 0) ∧ (wr.alloc (.cells #[.int .i64 0, .int .i64 0, .int .i64 0, .int .i64 0, .int .u32 0] 47)).drew.cell? ⟨w2.heap.size, 11, none⟩ = some (.int .i64 0) ∧ (wr.alloc (.cells #[.int .i64 0, .int .i64 0, .int .i64 0, .int .i64 0, .int .u32 0] 47)).drew.cell? ⟨w2.heap.size, 12, none⟩ = some (.int .i64 0) ∧ (wr.alloc (.cells #[.int .i64 0, .int .i64 0, .int .i64 0, .int .i64 0, .int .u32 0] 47)).drew.cell? ⟨w2.heap.size, 13, none⟩ = some (.int .i64 0) ∧ (wr.alloc (.cells #[.int .i64 0, .int .i64 0, .int .i64 0, .int .i64 0, .int .u32 0] 47)).drew.cell? ⟨w2.heap.size, 14, none⟩ = some (.int .u32 0) ∧ wr.heap.size < (wr.alloc (.cells #[.int .i64 0, .int .i64 0, .int .i64 0, .int .i64 0, .int .u32 0] 47)).drew.heap.size ∧ (wr.alloc (.cells #[.int .i64 0, .int .i64 0, .int .i64 0, .int .i64 0, .int .u32 0] 47)).drew.cell? ⟨wr.heap.size, 0, none⟩ = some (.int .i64 0) ∧ (wr.alloc (.cells #[.int .i64 0, .int .i64 0, .int .i64 0, .int .i64 0, .int .u32 0] 47)).drew.cell? ⟨wr.heap.size, 1, none⟩ = some (.int .i64 0) ∧ (wr.alloc (.cells #[.int .i64 0, .int .i64 0, .int .i64 0, .int .i64 0, .int .u32 0] 47)).drew.cell? ⟨wr.heap.size, 2, none⟩ = some (.int .i64 0) ∧ (wr.alloc (.cells #[.int .i64 0, .int .i64 0, .int .i64 0, .int .i64 0, .int .u32 0] 47)).drew.cell? ⟨wr.heap.size, 3, none⟩ = some (.int .i64 0) ∧ (wr.alloc (.cells #[.int .i64 0, .int .i64 0, .int .i64 0, .int .i64 0, .int .u32 0] 47)).drew.cell? ⟨wr.heap.size, 4, none⟩ = some (.int .u32 0))) := Lib.hid ⟨hR.step (((Below.refl _ _).alloc (Nat.le_refl _) _).drew), by simp; omega, (World.cell?_alloc_lt wr _ ⟨w2.heap.size, 10, none⟩ hlt).trans q10, (World.cell?_alloc_lt wr _ ⟨w2.heap.size, 11, none⟩ hlt).trans q11, (World.cell?_alloc_lt wr _ ⟨w2.heap.size, 12, none⟩ hlt).trans q12, (World.cell?_alloc_lt wr _ ⟨w2.heap.size, 13, none⟩ hlt).trans q13, (World.cell?_alloc_lt wr _ ⟨w2.heap.size, 14, none⟩ hlt).trans q14, by simp, by simp, by simp, by simp, by simp, by simp⟩
      go_wp2_with fail
      go_region_held3 (fun w' => (KR w w2 w' #[.int .i64 x00, .int .i64 x01, .int .i64 x02, .int .i64 x03, .int .u32 x04, .int .i64 0, .int .i64 0, .int .i64 0, .int .i64 0, .int .u32 0, .int .i64 0, .int .i64 0, .int .i64 0, .int .i64 0, .int .u32 0] ∧ w2.heap.size < w'.heap.size ∧ w'.cell? ⟨w2.heap.size, 10, none⟩ = some (.int .i64 0) ∧ w'.cell? ⟨w2.heap.size, 11, none⟩ = some (.int .i64 0) ∧ w'.cell? ⟨w2.heap.size, 12, none⟩ = some (.int .i64 0) ∧ w'.cell? ⟨w2.heap.size, 13, none⟩ = some (.int .i64 0) ∧ w'.cell? ⟨w2.heap.size, 14, none⟩ = some (.int .u32 0) ∧ wr.heap.size < w'.heap.size ∧ w'.cell? ⟨wr.heap.size, 0, none⟩ = some (.int .i64 0) ∧ w'.cell? ⟨wr.heap.size, 1, none⟩ = some (.int .i64 0) ∧ w'.cell? ⟨wr.heap.size, 2, none⟩ = some (.int .i64 0) ∧ w'.cell? ⟨wr.heap.size, 3, none⟩ = some (.int .i64 0) ∧ w'.cell? ⟨wr.heap.size, 4, none⟩ = some (.int .u32 0))) (first | exact ST.out | assumption | exact keepZ2 (0) (0) (0) (0) (0) (by assumption) hb) (first | (go_at_call 33; refine (same_of (0) (0) (0) (0) (0) _).mono ?_; rintro e w' ⟨rfl, hb⟩))
      clear ST
      go_wp2
      go_roundw
      case rel =>
        refine ⟨.inr (.inr (.inr rfl)), ?_⟩
        apply And.left
        assumption
      case measure => simp [intOf]
    · clear q
      go_wp2
      go_ret
      exact ⟨rfl, hR.bel⟩
set_option maxRecDepth 100000 in
set_option maxHeartbeats 4000000 in
theorem krows_2 (xb xo : Nat) (len cap : Nat) (x00 x01 x02 x03 x04 x10 x11 x12 x13 x14 : Int) (a0 b0 : Addr) (w : World) (hK : KW a0 b0 w w) (l1 : len = 2) (hx : xb < w.heap.size) (c00 : w.cell? ⟨xb, xo + 0, none⟩ = some (.int .i64 x00)) (c01 : w.cell? ⟨xb, xo + 1, none⟩ = some (.int .i64 x01)) (c02 : w.cell? ⟨xb, xo + 2, none⟩ = some (.int .i64 x02)) (c03 : w.cell? ⟨xb, xo + 3, none⟩ = some (.int .i64 x03)) (c04 : w.cell? ⟨xb, xo + 4, none⟩ = some (.int .u32 x04)) (c10 : w.cell? ⟨xb, xo + 5, none⟩ = some (.int .i64 x10)) (c11 : w.cell? ⟨xb, xo + 6, none⟩ = some (.int .i64 x11)) (c12 : w.cell? ⟨xb, xo + 7, none⟩ = some (.int .i64 x12)) (c13 : w.cell? ⟨xb, xo + 8, none⟩ = some (.int .i64 x13)) (c14 : w.cell? ⟨xb, xo + 9, none⟩ = some (.int .u32 x14)) :
    Calls Tryd.prog 11 #[.slice (some ⟨xb, xo, none⟩) len cap] w fun e w' => e = .returned (.bool true) ∧ Below w.heap.size w w' := by
  subst l1
  have C00 := Lib.hid c00
  have C01 := Lib.hid c01
  have C02 := Lib.hid c02
  have C03 := Lib.hid c03
  have C04 := Lib.hid c04
  have C10 := Lib.hid c10
  have C11 := Lib.hid c11
  have C12 := Lib.hid c12
  have C13 := Lib.hid c13
  have C14 := Lib.hid c14
  clear c00 c01 c02 c03 c04 c10 c11 c12 c13 c14
  go_enter Tryd.func11, Tryd.ntmps11
  go_wp2_with (first | (go_at_call 26; refine (kfirst_any _ hK.2.2.1 hK.2.2.2).mono ?_; rintro e w1 ⟨rfl, hb⟩; replace hK := hK.step hb; clear hb) | (go_at_call 40; refine (krow_2 ⟨xb, xo, none⟩ 2 cap x00 x01 x02 x03 x04 x10 x11 x12 x13 x14 _ (by simp) (by simpa [Addr.add] using (hK.bel.cell (p := ⟨xb, xo + 0, none⟩) hx).trans C00.out) (by simpa [Addr.add] using (hK.bel.cell (p := ⟨xb, xo + 1, none⟩) hx).trans C01.out) (by simpa [Addr.add] using (hK.bel.cell (p := ⟨xb, xo + 2, none⟩) hx).trans C02.out) (by simpa [Addr.add] using (hK.bel.cell (p := ⟨xb, xo + 3, none⟩) hx).trans C03.out) (by simpa [Addr.add] using (hK.bel.cell (p := ⟨xb, xo + 4, none⟩) hx).trans C04.out) (by simpa [Addr.add] using (hK.bel.cell (p := ⟨xb, xo + 5, none⟩) hx).trans C10.out) (by simpa [Addr.add] using (hK.bel.cell (p := ⟨xb, xo + 6, none⟩) hx).trans C11.out) (by simpa [Addr.add] using (hK.bel.cell (p := ⟨xb, xo + 7, none⟩) hx).trans C12.out) (by simpa [Addr.add] using (hK.bel.cell (p := ⟨xb, xo + 8, none⟩) hx).trans C13.out) (by simpa [Addr.add] using (hK.bel.cell (p := ⟨xb, xo + 9, none⟩) hx).trans C14.out)).mono ?_; rintro e w2 ⟨rfl, hb⟩; have hB := hK.bel.trans (hb.mono hK.bel.size); clear hb))
  go_loopw [5] (fun i wr => (i = .int .i64 0 ∨ i = .int .i64 1 ∨ i = .int .i64 2 ∨ i = .int .i64 3) ∧ KR w w2 wr #[.int .i64 x00, .int .i64 x01, .int .i64 x02, .int .i64 x03, .int .u32 x04, .int .i64 x10, .int .i64 x11, .int .i64 x12, .int .i64 x13, .int .u32 x14, .int .i64 0, .int .i64 0, .int .i64 0, .int .i64 0, .int .u32 0]) (fun i _ => 3 - (intOf i).toNat)
  case atStart => exact ⟨.inl rfl, hB.alloc hB.size _, hB.size, by simp, heap_alloc_new _ _⟩
  case round =>
    obtain ⟨hi, hR⟩ := hrel
    obtain ⟨hlt, q⟩ := cells15 hR.2.2.2
    have hw2 : w.heap.size ≤ w2.heap.size := hR.2.1
    rcases hi with rfl | rfl | rfl | rfl
    · obtain ⟨q0, q1, q2, q3, q4, q5, q6, q7, q8, q9, q10, q11, q12, q13, q14⟩ := q
      clear q5 q6 q7 q8 q9 q10 q11 q12 q13 q14
      have hxr : xb < wr.heap.size := Nat.lt_of_lt_of_le hx hR.bel.size
      have d0 : wr.cell? ⟨xb, xo, none⟩ = some (.int .i64 x00) := (hR.bel.cell (p := ⟨xb, xo + 0, none⟩) hx).trans C00.out
      have d1 : wr.cell? ⟨xb, xo + 1, none⟩ = some (.int .i64 x01) := (hR.bel.cell (p := ⟨xb, xo + 1, none⟩) hx).trans C01.out
      have d2 : wr.cell? ⟨xb, xo + 2, none⟩ = some (.int .i64 x02) := (hR.bel.cell (p := ⟨xb, xo + 2, none⟩) hx).trans C02.out
      have d3 : wr.cell? ⟨xb, xo + 3, none⟩ = some (.int .i64 x03) := (hR.bel.cell (p := ⟨xb, xo + 3, none⟩) hx).trans C03.out
      have d4 : wr.cell? ⟨xb, xo + 4, none⟩ = some (.int .u32 x04) := (hR.bel.cell (p := ⟨xb, xo + 4, none⟩) hx).trans C04.out
      have ST : Hid ((KR w w2 (wr.alloc (.cells #[.int .i64 x00, .int .i64 x01, .int .i64 x02, .int .i64 x03, .int .u32 x04] 47)).drew #[.int .i64 x00, .int .i64 x01, .int .i64 x02, .int .i64 x03, .int .u32 x04, .int .i64 x10, .int .i64 x11, .int .i64 x12, .int .i64 x13, .int .u32 x14, .int .i64 0, .int .i64 0, .int .i64 0, .int .i64 0, .int .u32 0] ∧ w2.heap.size < (wr.alloc (.cells #[.int .i64 x00, .int .i64 x01, .int .i64 x02, .int .i64 x03, .int .u32 x04] 47)).drew.heap.size ∧ (wr.alloc (.cells #[.int .i64 x00, .int .i64 x01, .int .i64 x02, .int .i64 x03, .int .u32 x04] 47)).drew.cell? ⟨w2.heap.size, 0, none⟩ = some (.int .i64 x00) ∧ (wr.alloc (.cells #[.int .i64 x00, .int .i64 x01, .int .i64 x02, .int .i64 x03, .int .u32 x04] 47)).drew.cell? ⟨w2.heap.size, 1, none⟩ = some (.int .i64 x01) ∧ (wr.alloc (.cells #[.int .i64 x00, .int .i64 x01, .int .i64 x02, .int .i64 x03, .int .u32 x04] 47)).drew.cell? ⟨w2.heap.size, 2, none⟩ = some (.int .i64 x02) ∧ (wr.alloc (.cells #[.int .i64 x00, .int .i64 x01, .int .i64 x02, .int .i64 x03, .int .u32 x04] 47)).drew.cell? ⟨w2.heap.size, 3, none⟩ = some (.int .i64 x03) ∧ (wr.alloc (.cells #[.int .i64 x00, .int .i64 x01, .int .i64 x02, .int .i64 x03, .int .u32 x04] 47)).drew.cell? ⟨w2.heap.size, 4, none⟩ = some (.int .u32 x04) ∧ wr.heap.size < (wr.alloc (.cells #[.int .i64 x00, .int .i64 x01, .int .i64 x02, .int .i64 x03, .int .u32 x04] 47)).drew.heap.size ∧ (wr.alloc (.cells #[.int .i64 x00, .int .i64 x01, .int .i64 x02, .int .i64 x03, .int .u32 x04] 47)).drew.cell? ⟨wr.heap.size, 0, none⟩ = some (.int .i64 x00) ∧ (wr.alloc (.cells #[.int .i64 x00, .int .i64 x01, .int .i64 x02, .int .i64 x03, .int .u32 x04] 47)).drew.cell? ⟨wr.heap.size, 1, none⟩ = some (.int .i64 x01) ∧ (wr.alloc (.cells #[.int .i64 x00, .int .i64 x01, .int .i64 x02, .int .i64 x03, .int .u32 x04] 47)).drew.cell? ⟨wr.heap.size, 2, none⟩ = some (.int .i64 x02) ∧ (wr.alloc (.cells #[.int .i64 x00, .int .i64 x01, .int .i64 x02, .int .i64 x03, .int .u32 x04] 47)).drew.cell? ⟨wr.heap.size, 3, none⟩ = some (.int .i64 x03) ∧ (wr.alloc (.cells #[.int .i64 x00, .int .i64 x01, .int .i64 x02, .int .i64 x03, .int .u32 x04] 47)).drew.cell? ⟨wr.heap.size, 4, none⟩ = some (.int .u32 x04))) := Lib.hid ⟨hR.step (((Below.refl _ _).alloc (Nat.le_refl _) _).drew), by simp; omega, (World.cell?_alloc_lt wr _ ⟨w2.heap.size, 0, none⟩ hlt).trans q0, (World.cell?_alloc_lt wr _ ⟨w2.heap.size, 1, none⟩ hlt).trans q1, (World.cell?_alloc_lt wr _ ⟨w2.heap.size, 2, none⟩ hlt).trans q2, (World.cell?_alloc_lt wr _ ⟨w2.heap.size, 3, none⟩ hlt).trans q3, (World.cell?_alloc_lt wr _ ⟨w2.heap.size, 4, none⟩ hlt).trans q4, by simp, by simp, by simp, by simp, by simp, by simp⟩
      go_wp2_with fail
      go_region_held3 (fun w' => (KR w w2 w' #[.int .i64 x00, .int .i64 x01, .int .i64 x02, .int .i64 x03, .int .u32 x04, .int .i64 x10, .int .i64 x11, .int .i64 x12, .int .i64 x13, .int .u32 x14, .int .i64 0, .int .i64 0, .int .i64 0, .int .i64 0, .int .u32 0] ∧ w2.heap.size < w'.heap.size ∧ w'.cell? ⟨w2.heap.size, 0, none⟩ = some (.int .i64 x00) ∧ w'.cell? ⟨w2.heap.size, 1, none⟩ = some (.int .i64 x01) ∧ w'.cell? ⟨w2.heap.size, 2, none⟩ = some (.int .i64 x02) ∧ w'.cell? ⟨w2.heap.size, 3, none⟩ = some (.int .i64 x03) ∧ w'.cell? ⟨w2.heap.size, 4, none⟩ = some (.int .u32 x04) ∧ wr.heap.size < w'.heap.size ∧ w'.cell? ⟨wr.heap.size, 0, none⟩ = some (.int .i64 x00) ∧ w'.cell? ⟨wr.heap.size, 1, none⟩ = some (.int .i64 x01) ∧ w'.cell? ⟨wr.heap.size, 2, none⟩ = some (.int .i64 x02) ∧ w'.cell? ⟨wr.heap.size, 3, none⟩ = some (.int .i64 x03) ∧ w'.cell? ⟨wr.heap.size, 4, none⟩ = some (.int .u32 x04))) (first | exact ST.out | assumption | exact keepZ0 (x00) (x01) (x02) (x03) (x04) (by assumption) hb) (first | (go_at_call 33; refine (same_of (x00) (x01) (x02) (x03) (x04) _).mono ?_; rintro e w' ⟨rfl, hb⟩))
      clear ST
      go_wp2
      go_roundw
      case rel =>
        refine ⟨.inr (.inl rfl), ?_⟩
        apply And.left
        assumption
      case measure => simp [intOf]
    · obtain ⟨q0, q1, q2, q3, q4, q5, q6, q7, q8, q9, q10, q11, q12, q13, q14⟩ := q
      clear q0 q1 q2 q3 q4 q10 q11 q12 q13 q14
      have hxr : xb < wr.heap.size := Nat.lt_of_lt_of_le hx hR.bel.size
      have d0 : wr.cell? ⟨xb, xo + 5, none⟩ = some (.int .i64 x10) := (hR.bel.cell (p := ⟨xb, xo + 5, none⟩) hx).trans C10.out
      have d1 : wr.cell? ⟨xb, xo + 5 + 1, none⟩ = some (.int .i64 x11) := (hR.bel.cell (p := ⟨xb, xo + 6, none⟩) hx).trans C11.out
      have d2 : wr.cell? ⟨xb, xo + 5 + 2, none⟩ = some (.int .i64 x12) := (hR.bel.cell (p := ⟨xb, xo + 7, none⟩) hx).trans C12.out
      have d3 : wr.cell? ⟨xb, xo + 5 + 3, none⟩ = some (.int .i64 x13) := (hR.bel.cell (p := ⟨xb, xo + 8, none⟩) hx).trans C13.out
      have d4 : wr.cell? ⟨xb, xo + 5 + 4, none⟩ = some (.int .u32 x14) := (hR.bel.cell (p := ⟨xb, xo + 9, none⟩) hx).trans C14.out
      have ST : Hid ((KR w w2 (wr.alloc (.cells #[.int .i64 x10, .int .i64 x11, .int .i64 x12, .int .i64 x13, .int .u32 x14] 47)).drew #[.int .i64 x00, .int .i64 x01, .int .i64 x02, .int .i64 x03, .int .u32 x04, .int .i64 x10, .int .i64 x11, .int .i64 x12, .int .i64 x13, .int .u32 x14, .int .i64 0, .int .i64 0, .int .i64 0, .int .i64 0, .int .u32 0] ∧ w2.heap.size < (wr.alloc (.cells #[.int .i64 x10, .int .i64 x11, .int .i64 x12, .int .i64 x13, .int .u32 x14] 47)).drew.heap.size ∧ (wr.alloc (.cells #[.int .i64 x10, .int .i64 x11, .int .i64 x12, .int .i64 x13, .int .u32 x14] 47)).drew.cell? ⟨w2.heap.size, 5, none⟩ = some (.int .i64 x10) ∧ (wr.alloc (.cells #[.int .i64 x10, .int .i64 x11, .int .i64 x12, .int .i64 x13, .int .u32 x14] 47)).drew.cell? ⟨w2.heap.size, 6, none⟩ = some (.int .i64 x11) ∧ (wr.alloc (.cells #[.int .i64 x10, .int .i64 x11, .int .i64 x12, .int .i64 x13, .int .u32 x14] 47)).drew.cell? ⟨w2.heap.size, 7, none⟩ = some (.int .i64 x12) ∧ (wr.alloc (.cells #[.int .i64 x10, .int .i64 x11, .int .i64 x12, .int .i64 x13, .int .u32 x14] 47)).drew.cell? ⟨w2.heap.size, 8, none⟩ = some (.int .i64 x13) ∧ (wr.alloc (.cells #[.int .i64 x10, .int .i64 x11, .int .i64 x12, .int .i64 x13, .int .u32 x14] 47)).drew.cell? ⟨w2.heap.size, 9, none⟩ = some (.int .u32 x14) ∧ wr.heap.size < (wr.alloc (.cells #[.int .i64 x10, .int .i64 x11, .int .i64 x12, .int .i64 x13, .int .u32 x14] 47)).drew.heap.size ∧ (wr.alloc (.cells #[.int .i64 x10, .int .i64 x11, .int .i64 x12, .int .i64 x13, .int .u32 x14] 47)).drew.cell? ⟨wr.heap.size, 0, none⟩ = some (.int .i64 x10) ∧ (wr.alloc (.cells #[.int .i64 x10, .int .i64 x11, .int .i64 x12, .int .i64 x13, .int .u32 x14] 47)).drew.cell? ⟨wr.heap.size, 1, none⟩ = some (.int .i64 x11) ∧ (wr.alloc (.cells #[.int .i64 x10, .int .i64 x11, .int .i64 x12, .int .i64 x13, .int .u32 x14] 47)).drew.cell? ⟨wr.heap.size, 2, none⟩ = some (.int .i64 x12) ∧ (wr.alloc (.cells #[.int .i64 x10, .int .i64 x11, .int .i64 x12, .int .i64 x13, .int .u32 x14] 47)).drew.cell? ⟨wr.heap.size, 3, none⟩ = some (.int .i64 x13) ∧ (wr.alloc (.cells #[.int .i64 x10, .int .i64 x11, .int .i64 x12, .int .i64 x13, .int .u32 x14] 47)).drew.cell? ⟨wr.heap.size, 4, none⟩ = some (.int .u32 x14))) := Lib.hid ⟨hR.step (((Below.refl _ _).alloc (Nat.le_refl _) _).drew), by simp; omega, (World.cell?_alloc_lt wr _ ⟨w2.heap.size, 5, none⟩ hlt).trans q5, (World.cell?_alloc_lt wr _ ⟨w2.heap.size, 6, none⟩ hlt).trans q6, (World.cell?_alloc_lt wr _ ⟨w2.heap.size, 7, none⟩ hlt).trans q7, (World.cell?_alloc_lt wr _ ⟨w2.heap.size, 8, none⟩ hlt).trans q8, (World.cell?_alloc_lt wr _ ⟨w2.heap.size, 9, none⟩ hlt).trans q9, by simp, by simp, by simp, by simp, by simp, by simp⟩
      go_wp2_with fail
      go_region_held3 (fun w' => (KR w w2 w' #[.int .i64 x00, .int .i64 x01, .int .i64 x02, .int .i64 x03, .int .u32 x04, .int .i64 x10, .int .i64 x11, .int .i64 x12, .int .i64 x13, .int .u32 x14, .int .i64 0, .int .i64 0, .int .i64 0, .int .i64 0, .int .u32 0] ∧ w2.heap.size < w'.heap.size ∧ w'.cell? ⟨w2.heap.size, 5, none⟩ = some (.int .i64 x10) ∧ w'.cell? ⟨w2.heap.size, 6, none⟩ = some (.int .i64 x11) ∧ w'.cell? ⟨w2.heap.size, 7, none⟩ = some (.int .i64 x12) ∧ w'.cell? ⟨w2.heap.size, 8, none⟩ = some (.int .i64 x13) ∧ w'.cell? ⟨w2.heap.size, 9, none⟩ = some (.int .u32 x14) ∧ wr.heap.size < w'.heap.size ∧ w'.cell? ⟨wr.heap.size, 0, none⟩ = some (.int .i64 x10) ∧ w'.cell? ⟨wr.heap.size, 1, none⟩ = some (.int .i64 x11) ∧ w'.cell? ⟨wr.heap.size, 2, none⟩ = some (.int .i64 x12) ∧ w'.cell? ⟨wr.heap.size, 3, none⟩ = some (.int .i64 x13) ∧ w'.cell? ⟨wr.heap.size, 4, none⟩ = some (.int .u32 x14))) (first | exact ST.out | assumption | exact keepZ1 (x10) (x11) (x12) (x13) (x14) (by assumption) hb) (first | (go_at_call 33; refine (same_of (x10) (x11) (x12) (x13) (x14) _).mono ?_; rintro e w' ⟨rfl, hb⟩))
      clear ST
      go_wp2
      go_roundw
      case rel =>
        refine ⟨.inr (.inr (.inl rfl)), ?_⟩
        apply And.left
        assumption
      case measure => simp [intOf]
    · obtain ⟨q0, q1, q2, q3, q4, q5, q6, q7, q8, q9, q10, q11, q12, q13, q14⟩ := q
      clear q0 q1 q2 q3 q4 q5 q6 q7 q8 q9
      have ST : Hid ((KR w w2 (wr.alloc (.cells #[.int .i64 0, .int .i64 0, .int .i64 0, .int .i64 0, .int .u32 0] 47)).drew #[.int .i64 x00, .int .i64 x01, .int .i64 x02, .int .i64 x03, .int .u32 x04, .int .i64 x10, .int .i64 x11, .int .i64 x12, .int .i64 x13, .int .u32 x14, .int .i64 0, .int .i64 0, .int .i64 0, .int .i64 0, .int .u32 0] ∧ w2.heap.size < (wr.alloc (.cells #[.int .i64 0, .int .i64 0, .int .i64 0, .int .i64 0, .int .u32 0] 47)).drew.heap.size ∧ (wr.alloc (.cells #[.int .i64 0, .int .i64 0, .int .i64 0, .int .i64 0, .int .u32 0] 47)).drew.cell? ⟨w2.heap.size, 10, none⟩ = some (.int .i64 0) ∧ (wr.alloc (.cells #[.int .i64 0, .int .i64 0, .int .i64 0, .int .i64 0, .int .u32 0] 47)).drew.cell? ⟨w2.heap.size, 11, none⟩ = some (.int .i64 0) ∧ (wr.alloc (.cells #[.int .i64 0, .int .i64 0, .int .i64 0, .int .i64 0, .int .u32 0] 47)).drew.cell? ⟨w2.heap.size, 12, none⟩ = some (.int .i64 0) ∧ (wr.alloc (.cells #[.int .i64 0, .int .i64 0, .int .i64 0, .int .i64 0, .int .u32 0] 47)).drew.cell? ⟨w2.heap.size, 13, none⟩ = some (.int .i64 0) ∧ (wr.alloc (.cells #[.int .i64 0, .int .i64 0, .int .i64 0, .int .i64 0, .int .u32 0] 47)).drew.cell? ⟨w2.heap.size, 14, none⟩ = some (.int .u32 0) ∧ wr.heap.size < (wr.alloc (.cells #[.int .i64 0, .int .i64 0, .int .i64 0, .int .i64 0, .int .u32 0] 47)).drew.heap.size ∧ (wr.alloc (.cells #[.int .i64 0, .int .i64 0, .int .i64 0, .int .i64 0, .int .u32 0] 47)).drew.cell? ⟨wr.heap.size, 0, none⟩ = some (.int .i64 0) ∧ (wr.alloc (.cells #[.int .i64 0, .int .i64 0, .int .i64 0, .int .i64 0, .int .u32 0] 47)).drew.cell? ⟨wr.heap.size, 1, none⟩ = some (.int .i64 0) ∧ (wr.alloc (.cells #[.int .i64 0, .int .i64 0, .int .i64 0, .int .i64 0, .int .u32 0] 47)).drew.cell? ⟨wr.heap.size, 2, none⟩ = some (.int .i64 0) ∧ (wr.alloc (.cells #[.int .i64 0, .int .i64 0, .int .i64 0, .int .i64 0, .int .u32 0] 47)).drew.cell? ⟨wr.heap.size, 3, none⟩ = some (.int .i64 0) ∧ (wr.alloc (.cells #[.int .i64 0, .int .i64 0, .int .i64 0, .int .i64 0, .int .u32 0] 47)).drew.cell? ⟨wr.heap.size, 4, none⟩ = some (.int .u32 0))) := Lib.hid ⟨hR.step (((Below.refl _ _).alloc (Nat.le_refl _) _).drew), by simp; omega, (World.cell?_alloc_lt wr _ ⟨w2.heap.size, 10, none⟩ hlt).trans q10, (World.cell?_alloc_lt wr _ ⟨w2.heap.size, 11, none⟩ hlt).trans q11, (World.cell?_alloc_lt wr _ ⟨w2.heap.size, 12, none⟩ hlt).trans q12, (World.cell?_alloc_lt wr _ ⟨w2.heap.size, 13, none⟩ hlt).trans q13, (World.cell?_alloc_lt wr _ ⟨w2.heap.size, 14, none⟩ hlt).trans q14, by simp, by simp, by simp, by simp, by simp, by simp⟩
      go_wp2_with fail
      go_region_held3 (fun w' => (KR w w2 w' #[.int .i64 x00, .int .i64 x01, .int .i64 x02, .int .i64 x03, .int .u32 x04, .int .i64 x10, .int .i64 x11, .int .i64 x12, .int .i64 x13, .int .u32 x14, .int .i64 0, .int .i64 0, .int .i64 0, .int .i64 0, .int .u32 0] ∧ w2.heap.size < w'.heap.size ∧ w'.cell? ⟨w2.heap.size, 10, none⟩ = some (.int .i64 0) ∧ w'.cell? ⟨w2.heap.size, 11, none⟩ = some (.int .i64 0) ∧ w'.cell? ⟨w2.heap.size, 12, none⟩ = some (.int .i64 0) ∧ w'.cell? ⟨w2.heap.size, 13, none⟩ = some (.int .i64 0) ∧ w'.cell? ⟨w2.heap.size, 14, none⟩ = some (.int .u32 0) ∧ wr.heap.size < w'.heap.size ∧ w'.cell? ⟨wr.heap.size, 0, none⟩ = some (.int .i64 0) ∧ w'.cell? ⟨wr.heap.size, 1, none⟩ = some (.int .i64 0) ∧ w'.cell? ⟨wr.heap.size, 2, none⟩ = some (.int .i64 0) ∧ w'.cell? ⟨wr.heap.size, 3, none⟩ = some (.int .i64 0) ∧ w'.cell? ⟨wr.heap.size, 4, none⟩ = some (.int .u32 0))) (first | exact ST.out | assumption | exact keepZ2 (0) (0) (0) (0) (0) (by assumption) hb) (first | (go_at_call 33; refine (same_of (0) (0) (0) (0) (0) _).mono ?_; rintro e w' ⟨rfl, hb⟩))
      clear ST
      go_wp2
      go_roundw
      case rel =>
        refine ⟨.inr (.inr (.inr rfl)), ?_⟩
        apply And.left
        assumption
      case measure => simp [intOf]
    · clear q
      go_wp2
      go_ret
      exact ⟨rfl, hR.bel⟩
set_option maxRecDepth 100000 in
set_option maxHeartbeats 4000000 in
theorem krows_3 (xb xo : Nat) (len cap : Nat) (x00 x01 x02 x03 x04 x10 x11 x12 x13 x14 x20 x21 x22 x23 x24 : Int) (a0 b0 : Addr) (w : World) (hK : KW a0 b0 w w) (l0 : 3 ≤ len) (l1 : len ≤ 10) (hx : xb < w.heap.size) (c00 : w.cell? ⟨xb, xo + 0, none⟩ = some (.int .i64 x00)) (c01 : w.cell? ⟨xb, xo + 1, none⟩ = some (.int .i64 x01)) (c02 : w.cell? ⟨xb, xo + 2, none⟩ = some (.int .i64 x02)) (c03 : w.cell? ⟨xb, xo + 3, none⟩ = some (.int .i64 x03)) (c04 : w.cell? ⟨xb, xo + 4, none⟩ = some (.int .u32 x04)) (c10 : w.cell? ⟨xb, xo + 5, none⟩ = some (.int .i64 x10)) (c11 : w.cell? ⟨xb, xo + 6, none⟩ = some (.int .i64 x11)) (c12 : w.cell? ⟨xb, xo + 7, none⟩ = some (.int .i64 x12)) (c13 : w.cell? ⟨xb, xo + 8, none⟩ = some (.int .i64 x13)) (c14 : w.cell? ⟨xb, xo + 9, none⟩ = some (.int .u32 x14)) (c20 : w.cell? ⟨xb, xo + 10, none⟩ = some (.int .i64 x20)) (c21 : w.cell? ⟨xb, xo + 11, none⟩ = some (.int .i64 x21)) (c22 : w.cell? ⟨xb, xo + 12, none⟩ = some (.int .i64 x22)) (c23 : w.cell? ⟨xb, xo + 13, none⟩ = some (.int .i64 x23)) (c24 : w.cell? ⟨xb, xo + 14, none⟩ = some (.int .u32 x24)) :
    Calls Tryd.prog 11 #[.slice (some ⟨xb, xo, none⟩) len cap] w fun e w' => e = .returned (.bool true) ∧ Below w.heap.size w w' := by
  have C00 := Lib.hid c00
  have C01 := Lib.hid c01
  have C02 := Lib.hid c02
  have C03 := Lib.hid c03
  have C04 := Lib.hid c04
  have C10 := Lib.hid c10
  have C11 := Lib.hid c11
  have C12 := Lib.hid c12
  have C13 := Lib.hid c13
  have C14 := Lib.hid c14
  have C20 := Lib.hid c20
  have C21 := Lib.hid c21
  have C22 := Lib.hid c22
  have C23 := Lib.hid c23
  have C24 := Lib.hid c24
  clear c00 c01 c02 c03 c04 c10 c11 c12 c13 c14 c20 c21 c22 c23 c24
  go_enter Tryd.func11, Tryd.ntmps11
  go_wp2_with (first | (go_at_call 26; refine (kfirst_any _ hK.2.2.1 hK.2.2.2).mono ?_; rintro e w1 ⟨rfl, hb⟩; replace hK := hK.step hb; clear hb) | (go_at_call 40; refine (krow_3 ⟨xb, xo, none⟩ len cap x00 x01 x02 x03 x04 x10 x11 x12 x13 x14 x20 x21 x22 x23 x24 _ (by simp [Nat.min_def]; omega) (by simpa [Addr.add] using (hK.bel.cell (p := ⟨xb, xo + 0, none⟩) hx).trans C00.out) (by simpa [Addr.add] using (hK.bel.cell (p := ⟨xb, xo + 1, none⟩) hx).trans C01.out) (by simpa [Addr.add] using (hK.bel.cell (p := ⟨xb, xo + 2, none⟩) hx).trans C02.out) (by simpa [Addr.add] using (hK.bel.cell (p := ⟨xb, xo + 3, none⟩) hx).trans C03.out) (by simpa [Addr.add] using (hK.bel.cell (p := ⟨xb, xo + 4, none⟩) hx).trans C04.out) (by simpa [Addr.add] using (hK.bel.cell (p := ⟨xb, xo + 5, none⟩) hx).trans C10.out) (by simpa [Addr.add] using (hK.bel.cell (p := ⟨xb, xo + 6, none⟩) hx).trans C11.out) (by simpa [Addr.add] using (hK.bel.cell (p := ⟨xb, xo + 7, none⟩) hx).trans C12.out) (by simpa [Addr.add] using (hK.bel.cell (p := ⟨xb, xo + 8, none⟩) hx).trans C13.out) (by simpa [Addr.add] using (hK.bel.cell (p := ⟨xb, xo + 9, none⟩) hx).trans C14.out) (by simpa [Addr.add] using (hK.bel.cell (p := ⟨xb, xo + 10, none⟩) hx).trans C20.out) (by simpa [Addr.add] using (hK.bel.cell (p := ⟨xb, xo + 11, none⟩) hx).trans C21.out) (by simpa [Addr.add] using (hK.bel.cell (p := ⟨xb, xo + 12, none⟩) hx).trans C22.out) (by simpa [Addr.add] using (hK.bel.cell (p := ⟨xb, xo + 13, none⟩) hx).trans C23.out) (by simpa [Addr.add] using (hK.bel.cell (p := ⟨xb, xo + 14, none⟩) hx).trans C24.out)).mono ?_; rintro e w2 ⟨rfl, hb⟩; have hB := hK.bel.trans (hb.mono hK.bel.size); clear hb))
  go_loopw [5] (fun i wr => (i = .int .i64 0 ∨ i = .int .i64 1 ∨ i = .int .i64 2 ∨ i = .int .i64 3) ∧ KR w w2 wr #[.int .i64 x00, .int .i64 x01, .int .i64 x02, .int .i64 x03, .int .u32 x04, .int .i64 x10, .int .i64 x11, .int .i64 x12, .int .i64 x13, .int .u32 x14, .int .i64 x20, .int .i64 x21, .int .i64 x22, .int .i64 x23, .int .u32 x24]) (fun i _ => 3 - (intOf i).toNat)
  case atStart => exact ⟨.inl rfl, hB.alloc hB.size _, hB.size, by simp, heap_alloc_new _ _⟩
  case round =>
    obtain ⟨hi, hR⟩ := hrel
    obtain ⟨hlt, q⟩ := cells15 hR.2.2.2
    have hw2 : w.heap.size ≤ w2.heap.size := hR.2.1
    rcases hi with rfl | rfl | rfl | rfl
    · obtain ⟨q0, q1, q2, q3, q4, q5, q6, q7, q8, q9, q10, q11, q12, q13, q14⟩ := q
      clear q5 q6 q7 q8 q9 q10 q11 q12 q13 q14
      have hxr : xb < wr.heap.size := Nat.lt_of_lt_of_le hx hR.bel.size
      have d0 : wr.cell? ⟨xb, xo, none⟩ = some (.int .i64 x00) := (hR.bel.cell (p := ⟨xb, xo + 0, none⟩) hx).trans C00.out
      have d1 : wr.cell? ⟨xb, xo + 1, none⟩ = some (.int .i64 x01) := (hR.bel.cell (p := ⟨xb, xo + 1, none⟩) hx).trans C01.out
      have d2 : wr.cell? ⟨xb, xo + 2, none⟩ = some (.int .i64 x02) := (hR.bel.cell (p := ⟨xb, xo + 2, none⟩) hx).trans C02.out
      have d3 : wr.cell? ⟨xb, xo + 3, none⟩ = some (.int .i64 x03) := (hR.bel.cell (p := ⟨xb, xo + 3, none⟩) hx).trans C03.out
      have d4 : wr.cell? ⟨xb, xo + 4, none⟩ = some (.int .u32 x04) := (hR.bel.cell (p := ⟨xb, xo + 4, none⟩) hx).trans C04.out
      have ST : Hid ((KR w w2 (wr.alloc (.cells #[.int .i64 x00, .int .i64 x01, .int .i64 x02, .int .i64 x03, .int .u32 x04] 47)).drew #[.int .i64 x00, .int .i64 x01, .int .i64 x02, .int .i64 x03, .int .u32 x04, .int .i64 x10, .int .i64 x11, .int .i64 x12, .int .i64 x13, .int .u32 x14, .int .i64 x20, .int .i64 x21, .int .i64 x22, .int .i64 x23, .int .u32 x24] ∧ w2.heap.size < (wr.alloc (.cells #[.int .i64 x00, .int .i64 x01, .int .i64 x02, .int .i64 x03, .int .u32 x04] 47)).drew.heap.size ∧ (wr.alloc (.cells #[.int .i64 x00, .int .i64 x01, .int .i64 x02, .int .i64 x03, .int .u32 x04] 47)).drew.cell? ⟨w2.heap.size, 0, none⟩ = some (.int .i64 x00) ∧ (wr.alloc (.cells #[.int .i64 x00, .int .i64 x01, .int .i64 x02, .int .i64 x03, .int .u32 x04] 47)).drew.cell? ⟨w2.heap.size, 1, none⟩ = some (.int .i64 x01) ∧ (wr.alloc (.cells #[.int .i64 x00, .int .i64 x01, .int .i64 x02, .int .i64 x03, .int .u32 x04] 47)).drew.cell? ⟨w2.heap.size, 2, none⟩ = some (.int .i64 x02) ∧ (wr.alloc (.cells #[.int .i64 x00, .int .i64 x01, .int .i64 x02, .int .i64 x03, .int .u32 x04] 47)).drew.cell? ⟨w2.heap.size, 3, none⟩ = some (.int .i64 x03) ∧ (wr.alloc (.cells #[.int .i64 x00, .int .i64 x01, .int .i64 x02, .int .i64 x03, .int .u32 x04] 47)).drew.cell? ⟨w2.heap.size, 4, none⟩ = some (.int .u32 x04) ∧ wr.heap.size < (wr.alloc (.cells #[.int .i64 x00, .int .i64 x01, .int .i64 x02, .int .i64 x03, .int .u32 x04] 47)).drew.heap.size ∧ (wr.alloc (.cells #[.int .i64 x00, .int .i64 x01, .int .i64 x02, .int .i64 x03, .int .u32 x04] 47)).drew.cell? ⟨wr.heap.size, 0, none⟩ = some (.int .i64 x00) ∧ (wr.alloc (.cells #[.int .i64 x00, .int .i64 x01, .int .i64 x02, .int .i64 x03, .int .u32 x04] 47)).drew.cell? ⟨wr.heap.size, 1, none⟩ = some (.int .i64 x01) ∧ (wr.alloc (.cells #[.int .i64 x00, .int .i64 x01, .int .i64 x02, .int .i64 x03, .int .u32 x04] 47)).drew.cell? ⟨wr.heap.size, 2, none⟩ = some (.int .i64 x02) ∧ (wr.alloc (.cells #[.int .i64 x00, .int .i64 x01, .int .i64 x02, .int .i64 x03, .int .u32 x04] 47)).drew.cell? ⟨wr.heap.size, 3, none⟩ = some (.int .i64 x03) ∧ (wr.alloc (.cells #[.int .i64 x00, .int .i64 x01, .int .i64 x02, .int .i64 x03, .int .u32 x04] 47)).drew.cell? ⟨wr.heap.size, 4, none⟩ = some (.int .u32 x04))) := Lib.hid ⟨hR.step (((Below.refl _ _).alloc (Nat.le_refl _) _).drew), by simp; omega, (World.cell?_alloc_lt wr _ ⟨w2.heap.size, 0, none⟩ hlt).trans q0, (World.cell?_alloc_lt wr _ ⟨w2.heap.size, 1, none⟩ hlt).trans q1, (World.cell?_alloc_lt wr _ ⟨w2.heap.size, 2, none⟩ hlt).trans q2, (World.cell?_alloc_lt wr _ ⟨w2.heap.size, 3, none⟩ hlt).trans q3, (World.cell?_alloc_lt wr _ ⟨w2.heap.size, 4, none⟩ hlt).trans q4, by simp, by simp, by simp, by simp, by simp, by simp⟩
      go_wp2_with fail
      go_region_held3 (fun w' => (KR w w2 w' #[.int .i64 x00, .int .i64 x01, .int .i64 x02, .int .i64 x03, .int .u32 x04, .int .i64 x10, .int .i64 x11, .int .i64 x12, .int .i64 x13, .int .u32 x14, .int .i64 x20, .int .i64 x21, .int .i64 x22, .int .i64 x23, .int .u32 x24] ∧ w2.heap.size < w'.heap.size ∧ w'.cell? ⟨w2.heap.size, 0, none⟩ = some (.int .i64 x00) ∧ w'.cell? ⟨w2.heap.size, 1, none⟩ = some (.int .i64 x01) ∧ w'.cell? ⟨w2.heap.size, 2, none⟩ = some (.int .i64 x02) ∧ w'.cell? ⟨w2.heap.size, 3, none⟩ = some (.int .i64 x03) ∧ w'.cell? ⟨w2.heap.size, 4, none⟩ = some (.int .u32 x04) ∧ wr.heap.size < w'.heap.size ∧ w'.cell? ⟨wr.heap.size, 0, none⟩ = some (.int .i64 x00) ∧ w'.cell? ⟨wr.heap.size, 1, none⟩ = some (.int .i64 x01) ∧ w'.cell? ⟨wr.heap.size, 2, none⟩ = some (.int .i64 x02) ∧ w'.cell? ⟨wr.heap.size, 3, none⟩ = some (.int .i64 x03) ∧ w'.cell? ⟨wr.heap.size, 4, none⟩ = some (.int .u32 x04))) (first | exact ST.out | assumption | exact keepZ0 (x00) (x01) (x02) (x03) (x04) (by assumption) hb) (first | (go_at_call 33; refine (same_of (x00) (x01) (x02) (x03) (x04) _).mono ?_; rintro e w' ⟨rfl, hb⟩))
      clear ST
      go_wp2
      go_roundw
      case rel =>
        refine ⟨.inr (.inl rfl), ?_⟩
        apply And.left
        assumption
      case measure => simp [intOf]
    · obtain ⟨q0, q1, q2, q3, q4, q5, q6, q7, q8, q9, q10, q11, q12, q13, q14⟩ := q
      clear q0 q1 q2 q3 q4 q10 q11 q12 q13 q14
      have hxr : xb < wr.heap.size := Nat.lt_of_lt_of_le hx hR.bel.size
      have d0 : wr.cell? ⟨xb, xo + 5, none⟩ = some (.int .i64 x10) := (hR.bel.cell (p := ⟨xb, xo + 5, none⟩) hx).trans C10.out
      have d1 : wr.cell? ⟨xb, xo + 5 + 1, none⟩ = some (.int .i64 x11) := (hR.bel.cell (p := ⟨xb, xo + 6, none⟩) hx).trans C11.out
      have d2 : wr.cell? ⟨xb, xo + 5 + 2, none⟩ = some (.int .i64 x12) := (hR.bel.cell (p := ⟨xb, xo + 7, none⟩) hx).trans C12.out
      have d3 : wr.cell? ⟨xb, xo + 5 + 3, none⟩ = some (.int .i64 x13) := (hR.bel.cell (p := ⟨xb, xo + 8, none⟩) hx).trans C13.out
      have d4 : wr.cell? ⟨xb, xo + 5 + 4, none⟩ = some (.int .u32 x14) := (hR.bel.cell (p := ⟨xb, xo + 9, none⟩) hx).trans C14.out
      have ST : Hid ((KR w w2 (wr.alloc (.cells #[.int .i64 x10, .int .i64 x11, .int .i64 x12, .int .i64 x13, .int .u32 x14] 47)).drew #[.int .i64 x00, .int .i64 x01, .int .i64 x02, .int .i64 x03, .int .u32 x04, .int .i64 x10, .int .i64 x11, .int .i64 x12, .int .i64 x13, .int .u32 x14, .int .i64 x20, .int .i64 x21, .int .i64 x22, .int .i64 x23, .int .u32 x24] ∧ w2.heap.size < (wr.alloc (.cells #[.int .i64 x10, .int .i64 x11, .int .i64 x12, .int .i64 x13, .int .u32 x14] 47)).drew.heap.size ∧ (wr.alloc (.cells #[.int .i64 x10, .int .i64 x11, .int .i64 x12, .int .i64 x13, .int .u32 x14] 47)).drew.cell? ⟨w2.heap.size, 5, none⟩ = some (.int .i64 x10) ∧ (wr.alloc (.cells #[.int .i64 x10, .int .i64 x11, .int .i64 x12, .int .i64 x13, .int .u32 x14] 47)).drew.cell? ⟨w2.heap.size, 6, none⟩ = some (.int .i64 x11) ∧ (wr.alloc (.cells #[.int .i64 x10, .int .i64 x11, .int .i64 x12, .int .i64 x13, .int .u32 x14] 47)).drew.cell? ⟨w2.heap.size, 7, none⟩ = some (.int .i64 x12) ∧ (wr.alloc (.cells #[.int .i64 x10, .int .i64 x11, .int .i64 x12, .int .i64 x13, .int .u32 x14] 47)).drew.cell? ⟨w2.heap.size, 8, none⟩ = some (.int .i64 x13) ∧ (wr.alloc (.cells #[.int .i64 x10, .int .i64 x11, .int .i64 x12, .int .i64 x13, .int .u32 x14] 47)).drew.cell? ⟨w2.heap.size, 9, none⟩ = some (.int .u32 x14) ∧ wr.heap.size < (wr.alloc (.cells #[.int .i64 x10, .int .i64 x11, .int .i64 x12, .int .i64 x13, .int .u32 x14] 47)).drew.heap.size ∧ (wr.alloc (.cells #[.int .i64 x10, .int .i64 x11, .int .i64 x12, .int .i64 x13, .int .u32 x14] 47)).drew.cell? ⟨wr.heap.size, 0, none⟩ = some (.int .i64 x10) ∧ (wr.alloc (.cells #[.int .i64 x10, .int .i64 x11, .int .i64 x12, .int .i64 x13, .int .u32 x14] 47)).drew.cell? ⟨wr.heap.size, 1, none⟩ = some (.int .i64 x11) ∧ (wr.alloc (.cells #[.int .i64 x10, .int .i64 x11, .int .i64 x12, .int .i64 x13, .int .u32 x14] 47)).drew.cell? ⟨wr.heap.size, 2, none⟩ = some (.int .i64 x12) ∧ (wr.alloc (.cells #[.int .i64 x10, .int .i64 x11, .int .i64 x12, .int .i64 x13, .int .u32 x14] 47)).drew.cell? ⟨wr.heap.size, 3, none⟩ = some (.int .i64 x13) ∧ (wr.alloc (.cells #[.int .i64 x10, .int .i64 x11, .int .i64 x12, .int .i64 x13, .int .u32 x14] 47)).drew.cell? ⟨wr.heap.size, 4, none⟩ = some (.int .u32 x14))) := Lib.hid ⟨hR.step (((Below.refl _ _).alloc (Nat.le_refl _) _).drew), by simp; omega, (World.cell?_alloc_lt wr _ ⟨w2.heap.size, 5, none⟩ hlt).trans q5, (World.cell?_alloc_lt wr _ ⟨w2.heap.size, 6, none⟩ hlt).trans q6, (World.cell?_alloc_lt wr _ ⟨w2.heap.size, 7, none⟩ hlt).trans q7, (World.cell?_alloc_lt wr _ ⟨w2.heap.size, 8, none⟩ hlt).trans q8, (World.cell?_alloc_lt wr _ ⟨w2.heap.size, 9, none⟩ hlt).trans q9, by simp, by simp, by simp, by simp, by simp, by simp⟩
      go_wp2_with fail
      go_region_held3 (fun w' => (KR w w2 w' #[.int .i64 x00, .int .i64 x01, .int .i64 x02, .int .i64 x03, .int .u32 x04, .int .i64 x10, .int .i64 x11, .int .i64 x12, .int .i64 x13, .int .u32 x14, .int .i64 x20, .int .i64 x21, .int .i64 x22, .int .i64 x23, .int .u32 x24] ∧ w2.heap.size < w'.heap.size ∧ w'.cell? ⟨w2.heap.size, 5, none⟩ = some (.int .i64 x10) ∧ w'.cell? ⟨w2.heap.size, 6, none⟩ = some (.int .i64 x11) ∧ w'.cell? ⟨w2.heap.size, 7, none⟩ = some (.int .i64 x12) ∧ w'.cell? ⟨w2.heap.size, 8, none⟩ = some (.int .i64 x13) ∧ w'.cell? ⟨w2.heap.size, 9, none⟩ = some (.int .u32 x14) ∧ wr.heap.size < w'.heap.size ∧ w'.cell? ⟨wr.heap.size, 0, none⟩ = some (.int .i64 x10) ∧ w'.cell? ⟨wr.heap.size, 1, none⟩ = some (.int .i64 x11) ∧ w'.cell? ⟨wr.heap.size, 2, none⟩ = some (.int .i64 x12) ∧ w'.cell? ⟨wr.heap.size, 3, none⟩ = some (.int .i64 x13) ∧ w'.cell? ⟨wr.heap.size, 4, none⟩ = some (.int .u32 x14))) (first | exact ST.out | assumption | exact keepZ1 (x10) (x11) (x12) (x13) (x14) (by assumption) hb) (first | (go_at_call 33; refine (same_of (x10) (x11) (x12) (x13) (x14) _).mono ?_; rintro e w' ⟨rfl, hb⟩))
      clear ST
      go_wp2
      go_roundw
      case rel =>
        refine ⟨.inr (.inr (.inl rfl)), ?_⟩
        apply And.left
        assumption
      case measure => simp [intOf]
    · obtain ⟨q0, q1, q2, q3, q4, q5, q6, q7, q8, q9, q10, q11, q12, q13, q14⟩ := q
      clear q0 q1 q2 q3 q4 q5 q6 q7 q8 q9
      have hxr : xb < wr.heap.size := Nat.lt_of_lt_of_le hx hR.bel.size
      have d0 : wr.cell? ⟨xb, xo + 10, none⟩ = some (.int .i64 x20) := (hR.bel.cell (p := ⟨xb, xo + 10, none⟩) hx).trans C20.out
      have d1 : wr.cell? ⟨xb, xo + 10 + 1, none⟩ = some (.int .i64 x21) := (hR.bel.cell (p := ⟨xb, xo + 11, none⟩) hx).trans C21.out
      have d2 : wr.cell? ⟨xb, xo + 10 + 2, none⟩ = some (.int .i64 x22) := (hR.bel.cell (p := ⟨xb, xo + 12, none⟩) hx).trans C22.out
      have d3 : wr.cell? ⟨xb, xo + 10 + 3, none⟩ = some (.int .i64 x23) := (hR.bel.cell (p := ⟨xb, xo + 13, none⟩) hx).trans C23.out
      have d4 : wr.cell? ⟨xb, xo + 10 + 4, none⟩ = some (.int .u32 x24) := (hR.bel.cell (p := ⟨xb, xo + 14, none⟩) hx).trans C24.out
      have ST : Hid ((KR w w2 (wr.alloc (.cells #[.int .i64 x20, .int .i64 x21, .int .i64 x22, .int .i64 x23, .int .u32 x24] 47)).drew #[.int .i64 x00, .int .i64 x01, .int .i64 x02, .int .i64 x03, .int .u32 x04, .int .i64 x10, .int .i64 x11, .int .i64 x12, .int .i64 x13, .int .u32 x14, .int .i64 x20, .int .i64 x21, .int .i64 x22, .int .i64 x23, .int .u32 x24] ∧ w2.heap.size < (wr.alloc (.cells #[.int .i64 x20, .int .i64 x21, .int .i64 x22, .int .i64 x23, .int .u32 x24] 47)).drew.heap.size ∧ (wr.alloc (.cells #[.int .i64 x20, .int .i64 x21, .int .i64 x22, .int .i64 x23, .int .u32 x24] 47)).drew.cell? ⟨w2.heap.size, 10, none⟩ = some (.int .i64 x20) ∧ (wr.alloc (.cells #[.int .i64 x20, .int .i64 x21, .int .i64 x22, .int .i64 x23, .int .u32 x24] 47)).drew.cell? ⟨w2.heap.size, 11, none⟩ = some (.int .i64 x21) ∧ (wr.alloc (.cells #[.int .i64 x20, .int .i64 x21, .int .i64 x22, .int .i64 x23, .int .u32 x24] 47)).drew.cell? ⟨w2.heap.size, 12, none⟩ = some (.int .i64 x22) ∧ (wr.alloc (.cells #[.int .i64 x20, .int .i64 x21, .int .i64 x22, .int .i64 x23, .int .u32 x24] 47)).drew.cell? ⟨w2.heap.size, 13, none⟩ = some (.int .i64 x23) ∧ (wr.alloc (.cells #[.int .i64 x20, .int .i64 x21, .int .i64 x22, .int .i64 x23, .int .u32 x24] 47)).drew.cell? ⟨w2.heap.size, 14, none⟩ = some (.int .u32 x24) ∧ wr.heap.size < (wr.alloc (.cells #[.int .i64 x20, .int .i64 x21, .int .i64 x22, .int .i64 x23, .int .u32 x24] 47)).drew.heap.size ∧ (wr.alloc (.cells #[.int .i64 x20, .int .i64 x21, .int .i64 x22, .int .i64 x23, .int .u32 x24] 47)).drew.cell? ⟨wr.heap.size, 0, none⟩ = some (.int .i64 x20) ∧ (wr.alloc (.cells #[.int .i64 x20, .int .i64 x21, .int .i64 x22, .int .i64 x23, .int .u32 x24] 47)).drew.cell? ⟨wr.heap.size, 1, none⟩ = some (.int .i64 x21) ∧ (wr.alloc (.cells #[.int .i64 x20, .int .i64 x21, .int .i64 x22, .int .i64 x23, .int .u32 x24] 47)).drew.cell? ⟨wr.heap.size, 2, none⟩ = some (.int .i64 x22) ∧ (wr.alloc (.cells #[.int .i64 x20, .int .i64 x21, .int .i64 x22, .int .i64 x23, .int .u32 x24] 47)).drew.cell? ⟨wr.heap.size, 3, none⟩ = some (.int .i64 x23) ∧ (wr.alloc (.cells #[.int .i64 x20, .int .i64 x21, .int .i64 x22, .int .i64 x23, .int .u32 x24] 47)).drew.cell? ⟨wr.heap.size, 4, none⟩ = some (.int .u32 x24))) := Lib.hid ⟨hR.step (((Below.refl _ _).alloc (Nat.le_refl _) _).drew), by simp; omega, (World.cell?_alloc_lt wr _ ⟨w2.heap.size, 10, none⟩ hlt).trans q10, (World.cell?_alloc_lt wr _ ⟨w2.heap.size, 11, none⟩ hlt).trans q11, (World.cell?_alloc_lt wr _ ⟨w2.heap.size, 12, none⟩ hlt).trans q12, (World.cell?_alloc_lt wr _ ⟨w2.heap.size, 13, none⟩ hlt).trans q13, (World.cell?_alloc_lt wr _ ⟨w2.heap.size, 14, none⟩ hlt).trans q14, by simp, by simp, by simp, by simp, by simp, by simp⟩
      go_wp2_with fail
      go_region_held3 (fun w' => (KR w w2 w' #[.int .i64 x00, .int .i64 x01, .int .i64 x02, .int .i64 x03, .int .u32 x04, .int .i64 x10, .int .i64 x11, .int .i64 x12, .int .i64 x13, .int .u32 x14, .int .i64 x20, .int .i64 x21, .int .i64 x22, .int .i64 x23, .int .u32 x24] ∧ w2.heap.size < w'.heap.size ∧ w'.cell? ⟨w2.heap.size, 10, none⟩ = some (.int .i64 x20) ∧ w'.cell? ⟨w2.heap.size, 11, none⟩ = some (.int .i64 x21) ∧ w'.cell? ⟨w2.heap.size, 12, none⟩ = some (.int .i64 x22) ∧ w'.cell? ⟨w2.heap.size, 13, none⟩ = some (.int .i64 x23) ∧ w'.cell? ⟨w2.heap.size, 14, none⟩ = some (.int .u32 x24) ∧ wr.heap.size < w'.heap.size ∧ w'.cell? ⟨wr.heap.size, 0, none⟩ = some (.int .i64 x20) ∧ w'.cell? ⟨wr.heap.size, 1, none⟩ = some (.int .i64 x21) ∧ w'.cell? ⟨wr.heap.size, 2, none⟩ = some (.int .i64 x22) ∧ w'.cell? ⟨wr.heap.size, 3, none⟩ = some (.int .i64 x23) ∧ w'.cell? ⟨wr.heap.size, 4, none⟩ = some (.int .u32 x24))) (first | exact ST.out | assumption | exact keepZ2 (x20) (x21) (x22) (x23) (x24) (by assumption) hb) (first | (go_at_call 33; refine (same_of (x20) (x21) (x22) (x23) (x24) _).mono ?_; rintro e w' ⟨rfl, hb⟩))
      clear ST
      go_wp2
      go_roundw
      case rel =>
        refine ⟨.inr (.inr (.inr rfl)), ?_⟩
        apply And.left
        assumption
      case measure => simp [intOf]
    · clear q
      go_wp2
      go_ret
      exact ⟨rfl, hR.bel⟩
set_option maxRecDepth 100000 in
theorem krows_big (a : Option Addr) (len cap : Nat) (a0 b0 : Addr) (w : World) (hK : KW a0 b0 w w) (l0 : 10 < len) (l1 : len ≤ 9223372036854775807) :
    Calls Tryd.prog 11 #[.slice a len cap] w fun e w' => e = .returned (.bool true) ∧ Below w.heap.size w w' := by
  go_enter Tryd.func11, Tryd.ntmps11
  go_wp2_with (first | (go_at_call 26; refine (kfirst_any _ hK.2.2.1 hK.2.2.2).mono ?_; rintro e w1 ⟨rfl, hb⟩; replace hK := hK.step hb; clear hb))
  go_ret
  exact ⟨rfl, hK.bel⟩
theorem spot_none {w : World} {x : Addr} {v : Value} (h : w.cell? x = some v) : x.spot = none := by
  unfold World.cell? at h
  split at h
  · cases hs : x.spot with
    | none => rfl
    | some _ => simp [hs] at h
  · cases h
theorem cell_lt {w : World} {x : Addr} {v : Value} (h : w.cell? x = some v) : x.block < w.heap.size := by
  rcases Nat.lt_or_ge x.block w.heap.size with h' | h'
  · exact h'
  · simp [World.cell?, Array.getElem?_eq_none h'] at h
theorem krows_any (a : Option Addr) (len cap : Nat) (zs : List (List Int)) (a0 b0 : Addr) (w : World) (hK : KW a0 b0 w w) (h : IsRows [.i64, .i64, .i64, .i64, .u32] w a len cap zs) :
    Calls Tryd.prog 11 #[.slice a len cap] w fun e w' => e = .returned (.bool true) ∧ Below w.heap.size w w' := by
  by_cases hl : 10 < len
  · refine krows_big a len cap a0 b0 w hK hl ?_
    rcases h with ⟨_, rfl, _⟩ | ⟨x, _, h1, h2, _⟩
    · omega
    · unfold maxLen at h2; omega
  by_cases hz : len = 0
  · exact krows_0 a len cap a0 b0 w hK hz
  rcases h with ⟨_, h0, _⟩ | ⟨x, rfl, h1, h2, h3, hc⟩
  · exact absurd h0 hz
  have c0 := (hc 0 (by omega) 0 _ rfl).1
  have hsp : x.spot = none := by
    simpa [Addr.add] using spot_none c0
  have hb : x.block < w.heap.size := by
    simpa [Addr.add] using cell_lt c0
  obtain ⟨xb, xo, sp⟩ := x
  obtain rfl : sp = none := hsp
  have cc : ∀ i, i < zs.length → ∀ j k, ([.i64, .i64, .i64, .i64, .u32] : List IntKind)[j]? = some k → w.cell? ⟨xb, xo + (i * 5 + j), none⟩ = some (.int k ((zs.getD i []).getD j 0)) := by
    intro i hi j k hk
    have e : (⟨xb, xo, none⟩ : Addr).add (i * 5 + j) = ⟨xb, xo + (i * 5 + j), none⟩ := by unfold Addr.add; split <;> simp_all
    rw [← e]
    exact (hc i hi j k hk).1
  clear hc
  by_cases h1' : len = 1
  · exact krows_1 xb xo len cap _ _ _ _ _ a0 b0 w hK h1' hb (cc 0 (by omega) 0 _ rfl) (cc 0 (by omega) 1 _ rfl) (cc 0 (by omega) 2 _ rfl) (cc 0 (by omega) 3 _ rfl) (cc 0 (by omega) 4 _ rfl)
  by_cases h2' : len = 2
  · exact krows_2 xb xo len cap _ _ _ _ _ _ _ _ _ _ a0 b0 w hK h2' hb (cc 0 (by omega) 0 _ rfl) (cc 0 (by omega) 1 _ rfl) (cc 0 (by omega) 2 _ rfl) (cc 0 (by omega) 3 _ rfl) (cc 0 (by omega) 4 _ rfl) (cc 1 (by omega) 0 _ rfl) (cc 1 (by omega) 1 _ rfl) (cc 1 (by omega) 2 _ rfl) (cc 1 (by omega) 3 _ rfl) (cc 1 (by omega) 4 _ rfl)
  · exact krows_3 xb xo len cap _ _ _ _ _ _ _ _ _ _ _ _ _ _ _ a0 b0 w hK (by omega) (by omega) hb (cc 0 (by omega) 0 _ rfl) (cc 0 (by omega) 1 _ rfl) (cc 0 (by omega) 2 _ rfl) (cc 0 (by omega) 3 _ rfl) (cc 0 (by omega) 4 _ rfl) (cc 1 (by omega) 0 _ rfl) (cc 1 (by omega) 1 _ rfl) (cc 1 (by omega) 2 _ rfl) (cc 1 (by omega) 3 _ rfl) (cc 1 (by omega) 4 _ rfl) (cc 2 (by omega) 0 _ rfl) (cc 2 (by omega) 1 _ rfl) (cc 2 (by omega) 2 _ rfl) (cc 2 (by omega) 3 _ rfl) (cc 2 (by omega) 4 _ rfl)
end Go.Proofs.YtggnaalcdekccaaDoor
