/-
  Yh, Yi, Less, ValidA, ValidB, ValidC, ValidD, ValidE, ValidZ, Orders, RightMath, Ref7, Ol, Kr, Ok, Kb, Mk2, Kc, Kd, Si, Ke, MtC, Mt3, Mt4, Mt5, Mt6, Mt7, Ee, Ef, Eg, Eh, Ek, El: what SysGone reaches of them.
-/
import Derived.Test.YtncopdhhchmpeaaGreatDoorQG3
namespace Go.Proofs.YtncopdhhchmpeaaGreatDoor
open Go.ChangeShapes Go.WideShapes Go.ChangeAt Go.RowKit
set_option linter.unusedVariables false
set_option linter.unusedSimpArgs false
section
variable {s m d t b f q : Nat} {st : Int}
set_option maxRecDepth 100000 in
set_option maxHeartbeats 4000000 in
theorem skey_dom (x k0 k1 k2 k3 k4 : Int) (w : World) (hB : SyB w s m d t b f q st) (hC : ∀ W, Below w.heap.size w W → Calls Tryz.prog 55 #[.pointer (some ⟨d, 0, none⟩), .int .i64 x] W fun e w' => e = .returned (.agg #[.int .i64 k0, .int .i64 k1, .int .i64 k2, .int .i64 k3, .int .u32 k4]) ∧ Below W.heap.size W w') :
    Calls Tryz.prog 16 #[.pointer (some ⟨s, 0, none⟩), .int .i64 4, .int .i64 x] w fun e w' => e = .returned (.agg #[.int .i64 k0, .int .i64 k1, .int .i64 k2, .int .i64 k3, .int .u32 k4]) ∧ Below w.heap.size w w' := by
  have HC := Lib.hid hC
  have HB := Lib.hid hB
  clear hC hB
  go_enter Tryz.func16, Tryz.ntmps16
  go_upto_region 1 with fail
  generalize hA : World.alloc w _ = wA
  obtain ⟨K, hK⟩ : ∃ K, K = w.heap.size := ⟨_, rfl⟩
  have HBa : Hid (Below w.heap.size w wA) := Lib.hid (by rw [← hA]; exact (Below.refl _ _).alloc (Nat.le_refl _) _)
  have HK0 : Hid (KeyC wA K 0 0 0 0 0) := Lib.hid (by rw [← hA, hK]; exact KeyC.new w 0 0 0 0 0 _)
  have HKl : Hid (w.heap.size ≤ K) := Lib.hid (by rw [hK]; exact Nat.le_refl _)
  have sc := ((HB.out.below HBa.out).c1)
  rw [← hK]
  clear hA hK
  go_wp2_with (first
    | (go_at_call 55; (with_reducible refine (HC.out _ HBa.out).mono ?_); rintro e w1 ⟨rfl, hb⟩; have HB1 := Lib.hid (HBa.out.trans (hb.mono HBa.out.size)); have HK1 := Lib.hid (HK0.out.below hb); have z0 := HK1.out.c0; have z1 := HK1.out.c1; have z2 := HK1.out.c2; have z3 := HK1.out.c3; have z4 := HK1.out.c4; have zf0 := HK1.out.fr 0; have zf1 := HK1.out.fr 1; have zf2 := HK1.out.fr 2; have zf3 := HK1.out.fr 3; have zf4 := HK1.out.fr 4; clear hb))
  have t := HK1.out.set k0 k1 k2 k3 k4
  have t0 := t.c0
  have t1 := t.c1
  have t2 := t.c2
  have t3 := t.c3
  have t4 := t.c4
  refine bodyPost_ret (v := .agg #[.int .i64 k0, .int .i64 k1, .int .i64 k2, .int .i64 k3, .int .u32 k4]) (by simp [results, Tryz.results16, go_sem, t0, t1, t2, t3, t4]) rfl ⟨rfl, ?_⟩
  exact ((((HB1.out.setCell HKl.out _).setCell HKl.out _).setCell HKl.out _).setCell HKl.out _).setCell HKl.out _
end
end Go.Proofs.YtncopdhhchmpeaaGreatDoor
namespace Go.Proofs.YtncopdhhchmpeaaGreatDoor
open Go.ChangeShapes Go.WideShapes Go.ChangeAt Go.RowKit
set_option linter.unusedVariables false
set_option linter.unusedSimpArgs false
section
variable {s m d t b f q : Nat} {st : Int}
end
end Go.Proofs.YtncopdhhchmpeaaGreatDoor
namespace Go.Proofs.YtncopdhhchmpeaaGreatDoor
open Go.ChangeShapes Go.WideShapes Go.ChangeAt Go.RowKit
set_option linter.unusedVariables false
/-- Rights taken away, one by one; other numbers do nothing. -/
def lessOne (r x : Int) : Int := if x = 1 ∨ x = 2 ∨ x = 4 then bits BinOp.or IntKind.i64 r x else r
def lessR (r : Int) (l : List Int) : Int := l.foldl lessOne r
/-- A slice of numbers whose elements are xs. -/
structure RowI (w : World) (a : Option Addr) (len : Nat) (xs : List Int) : Prop where
  len_eq : xs.length = len
  cells : len = 0 ∨ ∃ b off, a = some ⟨b, off, none⟩ ∧ b < w.heap.size ∧ ∀ i, i < len → w.cell? ⟨b, off + i, none⟩ = some (.int .i64 (xs.getD i 0))

/-- The worlds within Less: the key's box, the answer's place. -/
structure LRs (w wr : World) (k0 k1 k2 R k4 : Int) : Prop where
  bel : Below w.heap.size w wr
  size : w.heap.size + 1 < wr.heap.size
  box : wr.cell? ⟨w.heap.size, 0, none⟩ = some (.int .i64 k0) ∧ wr.cell? ⟨w.heap.size, 1, none⟩ = some (.int .i64 k1) ∧ wr.cell? ⟨w.heap.size, 2, none⟩ = some (.int .i64 k2) ∧ wr.cell? ⟨w.heap.size, 3, none⟩ = some (.int .i64 R) ∧ wr.cell? ⟨w.heap.size, 4, none⟩ = some (.int .u32 k4)
  out : ∀ i, i < 5 → ∃ v, wr.cell? ⟨w.heap.size + 1, i, none⟩ = some v
  fr : ∀ i, wr.frozen? ⟨w.heap.size, i, none⟩ = false
  fr1 : ∀ i, wr.frozen? ⟨w.heap.size + 1, i, none⟩ = false
theorem LRs.start (w w1 : World) (k0 k1 k2 k3 k4 : Int)
    (hb : Below ((w.alloc (.cells #[.int .i64 k0, .int .i64 k1, .int .i64 k2, .int .i64 k3, .int .u32 k4] 42)).alloc (.cells #[.int .i64 0, .int .i64 0, .int .i64 0, .int .i64 0, .int .u32 0] 42)).heap.size ((w.alloc (.cells #[.int .i64 k0, .int .i64 k1, .int .i64 k2, .int .i64 k3, .int .u32 k4] 42)).alloc (.cells #[.int .i64 0, .int .i64 0, .int .i64 0, .int .i64 0, .int .u32 0] 42)) w1) : LRs w w1 k0 k1 k2 k3 k4 := by
  have hc := (bcell hb).1
  have hf := (bcell hb).2
  have hz := hb.size
  simp at hz
  refine ⟨Below.trans (((Below.refl _ _).alloc (Nat.le_refl _) _).alloc (by simp) _) (hb.mono (by simp; omega)), by omega, ?_, fun i hi => ?_, fun i => ?_, fun i => ?_⟩
  · refine ⟨?_, ?_, ?_, ?_, ?_⟩ <;> (rw [hc _ _ (by simp; omega)]; simp)
  · rw [hc _ _ (by simp)]
    match i, hi with
    | 0, _ => exact ⟨_, by simp; rfl⟩
    | 1, _ => exact ⟨_, by simp; rfl⟩
    | 2, _ => exact ⟨_, by simp; rfl⟩
    | 3, _ => exact ⟨_, by simp; rfl⟩
    | 4, _ => exact ⟨_, by simp; rfl⟩
  · rw [hf _ _ (by simp; omega)]; simp
  · rw [hf _ _ (by simp)]; simp
theorem LRs.set {w wr : World} {k0 k1 k2 R k4 : Int} (h : LRs w wr k0 k1 k2 R k4) (x : Int) : LRs w (wr.setCell ⟨w.heap.size, 3, none⟩ (.int .i64 x)) k0 k1 k2 x k4 := by
  obtain ⟨h1, h2, ⟨a0, a1, a2, a3, a4⟩, h4, h5, h6⟩ := h
  refine ⟨h1.setCell (by simp) _, by simpa [World.setCell] using h2, ?_, fun i hi => ?_, fun i => ?_, fun i => ?_⟩
  · refine ⟨?_, ?_, ?_, ?_, ?_⟩
    · rw [World.cell?_setCell_other _ _ _ _ (by simp)]; exact a0
    · rw [World.cell?_setCell_other _ _ _ _ (by simp)]; exact a1
    · rw [World.cell?_setCell_other _ _ _ _ (by simp)]; exact a2
    · exact World.cell?_setCell_same wr _ _ a3
    · rw [World.cell?_setCell_other _ _ _ _ (by simp)]; exact a4
  · rw [World.cell?_setCell_other _ _ _ _ (by simp)]; exact h4 i hi
  · rw [World.frozen?_setCell]; exact h5 i
  · rw [World.frozen?_setCell]; exact h6 i
def lessK (k0 k3 : Int) (l : List Int) : Int := if k0 = 2 ∨ k0 = 3 then lessR k3 l else k3
end Go.Proofs.YtncopdhhchmpeaaGreatDoor
namespace Go.Proofs.YtncopdhhchmpeaaGreatDoor
open Go.ChangeShapes Go.WideShapes Go.ChangeAt Go.RowKit
set_option linter.unusedVariables false
def manyOf (k : Int) : Int := if k = 2 ∨ k = 3 then 256 else if k = 8 then 64 else if k = 4 ∨ k = 5 ∨ k = 6 ∨ k = 7 ∨ k = 9 ∨ k = 10 then 32 else 1
end Go.Proofs.YtncopdhhchmpeaaGreatDoor
namespace Go.Proofs.YtncopdhhchmpeaaGreatDoor
open Go.ChangeShapes Go.WideShapes Go.ChangeAt Go.RowKit
set_option linter.unusedVariables false
end Go.Proofs.YtncopdhhchmpeaaGreatDoor
namespace Go.Proofs.YtncopdhhchmpeaaGreatDoor
open Go.ChangeShapes Go.WideShapes Go.ChangeAt Go.RowKit
set_option linter.unusedVariables false
end Go.Proofs.YtncopdhhchmpeaaGreatDoor
namespace Go.Proofs.YtncopdhhchmpeaaGreatDoor
open Go.ChangeShapes Go.WideShapes Go.ChangeAt Go.RowKit
set_option linter.unusedVariables false
end Go.Proofs.YtncopdhhchmpeaaGreatDoor
namespace Go.Proofs.YtncopdhhchmpeaaGreatDoor
open Go.ChangeShapes Go.WideShapes Go.ChangeAt Go.RowKit
set_option linter.unusedVariables false
end Go.Proofs.YtncopdhhchmpeaaGreatDoor
namespace Go.Proofs.YtncopdhhchmpeaaGreatDoor
open Go.ChangeShapes Go.WideShapes Go.ChangeAt Go.RowKit
set_option linter.unusedVariables false
def mostOf (k : Int) : Int := if 1 < manyOf k then 1048575 else 0
def rightsOf (k : Int) : Int := if k = 2 ∨ k = 3 then 7 else 0
def dataOf (k : Int) : Int := if k = 1 then 4294967295 else if k = 2 then 4 else if k = 5 ∨ k = 6 then 536870911 else 0
def InB (k0 k1 k2 k3 k4 : Int) : Prop := 0 ≤ k1 ∧ k1 < manyOf k0 ∧ 0 ≤ k2 ∧ k2 ≤ mostOf k0 ∧ 0 ≤ k3 ∧ k3 ≤ rightsOf k0 ∧ k4 ≤ dataOf k0
instance (k0 k1 k2 k3 k4 : Int) : Decidable (InB k0 k1 k2 k3 k4) := by unfold InB; infer_instance
/-- The error's number of a key that may not be; 0: it may. -/
def codeOf (k0 k1 k2 k3 k4 : Int) : Int := if k0 < 0 ∨ 14 < k0 then 102 else if InB k0 k1 k2 k3 k4 then 0 else 103
end Go.Proofs.YtncopdhhchmpeaaGreatDoor
namespace Go.Proofs.YtncopdhhchmpeaaGreatDoor
open Go.ChangeShapes Go.WideShapes Go.ChangeAt Go.RowKit
set_option linter.unusedVariables false
end Go.Proofs.YtncopdhhchmpeaaGreatDoor
namespace Go.Proofs.YtncopdhhchmpeaaGreatDoor
open Go.ChangeShapes Go.WideShapes Go.ChangeAt Go.RowKit
set_option linter.unusedVariables false
def andI (a b : Int) : Int := bits BinOp.and IntKind.i64 a b
def orI (a b : Int) : Int := bits BinOp.or IntKind.i64 a b
def In8 (x : Int) : Prop := 0 ≤ x ∧ x ≤ 7
theorem In8.of (n : Fin 8) : In8 (n.val : Int) := ⟨by omega, by have := n.isLt; omega⟩
end Go.Proofs.YtncopdhhchmpeaaGreatDoor
namespace Go.Proofs.YtncopdhhchmpeaaGreatDoor
open Go.ChangeShapes Go.WideShapes Go.ChangeAt Go.RowKit
set_option linter.unusedVariables false
/-- Does a give no more than b? -/
def withinB (a0 a1 a2 a3 a4 b0 b1 b2 b3 b4 : Int) : Bool := (bits BinOp.and IntKind.i64 a3 b3 == b3) && sameB a0 a1 a2 0 a4 b0 b1 b2 0 b4
theorem RowI.below {W w' : World} {a : Option Addr} {len : Nat} {xs : List Int} (h : RowI W a len xs) (hb : Below W.heap.size W w') : RowI w' a len xs := by
  obtain ⟨h1, h2⟩ := h
  refine ⟨h1, ?_⟩
  rcases h2 with h2 | ⟨b, off, rfl, hl, hc⟩
  · exact .inl h2
  · exact .inr ⟨b, off, rfl, Nat.lt_of_lt_of_le hl hb.size, fun i hi => (hb.cell (p := ⟨b, off + i, none⟩) hl).trans (hc i hi)⟩
end Go.Proofs.YtncopdhhchmpeaaGreatDoor
namespace Go.Proofs.YtncopdhhchmpeaaGreatDoor
open Go.ChangeShapes Go.WideShapes Go.ChangeAt Go.RowKit
set_option linter.unusedVariables false
set_option linter.unusedSimpArgs false
section
variable {s m d t b f q : Nat} {st : Int}
end
set_option maxRecDepth 100000 in
set_option maxHeartbeats 4000000 in
theorem slive_mem {S : Nat} {a b : Shp} {th : Nat → Bool} {vr_ : Nat → Int} {W : Nat → Nat → Value} {th2 : Nat → Bool} {vr2 : Nat → Int} {W2 : Nat → Nat → Int} (s m : Nat) (k0 k1 k2 k3 k4 : Int) (hk : k0 = 2 ∨ k0 = 3) (r : Bool) (hr : Hid (liveB a b th vr_ th2 vr2 k0 k1 k2 = r)) (w : World) (h0 : w.cell? ⟨s, 0, none⟩ = some (.pointer (some ⟨m, 0, none⟩))) (h1 : w.cell? ⟨m, 0, none⟩ = some (.pointer (some ⟨S, 0, none⟩))) (h : (StAt w S a b th vr_ W th2 vr2 W2)) :
    Calls Tryz.prog 21 #[.pointer (some ⟨s, 0, none⟩), (Value.agg #[.int .i64 k0, .int .i64 k1, .int .i64 k2, .int .i64 k3, .int .u32 k4])] w fun e w' => e = .returned (.bool r) ∧ Below w.heap.size w w' := by
  have H := Lib.hid h
  have HL := Lib.hid (⟨cell_lt h0, cell_lt h1, h0, h1⟩ : s < w.heap.size ∧ m < w.heap.size ∧ w.cell? ⟨s, 0, none⟩ = some (.pointer (some ⟨m, 0, none⟩)) ∧ w.cell? ⟨m, 0, none⟩ = some (.pointer (some ⟨S, 0, none⟩)))
  clear h h0 h1
  rcases hk with rfl | rfl
  · go_enter Tryz.func21, Tryz.ntmps21; go_upto_region 1 with fail; generalize hA : World.alloc w _ = wA; obtain ⟨KB, hKB⟩ : ∃ KB, KB = w.heap.size := ⟨_, rfl⟩; have HA : Hid (Below w.heap.size w wA ∧ KeyC wA KB 2 k1 k2 k3 k4) := (Lib.hid (by rw [← hA, hKB]; exact ⟨(Below.refl _ _).alloc (Nat.le_refl _) _, KeyC.new w 2 k1 k2 k3 k4 _⟩)); rw [← hKB]; clear hA hKB; have q0 := HA.out.2.c0; go_upto_region 11 with fail; have HSK : Hid (∀ W, Below wA.heap.size wA W → (World.cell? W ⟨s, 0, none⟩ = some (.pointer (some ⟨m, 0, none⟩)) ∧ World.cell? W ⟨m, 0, none⟩ = some (.pointer (some ⟨S, 0, none⟩)) ∧ (World.cell? W ⟨KB, 0, none⟩ = some (.int .i64 2) ∧ World.cell? W ⟨KB, 1, none⟩ = some (.int .i64 k1) ∧ World.cell? W ⟨KB, 2, none⟩ = some (.int .i64 k2) ∧ World.cell? W ⟨KB, 3, none⟩ = some (.int .i64 k3) ∧ World.cell? W ⟨KB, 4, none⟩ = some (.int .u32 k4)))) := (Lib.hid (fun W hW => ⟨((HA.out.1.trans (hW.mono HA.out.1.size)).cell (p := ⟨s, 0, none⟩) HL.out.1).trans HL.out.2.2.1, ((HA.out.1.trans (hW.mono HA.out.1.size)).cell (p := ⟨m, 0, none⟩) HL.out.2.1).trans HL.out.2.2.2, ofive (HA.out.2.below hW)⟩)); obtain ⟨wD, hwD⟩ : ∃ wD, wD = wA.drew := ⟨_, rfl⟩; have HBd : Hid (Below wA.heap.size wA wD) := (Lib.hid (by rw [hwD]; exact (Below.refl _ _).drew)); refine wp_region_noPanic ?_; refine wp_region_held_drew (S := fun W => (World.cell? W ⟨s, 0, none⟩ = some (.pointer (some ⟨m, 0, none⟩)) ∧ World.cell? W ⟨m, 0, none⟩ = some (.pointer (some ⟨S, 0, none⟩)) ∧ (World.cell? W ⟨KB, 0, none⟩ = some (.int .i64 2) ∧ World.cell? W ⟨KB, 1, none⟩ = some (.int .i64 k1) ∧ World.cell? W ⟨KB, 2, none⟩ = some (.int .i64 k2) ∧ World.cell? W ⟨KB, 3, none⟩ = some (.int .i64 k3) ∧ World.cell? W ⟨KB, 4, none⟩ = some (.int .u32 k4)))) (by kernel_rfl) (by rw [← hwD]; exact HSK.out _ HBd.out) (fun hHeld => ?_); rw [← hwD] at hHeld ⊢; clear hwD; refine wpAnyH_take (i := 0) (v := ?_) (by rfl) (by kernel_rfl) (by kernel_rfl) (by kernel_rfl) (fun _ _ _ h => h) (Or.inl ⟨by kernel_rfl, ?_⟩) (by assumption) ?_; rotate_left 1; (focus (intro w hSw; (try dsimp only at hSw); simp only [List.getElem_toArray, List.getElem_cons_succ, List.getElem_cons_zero]; all_goals go_simp; all_goals (try with_reducible rfl))); (try simp only [Act.put, List.getElem_toArray, List.getElem_cons_succ, List.getElem_cons_zero, List.setIfInBounds_toArray, List.set_cons_zero, List.set_cons_succ]); refine wpAnyH_take (i := 1) (v := ?_) (by rfl) (by kernel_rfl) (by kernel_rfl) (by kernel_rfl) (fun _ _ _ h => h) (Or.inl ⟨by kernel_rfl, ?_⟩) (by assumption) ?_; rotate_left 1; (focus (intro w hSw; (try dsimp only at hSw); simp only [List.getElem_toArray, List.getElem_cons_succ, List.getElem_cons_zero]; all_goals go_simp; all_goals (try with_reducible rfl))); (try simp only [Act.put, List.getElem_toArray, List.getElem_cons_succ, List.getElem_cons_zero, List.setIfInBounds_toArray, List.set_cons_zero, List.set_cons_succ]); refine wpAnyH_take (i := 2) (v := ?_) (by rfl) (by kernel_rfl) (by kernel_rfl) (by kernel_rfl) (fun _ _ _ h => h) (Or.inl ⟨by kernel_rfl, ?_⟩) (by assumption) ?_; rotate_left 1; (focus (intro w hSw; (try dsimp only at hSw); simp only [List.getElem_toArray, List.getElem_cons_succ, List.getElem_cons_zero]; all_goals go_simp; all_goals (try with_reducible rfl))); (try simp only [Act.put, List.getElem_toArray, List.getElem_cons_succ, List.getElem_cons_zero, List.setIfInBounds_toArray, List.set_cons_zero, List.set_cons_succ]); refine wpAnyH_take (i := 3) (v := ?_) (by rfl) (by kernel_rfl) (by kernel_rfl) (by kernel_rfl) (fun _ _ _ h => h) (Or.inl ⟨by kernel_rfl, ?_⟩) (by assumption) ?_; rotate_left 1; (focus (intro w hSw; (try dsimp only at hSw); simp only [List.getElem_toArray, List.getElem_cons_succ, List.getElem_cons_zero]; all_goals go_simp; all_goals (try with_reducible rfl))); (try simp only [Act.put, List.getElem_toArray, List.getElem_cons_succ, List.getElem_cons_zero, List.setIfInBounds_toArray, List.set_cons_zero, List.set_cons_succ]); refine wpAnyH_take (i := 4) (v := ?_) (by rfl) (by kernel_rfl) (by kernel_rfl) (by kernel_rfl) (fun _ _ _ h => h) (Or.inl ⟨by kernel_rfl, ?_⟩) (by assumption) ?_; rotate_left 1; (focus (intro w hSw; (try dsimp only at hSw); simp only [List.getElem_toArray, List.getElem_cons_succ, List.getElem_cons_zero]; all_goals go_simp; all_goals (try with_reducible rfl))); (try simp only [Act.put, List.getElem_toArray, List.getElem_cons_succ, List.getElem_cons_zero, List.setIfInBounds_toArray, List.set_cons_zero, List.set_cons_succ]); refine wpAnyH_take (i := 5) (v := ?_) (by rfl) (by kernel_rfl) (by kernel_rfl) (by kernel_rfl) (fun _ _ _ h => h) (Or.inl ⟨by kernel_rfl, ?_⟩) (by assumption) ?_; rotate_left 1; (focus (intro w hSw; (try dsimp only at hSw); simp only [List.getElem_toArray, List.getElem_cons_succ, List.getElem_cons_zero]; all_goals go_simp; all_goals (try with_reducible rfl))); (try simp only [Act.put, List.getElem_toArray, List.getElem_cons_succ, List.getElem_cons_zero, List.setIfInBounds_toArray, List.set_cons_zero, List.set_cons_succ]); refine wpAnyH_take (i := 6) (v := ?_) (by rfl) (by kernel_rfl) (by kernel_rfl) (by kernel_rfl) (fun _ _ _ h => h) (Or.inl ⟨by kernel_rfl, ?_⟩) (by assumption) ?_; rotate_left 1; (focus (intro w hSw; (try dsimp only at hSw); simp only [List.getElem_toArray, List.getElem_cons_succ, List.getElem_cons_zero]; all_goals go_simp; all_goals (try with_reducible rfl))); (try simp only [Act.put, List.getElem_toArray, List.getElem_cons_succ, List.getElem_cons_zero, List.setIfInBounds_toArray, List.set_cons_zero, List.set_cons_succ]); refine wpAnyH_take (i := 7) (v := ?_) (by rfl) (by kernel_rfl) (by kernel_rfl) (by kernel_rfl) (fun _ _ _ h => h) (Or.inl ⟨by kernel_rfl, ?_⟩) (by assumption) ?_; rotate_left 1; (focus (intro w hSw; (try dsimp only at hSw); simp only [List.getElem_toArray, List.getElem_cons_succ, List.getElem_cons_zero]; all_goals go_simp; all_goals (try with_reducible rfl))); (try simp only [Act.put, List.getElem_toArray, List.getElem_cons_succ, List.getElem_cons_zero, List.setIfInBounds_toArray, List.set_cons_zero, List.set_cons_succ]); refine wpAnyH_ready (rs := [8]) (by kernel_rfl) (by simp) ?_; refine AllReadyH.cons (by rfl) (fun K hK => ?_) AllReadyH.nil; rw [if_pos (by kernel_rfl)]; simp only [List.getElem_toArray, List.getElem_cons_succ, List.getElem_cons_zero]; go_wp2_with (first | (go_at_call 66; (with_reducible refine (slive_at 2 k1 k2 k3 k4 r hr _ (H.out.below (HA.out.1.trans (HBd.out.mono HA.out.1.size)))).mono ?_); rintro e w9 ⟨rfl, hb⟩; have HB9 := (Lib.hid (HBd.out.trans (hb.mono HBd.out.size))); clear hb)); refine hK.out _ _ (HSK.out _ HB9.out) (fun hHeld => ?_); clear hK K; (try simp only [Act.put, List.getElem_toArray, List.getElem_cons_succ, List.getElem_cons_zero, List.setIfInBounds_toArray, List.set_cons_zero, List.set_cons_succ]); refine wpAnyH_take (i := 9) (v := ?_) (by rfl) (by kernel_rfl) (by kernel_rfl) (by kernel_rfl) (fun _ _ _ h => h) (Or.inl ⟨by kernel_rfl, ?_⟩) (by assumption) ?_; rotate_left 1; (focus (intro w hSw; (try dsimp only at hSw); simp only [List.getElem_toArray, List.getElem_cons_succ, List.getElem_cons_zero]; all_goals go_simp; all_goals (try with_reducible rfl))); (try simp only [Act.put, List.getElem_toArray, List.getElem_cons_succ, List.getElem_cons_zero, List.setIfInBounds_toArray, List.set_cons_zero, List.set_cons_succ]); refine wpAnyH_done (by kernel_rfl) ?_ _; refine NoPanic.normal ?_; go_wp2_with fail; go_ret; exact ⟨rfl, HA.out.1.trans (HB9.out.mono HA.out.1.size)⟩
  · go_enter Tryz.func21, Tryz.ntmps21; go_upto_region 1 with fail; generalize hA : World.alloc w _ = wA; obtain ⟨KB, hKB⟩ : ∃ KB, KB = w.heap.size := ⟨_, rfl⟩; have HA : Hid (Below w.heap.size w wA ∧ KeyC wA KB 3 k1 k2 k3 k4) := (Lib.hid (by rw [← hA, hKB]; exact ⟨(Below.refl _ _).alloc (Nat.le_refl _) _, KeyC.new w 3 k1 k2 k3 k4 _⟩)); rw [← hKB]; clear hA hKB; have q0 := HA.out.2.c0; go_upto_region 11 with fail; have HSK : Hid (∀ W, Below wA.heap.size wA W → (World.cell? W ⟨s, 0, none⟩ = some (.pointer (some ⟨m, 0, none⟩)) ∧ World.cell? W ⟨m, 0, none⟩ = some (.pointer (some ⟨S, 0, none⟩)) ∧ (World.cell? W ⟨KB, 0, none⟩ = some (.int .i64 3) ∧ World.cell? W ⟨KB, 1, none⟩ = some (.int .i64 k1) ∧ World.cell? W ⟨KB, 2, none⟩ = some (.int .i64 k2) ∧ World.cell? W ⟨KB, 3, none⟩ = some (.int .i64 k3) ∧ World.cell? W ⟨KB, 4, none⟩ = some (.int .u32 k4)))) := (Lib.hid (fun W hW => ⟨((HA.out.1.trans (hW.mono HA.out.1.size)).cell (p := ⟨s, 0, none⟩) HL.out.1).trans HL.out.2.2.1, ((HA.out.1.trans (hW.mono HA.out.1.size)).cell (p := ⟨m, 0, none⟩) HL.out.2.1).trans HL.out.2.2.2, ofive (HA.out.2.below hW)⟩)); obtain ⟨wD, hwD⟩ : ∃ wD, wD = wA.drew := ⟨_, rfl⟩; have HBd : Hid (Below wA.heap.size wA wD) := (Lib.hid (by rw [hwD]; exact (Below.refl _ _).drew)); refine wp_region_noPanic ?_; refine wp_region_held_drew (S := fun W => (World.cell? W ⟨s, 0, none⟩ = some (.pointer (some ⟨m, 0, none⟩)) ∧ World.cell? W ⟨m, 0, none⟩ = some (.pointer (some ⟨S, 0, none⟩)) ∧ (World.cell? W ⟨KB, 0, none⟩ = some (.int .i64 3) ∧ World.cell? W ⟨KB, 1, none⟩ = some (.int .i64 k1) ∧ World.cell? W ⟨KB, 2, none⟩ = some (.int .i64 k2) ∧ World.cell? W ⟨KB, 3, none⟩ = some (.int .i64 k3) ∧ World.cell? W ⟨KB, 4, none⟩ = some (.int .u32 k4)))) (by kernel_rfl) (by rw [← hwD]; exact HSK.out _ HBd.out) (fun hHeld => ?_); rw [← hwD] at hHeld ⊢; clear hwD; refine wpAnyH_take (i := 0) (v := ?_) (by rfl) (by kernel_rfl) (by kernel_rfl) (by kernel_rfl) (fun _ _ _ h => h) (Or.inl ⟨by kernel_rfl, ?_⟩) (by assumption) ?_; rotate_left 1; (focus (intro w hSw; (try dsimp only at hSw); simp only [List.getElem_toArray, List.getElem_cons_succ, List.getElem_cons_zero]; all_goals go_simp; all_goals (try with_reducible rfl))); (try simp only [Act.put, List.getElem_toArray, List.getElem_cons_succ, List.getElem_cons_zero, List.setIfInBounds_toArray, List.set_cons_zero, List.set_cons_succ]); refine wpAnyH_take (i := 1) (v := ?_) (by rfl) (by kernel_rfl) (by kernel_rfl) (by kernel_rfl) (fun _ _ _ h => h) (Or.inl ⟨by kernel_rfl, ?_⟩) (by assumption) ?_; rotate_left 1; (focus (intro w hSw; (try dsimp only at hSw); simp only [List.getElem_toArray, List.getElem_cons_succ, List.getElem_cons_zero]; all_goals go_simp; all_goals (try with_reducible rfl))); (try simp only [Act.put, List.getElem_toArray, List.getElem_cons_succ, List.getElem_cons_zero, List.setIfInBounds_toArray, List.set_cons_zero, List.set_cons_succ]); refine wpAnyH_take (i := 2) (v := ?_) (by rfl) (by kernel_rfl) (by kernel_rfl) (by kernel_rfl) (fun _ _ _ h => h) (Or.inl ⟨by kernel_rfl, ?_⟩) (by assumption) ?_; rotate_left 1; (focus (intro w hSw; (try dsimp only at hSw); simp only [List.getElem_toArray, List.getElem_cons_succ, List.getElem_cons_zero]; all_goals go_simp; all_goals (try with_reducible rfl))); (try simp only [Act.put, List.getElem_toArray, List.getElem_cons_succ, List.getElem_cons_zero, List.setIfInBounds_toArray, List.set_cons_zero, List.set_cons_succ]); refine wpAnyH_take (i := 3) (v := ?_) (by rfl) (by kernel_rfl) (by kernel_rfl) (by kernel_rfl) (fun _ _ _ h => h) (Or.inl ⟨by kernel_rfl, ?_⟩) (by assumption) ?_; rotate_left 1; (focus (intro w hSw; (try dsimp only at hSw); simp only [List.getElem_toArray, List.getElem_cons_succ, List.getElem_cons_zero]; all_goals go_simp; all_goals (try with_reducible rfl))); (try simp only [Act.put, List.getElem_toArray, List.getElem_cons_succ, List.getElem_cons_zero, List.setIfInBounds_toArray, List.set_cons_zero, List.set_cons_succ]); refine wpAnyH_take (i := 4) (v := ?_) (by rfl) (by kernel_rfl) (by kernel_rfl) (by kernel_rfl) (fun _ _ _ h => h) (Or.inl ⟨by kernel_rfl, ?_⟩) (by assumption) ?_; rotate_left 1; (focus (intro w hSw; (try dsimp only at hSw); simp only [List.getElem_toArray, List.getElem_cons_succ, List.getElem_cons_zero]; all_goals go_simp; all_goals (try with_reducible rfl))); (try simp only [Act.put, List.getElem_toArray, List.getElem_cons_succ, List.getElem_cons_zero, List.setIfInBounds_toArray, List.set_cons_zero, List.set_cons_succ]); refine wpAnyH_take (i := 5) (v := ?_) (by rfl) (by kernel_rfl) (by kernel_rfl) (by kernel_rfl) (fun _ _ _ h => h) (Or.inl ⟨by kernel_rfl, ?_⟩) (by assumption) ?_; rotate_left 1; (focus (intro w hSw; (try dsimp only at hSw); simp only [List.getElem_toArray, List.getElem_cons_succ, List.getElem_cons_zero]; all_goals go_simp; all_goals (try with_reducible rfl))); (try simp only [Act.put, List.getElem_toArray, List.getElem_cons_succ, List.getElem_cons_zero, List.setIfInBounds_toArray, List.set_cons_zero, List.set_cons_succ]); refine wpAnyH_take (i := 6) (v := ?_) (by rfl) (by kernel_rfl) (by kernel_rfl) (by kernel_rfl) (fun _ _ _ h => h) (Or.inl ⟨by kernel_rfl, ?_⟩) (by assumption) ?_; rotate_left 1; (focus (intro w hSw; (try dsimp only at hSw); simp only [List.getElem_toArray, List.getElem_cons_succ, List.getElem_cons_zero]; all_goals go_simp; all_goals (try with_reducible rfl))); (try simp only [Act.put, List.getElem_toArray, List.getElem_cons_succ, List.getElem_cons_zero, List.setIfInBounds_toArray, List.set_cons_zero, List.set_cons_succ]); refine wpAnyH_take (i := 7) (v := ?_) (by rfl) (by kernel_rfl) (by kernel_rfl) (by kernel_rfl) (fun _ _ _ h => h) (Or.inl ⟨by kernel_rfl, ?_⟩) (by assumption) ?_; rotate_left 1; (focus (intro w hSw; (try dsimp only at hSw); simp only [List.getElem_toArray, List.getElem_cons_succ, List.getElem_cons_zero]; all_goals go_simp; all_goals (try with_reducible rfl))); (try simp only [Act.put, List.getElem_toArray, List.getElem_cons_succ, List.getElem_cons_zero, List.setIfInBounds_toArray, List.set_cons_zero, List.set_cons_succ]); refine wpAnyH_ready (rs := [8]) (by kernel_rfl) (by simp) ?_; refine AllReadyH.cons (by rfl) (fun K hK => ?_) AllReadyH.nil; rw [if_pos (by kernel_rfl)]; simp only [List.getElem_toArray, List.getElem_cons_succ, List.getElem_cons_zero]; go_wp2_with (first | (go_at_call 66; (with_reducible refine (slive_at 3 k1 k2 k3 k4 r hr _ (H.out.below (HA.out.1.trans (HBd.out.mono HA.out.1.size)))).mono ?_); rintro e w9 ⟨rfl, hb⟩; have HB9 := (Lib.hid (HBd.out.trans (hb.mono HBd.out.size))); clear hb)); refine hK.out _ _ (HSK.out _ HB9.out) (fun hHeld => ?_); clear hK K; (try simp only [Act.put, List.getElem_toArray, List.getElem_cons_succ, List.getElem_cons_zero, List.setIfInBounds_toArray, List.set_cons_zero, List.set_cons_succ]); refine wpAnyH_take (i := 9) (v := ?_) (by rfl) (by kernel_rfl) (by kernel_rfl) (by kernel_rfl) (fun _ _ _ h => h) (Or.inl ⟨by kernel_rfl, ?_⟩) (by assumption) ?_; rotate_left 1; (focus (intro w hSw; (try dsimp only at hSw); simp only [List.getElem_toArray, List.getElem_cons_succ, List.getElem_cons_zero]; all_goals go_simp; all_goals (try with_reducible rfl))); (try simp only [Act.put, List.getElem_toArray, List.getElem_cons_succ, List.getElem_cons_zero, List.setIfInBounds_toArray, List.set_cons_zero, List.set_cons_succ]); refine wpAnyH_done (by kernel_rfl) ?_ _; refine NoPanic.normal ?_; go_wp2_with fail; go_ret; exact ⟨rfl, HA.out.1.trans (HB9.out.mono HA.out.1.size)⟩
/-- A system of banks, nodes, pages, domains; no meter, no factory. -/
structure SJ (w0 w : World) (L : BLoc) (X : SLoc) (D : BSt) : Prop where
  k : BW w0 w L D
  t : MtAt w X.tB X.tP X.tp X.tR X.tG X.tn X.tn (fun _ => false) (fun _ => 0) (fun _ => 0) (fun _ => 0)
  f : PlAt 127 31 w X.fB X.fP X.fp X.fR X.fG X.fn X.fn (fun _ => false) (fun _ => 0) (fun _ b => zk b)
  b : SyB w X.s L.mb L.dP X.tP L.P X.fP X.q 0
  lo : L.T ≤ X.s ∧ L.T ≤ X.q ∧ X.s ≠ X.q ∧ L.T ≤ X.fB ∧ w0.heap.size ≤ X.tB ∧ L.dB ≤ X.tB ∧ L.dR < X.tB ∧ L.dG < X.tB ∧ X.tP < L.bB ∧ X.tp < L.bB ∧ X.tR < L.bB ∧ X.tG < L.bB
section
variable {w0 w w' : World} {L : BLoc} {X : SLoc} {D D' : BSt}
theorem SysNew.sj (h : SysNew w0 w L X) : SJ w0 w L X st0 := ⟨h.k, h.t, h.f, h.b, h.lo⟩
theorem PlAt.same {T : TypeId} {s base P p B G n c : Nat} {th : Nat → Bool} {vr : Nat → Int} {W : Nat → Nat → Value} (h : PlAt T s w base P p B G n c th vr W) (hs : w.heap.size ≤ w'.heap.size) (h1 : w'.heap[P]? = w.heap[P]?) (h2 : w'.heap[p]? = w.heap[p]?) (h3 : w'.heap[B]? = w.heap[B]?) (h4 : w'.heap[G]? = w.heap[G]?) : PlAt T s w' base P p B G n c th vr W :=
  ⟨Nat.lt_of_lt_of_le h.pl hs, h.pb, (World.cell?_of_block (a := ⟨P, 0, none⟩) h1).trans h.f0, (World.cell?_of_block (a := ⟨P, 1, none⟩) h1).trans h.f1, h.ar.same2 hs h2 h3, own_same h.row h4, h.n1, h.n2, h.n3, h.n4⟩
theorem MtAt.same {base P p B G n c : Nat} {th : Nat → Bool} {vr pr tk : Nat → Int} (h : MtAt w base P p B G n c th vr pr tk) (hs : w.heap.size ≤ w'.heap.size) (h1 : w'.heap[P]? = w.heap[P]?) (h2 : w'.heap[p]? = w.heap[p]?) (h3 : w'.heap[B]? = w.heap[B]?) (h4 : w'.heap[G]? = w.heap[G]?) : MtAt w' base P p B G n c th vr pr tk :=
  ⟨Nat.lt_of_lt_of_le h.pl hs, h.pb, (World.cell?_of_block (a := ⟨P, 0, none⟩) h1).trans h.f0, (World.cell?_of_block (a := ⟨P, 1, none⟩) h1).trans h.f1, h.ar.same2 hs h2 h3, own_same h.row h4, h.n1, h.n2, h.n3, h.n4⟩
theorem MtAt.low2 {base P p B G n c : Nat} {th : Nat → Bool} {vr pr tk : Nat → Int} (h : MtAt w base P p B G n c th vr pr tk) : base ≤ P ∧ base ≤ p ∧ base ≤ B ∧ base ≤ G ∧ P < w.heap.size ∧ p < w.heap.size ∧ B < w.heap.size ∧ G < w.heap.size := ⟨h.pb, h.ar.pb, h.ar.lt.1, (h.row.lt G rfl).1, h.pl, h.ar.pl, h.ar.lt.2, (h.row.lt G rfl).2⟩
theorem SJ.below (h : SJ w0 w L X D) (hb : Below w.heap.size w w') : SJ w0 w' L X D :=
  ⟨h.k.below hb, h.t.below hb, h.f.same hb.size (hb.block _ h.f.pl) (hb.block _ h.f.ar.pl) (hb.block _ h.f.ar.lt.2) (hb.block _ (h.f.row.lt _ rfl).2), h.b.below hb, h.lo⟩
theorem SJ.step (h : SJ w0 w L X D) (hk : BW w0 w' L D') (hu : UpM L w w') : SJ w0 w' L X D' := by
  have ht := h.t.low2
  have hl := h.lo
  have hz := hu.up.1
  have hT := h.k.tt.1
  have win : ∀ k, X.tB ≤ k → k < L.bB → k < w.heap.size → w'.heap[k]? = w.heap[k]? := fun k h1 h2 h3 => hu.win k (by omega) h2 (by omega) (by omega) h3
  have f1 := h.f.pb
  have f2 := h.f.ar.pb
  have f3 := h.f.ar.lt
  have f4 := h.f.row.lt X.fG rfl
  exact ⟨hk, h.t.same hz (win _ ht.1 (by omega) ht.2.2.2.2.1) (win _ ht.2.1 (by omega) ht.2.2.2.2.2.1) (win _ ht.2.2.1 (by omega) ht.2.2.2.2.2.2.1) (win _ ht.2.2.2.1 (by omega) ht.2.2.2.2.2.2.2), h.f.same hz (hu.up.2 _ (by omega) h.f.pl) (hu.up.2 _ (by omega) h.f.ar.pl) (hu.up.2 _ (by omega) f3.2) (hu.up.2 _ (by omega) f4.2), h.b.same hz (hu.up.2 _ hl.1 h.b.lt), hl⟩
end
end Go.Proofs.YtncopdhhchmpeaaGreatDoor
namespace Go.Proofs.YtncopdhhchmpeaaGreatDoor
open Go.ChangeShapes Go.WideShapes Go.ChangeAt Go.RowKit
set_option linter.unusedVariables false
end Go.Proofs.YtncopdhhchmpeaaGreatDoor
namespace Go.Proofs.YtncopdhhchmpeaaGreatDoor
open Go.ChangeShapes Go.WideShapes Go.ChangeAt Go.RowKit
set_option linter.unusedVariables false
set_option linter.unusedSimpArgs false
def cnt01 (b : Bool) : Int := if b = true then 1 else 0
/-- The cells of a call, with two keys of its note. -/
structure CallJ (cs : List Value) (s : Nat) (o : Int) (m0 m1 m2 m3 m4 n0 n1 n2 n3 n4 : Int) : Prop where
  len : cs.length = 25
  c6 : cs[6]? = some (.int .u32 o)
  a0 : cs[10]? = some (.int .i64 m0)
  a1 : cs[11]? = some (.int .i64 m1)
  a2 : cs[12]? = some (.int .i64 m2)
  a3 : cs[13]? = some (.int .i64 m3)
  a4 : cs[14]? = some (.int .u32 m4)
  b0 : cs[15]? = some (.int .i64 n0)
  b1 : cs[16]? = some (.int .i64 n1)
  b2 : cs[17]? = some (.int .i64 n2)
  b3 : cs[18]? = some (.int .i64 n3)
  b4 : cs[19]? = some (.int .u32 n4)
section
variable {cs : List Value} {s : Nat} {o m0 m1 m2 m3 m4 n0 n1 n2 n3 n4 : Int}
end
end Go.Proofs.YtncopdhhchmpeaaGreatDoor
namespace Go.Proofs.YtncopdhhchmpeaaGreatDoor
open Go.ChangeShapes Go.WideShapes Go.ChangeAt Go.RowKit
set_option linter.unusedVariables false
set_option linter.unusedSimpArgs false
section
variable {cs : List Value} {s : Nat} {k0 k1 k2 k3 k4 o x : Int}
end
end Go.Proofs.YtncopdhhchmpeaaGreatDoor
namespace Go.Proofs.YtncopdhhchmpeaaGreatDoor
open Go.ChangeShapes Go.WideShapes Go.ChangeAt Go.RowKit
set_option linter.unusedVariables false
/-- The cells of factories. -/
def mkW (sl : Nat → Bool) (ky : Nat → Nat → Nat → Int) : Nat → Nat → Value := fun i b => if b = 0 then .bool (sl i) else kval ((b - 1) % 5) (ky i ((b - 1) / 5) ((b - 1) % 5))
def MkAt (w : World) (base P p B G n c : Nat) (th : Nat → Bool) (vr : Nat → Int) (sl : Nat → Bool) (ky : Nat → Nat → Nat → Int) : Prop := PlAt 127 31 w base P p B G n c th vr (mkW sl ky)
/-- One part anew. -/
def updP (ky : Nat → Nat → Nat → Int) (i a : Nat) (y0 y1 y2 y3 y4 : Int) : Nat → Nat → Nat → Int := fun i' a' q => if i' = i ∧ a' = a then (if q = 0 then y0 else if q = 1 then y1 else if q = 2 then y2 else if q = 3 then y3 else y4) else ky i' a' q
section
variable {w w' : World} {base P p B G n c : Nat} {th th' : Nat → Bool} {vr_ vr' : Nat → Int} {sl : Nat → Bool} {ky : Nat → Nat → Nat → Int}
theorem MkAt.pl (h : MkAt w base P p B G n c th vr_ sl ky) : PlAt 127 31 w base P p B G n c th vr_ (mkW sl ky) := h
theorem MkAt.ar (h : MkAt w base P p B G n c th vr_ sl ky) : ArAt w base p B n c th vr_ := h.pl.ar
theorem MkAt.below (h : MkAt w base P p B G n c th vr_ sl ky) (hb : Below w.heap.size w w') : MkAt w' base P p B G n c th vr_ sl ky := h.pl.below hb
theorem MkAt.congr (h : MkAt w base P p B G n c th vr_ sl ky) (h1 : ∀ i, i < n → th i = th' i) (h2 : ∀ i, i < n → vr_ i = vr' i) : MkAt w base P p B G n c th' vr' sl ky := h.pl.congr h1 h2
theorem MkAt.s0 (h : MkAt w base P p B G n c th vr_ sl ky) (i : Nat) (hi : i < n) : w.cell? ⟨G, i * 31, none⟩ = some (.bool (sl i)) := h.pl.cell i 0 hi (by decide)
end
end Go.Proofs.YtncopdhhchmpeaaGreatDoor
namespace Go.Proofs.YtncopdhhchmpeaaGreatDoor
open Go.ChangeShapes Go.WideShapes Go.ChangeAt Go.RowKit
set_option linter.unusedVariables false
set_option linter.unusedSimpArgs false
section
variable {w0 w w' : World} {L : BLoc} {X : SLoc} {D : BSt}
theorem DMD.keep (h : DMD w L D) (hs : w.heap.size ≤ w'.heap.size) (hP : w'.heap[L.dP]? = w.heap[L.dP]?) (hp : w'.heap[L.dp]? = w.heap[L.dp]?) (hR : w'.heap[L.dR]? = w.heap[L.dR]?) (hG : w'.heap[L.dG]? = w.heap[L.dG]?) (hQ : w'.heap[L.dQ]? = w.heap[L.dQ]?) : DMD w' L D :=
  ⟨⟨Nat.lt_of_lt_of_le h.pl.pl hs, h.pl.pb, (World.cell?_of_block (a := ⟨L.dP, 0, none⟩) hP).trans h.pl.f0, (World.cell?_of_block (a := ⟨L.dP, 1, none⟩) hP).trans h.pl.f1, h.pl.ar.same2 hs hp hR, RowO.same (e := 0) h.pl.row hG, h.pl.n1, h.pl.n2, h.pl.n3, h.pl.n4⟩, (World.cell?_of_block (a := ⟨L.dP, 2, none⟩) hP).trans h.f2, RowO.same (e := 0) h.qs hQ, h.q1, h.q2, h.q3⟩
theorem BW.keep (h : BW w0 w L D) (hb : Below L.dB w w') (hP : w'.heap[L.dP]? = w.heap[L.dP]?) (hp : w'.heap[L.dp]? = w.heap[L.dp]?) (hR : w'.heap[L.dR]? = w.heap[L.dR]?) (hG : w'.heap[L.dG]? = w.heap[L.dG]?) (hQ : w'.heap[L.dQ]? = w.heap[L.dQ]?) (hk : ∀ k, L.bB ≤ k → k < L.T → w'.heap[k]? = w.heap[k]?) : BW w0 w' L D := by
  have hmd := h.md
  have ht := h.tt
  have hm := MMD.low h.m hb hmd.1 hmd.2.1 hmd.2.2
  have hd := DMD.keep h.d hb.size hP hp hR hG hQ
  have b1 := h.k.pb
  have b2 := h.k.ar.pb
  have b3 := h.k.ar.lt.1
  have b4 := h.k.ac.lt.1
  have b5 := h.k.t1.lt.1
  have b6 := h.k.t2.lt.1
  have b7 := h.k.t3.lt.1
  exact ⟨hm, hd, BkAt.keep h.k hb.size (hk _ b1 ht.2.1) (h.k.ar.same2 hb.size (hk _ b2 ht.2.2.1) (hk _ b3 ht.2.2.2.1)) (h.k.ac.same (hk _ b4 ht.2.2.2.2.1)) (h.k.t1.same (hk _ b5 ht.2.2.2.2.2.1)) (h.k.t2.same (hk _ b6 ht.2.2.2.2.2.2.1)) (h.k.t3.same (hk _ b7 ht.2.2.2.2.2.2.2)), hmd, h.db, h.dl, h.pk, h.nn, h.tt, Nat.le_trans h.tw hb.size⟩
end
/-- A system: what its banks hold, its meters, its factories. -/
structure SK (w0 w : World) (L : BLoc) (X : SLoc) (D : BSt) (mt : Nat → Bool) (mp mk : Nat → Int) (ft sl : Nat → Bool) (ky : Nat → Nat → Nat → Int) : Prop where
  k : BW w0 w L D
  t : MtAt w X.tB X.tP X.tp X.tR X.tG X.tn X.tn mt (fun _ => 0) mp mk
  f : PlAt 127 31 w X.fB X.fP X.fp X.fR X.fG X.fn X.fn ft (fun _ => 0) (mkW sl ky)
  b : SyB w X.s L.mb L.dP X.tP L.P X.fP X.q 0
  lo : L.T ≤ X.s ∧ L.T ≤ X.q ∧ X.s ≠ X.q ∧ L.T ≤ X.fB ∧ w0.heap.size ≤ X.tB ∧ L.dB ≤ X.tB ∧ L.dR < X.tB ∧ L.dG < X.tB ∧ X.tP < L.bB ∧ X.tp < L.bB ∧ X.tR < L.bB ∧ X.tG < L.bB
  sz : 0 < X.tn ∧ 0 < X.fn ∧ 0 < L.dn
section
variable {w0 w w' : World} {L : BLoc} {X : SLoc} {D : BSt} {mt mt' : Nat → Bool} {mp mk mp' mk' : Nat → Int} {ft sl ft' sl' : Nat → Bool} {ky ky' : Nat → Nat → Nat → Int}
theorem SK.below (h : SK w0 w L X D mt mp mk ft sl ky) (hb : Below w.heap.size w w') : SK w0 w' L X D mt mp mk ft sl ky :=
  ⟨h.k.below hb, h.t.below hb, h.f.same hb.size (hb.block _ h.f.pl) (hb.block _ h.f.ar.pl) (hb.block _ h.f.ar.lt.2) (hb.block _ (h.f.row.lt _ rfl).2), h.b.below hb, h.lo, h.sz⟩
theorem two_apart {w : World} {a b : Nat} {u v : Value} (h1 : w.cell? ⟨a, 0, none⟩ = some u) (h2 : w.cell? ⟨b, 0, none⟩ = some v) (hn : u ≠ v) : a ≠ b := fun e => hn (by
  subst e
  rw [h1] at h2
  exact Option.some.inj h2)
theorem SK.meter (h : SK w0 w L X D mt mp mk ft sl ky) (ht : MtAt w' X.tB X.tP X.tp X.tR X.tG X.tn X.tn mt' (fun _ => 0) mp' mk') (hb : PBelow w w' X.tR X.tG) : SK w0 w' L X D mt' mp' mk' ft sl ky := by
  have hl := h.lo
  have hlt := h.t.low2
  have hT := h.k.tt.1
  have c0 := h.t.ar.at0 0 h.sz.1
  have c1 := h.t.at0 0 h.sz.1
  rw [Nat.zero_mul] at c0 c1
  have dP0 := h.k.d.pl.f0
  have dp0 := h.k.d.pl.ar.fld
  have dQ0 : w.cell? ⟨L.dQ, 0, none⟩ = some (.slice none 0 0) := by
    have h1 := h.k.d.qs.cellAt 0 (by have := h.sz.2.2; omega)
    rw [h1]
    have h2 := flatS_at 2 (fun _ b => zq b) L.dn 0 0 h.sz.2.2 (by decide)
    simpa [zq] using h2
  have n1 := two_apart dP0 c0 (by simp)
  have n2 := two_apart dP0 c1 (by simp)
  have n3 := two_apart dp0 c0 (by simp)
  have n4 := two_apart dp0 c1 (by simp)
  have n5 := two_apart dQ0 c0 (by simp)
  have n6 := two_apart dQ0 c1 (by simp)
  have g := hb.2.2.2.2
  have hz := hb.2.2.2.1
  have q1 := h.k.d.pl.pl
  have q2 := h.k.d.pl.ar.pl
  have q3 := h.k.d.pl.ar.lt.2
  have q4 := h.k.d.pl.gl.2
  have q5 := (h.k.d.qs.lt L.dQ rfl).2
  have tw := h.k.tw
  have f1 := h.f.pb
  have f2 := h.f.ar.pb
  have f3 := h.f.ar.lt
  have f4 := h.f.row.lt X.fG rfl
  refine ⟨h.k.keep (hb.below (by omega) (by omega) (by omega)) (g _ q1 n1 n2) (g _ q2 n3 n4) (g _ q3 (by omega) (by omega)) (g _ q4 (by omega) (by omega)) (g _ q5 n5 n6) (fun k k1 k2 => g k (by omega) (by omega) (by omega)), ht, h.f.same hz (g _ h.f.pl (by omega) (by omega)) (g _ h.f.ar.pl (by omega) (by omega)) (g _ f3.2 (by omega) (by omega)) (g _ f4.2 (by omega) (by omega)), h.b.same hz (g _ h.b.lt (by omega) (by omega)), h.lo, h.sz⟩
end
end Go.Proofs.YtncopdhhchmpeaaGreatDoor
namespace Go.Proofs.YtncopdhhchmpeaaGreatDoor
open Go.ChangeShapes Go.WideShapes Go.ChangeAt Go.RowKit
set_option linter.unusedVariables false
set_option linter.unusedSimpArgs false
section
variable {cs nt : List Value} {s N : Nat} {k1 k2 k3 k4 o x : Int} {Q : World → Prop}
end
section
variable {s m d t b f q : Nat} {st : Int}
end
end Go.Proofs.YtncopdhhchmpeaaGreatDoor
namespace Go.Proofs.YtncopdhhchmpeaaGreatDoor
open Go.ChangeShapes Go.WideShapes Go.ChangeAt Go.RowKit Go.Maps
set_option linter.unusedVariables false
/-- Numbers are read there. -/
def RI (w : World) (a : Option Addr) (xs : List Int) : Prop := ∀ i, i < xs.length → ∃ ad, a = some ad ∧ ad.block < w.heap.size ∧ w.cell? (ad.add i) = some (.int .i64 (xs.getD i 0))
theorem RI.below {w w' : World} {a : Option Addr} {xs : List Int} (h : RI w a xs) (hb : Below w.heap.size w w') : RI w' a xs := by
  intro i hi
  obtain ⟨ad, h1, h2, h3⟩ := h i hi
  exact ⟨ad, h1, Nat.lt_of_lt_of_le h2 hb.size, (hb.cell (p := ad.add i) (by rw [add_block']; exact h2)).trans h3⟩
end Go.Proofs.YtncopdhhchmpeaaGreatDoor
namespace Go.Proofs.YtncopdhhchmpeaaGreatDoor
open Go.ChangeShapes Go.WideShapes Go.ChangeAt Go.RowKit
set_option linter.unusedVariables false
set_option linter.unusedSimpArgs false
section
variable {s m d t b f q : Nat} {st : Int}
set_option maxRecDepth 100000 in
set_option maxHeartbeats 4000000 in
theorem skey_node (x k0 k1 k2 k3 k4 : Int) (w : World) (hB : SyB w s m d t b f q st) (S : Nat) (hP : w.cell? ⟨m, 0, none⟩ = some (.pointer (some ⟨S, 0, none⟩))) (hC : ∀ W, Below w.heap.size w W → Calls Tryz.prog 53 #[.pointer (some ⟨S, 0, none⟩), .int .i64 x, .int .i64 0] W fun e w' => e = .returned (.agg #[.int .i64 k0, .int .i64 k1, .int .i64 k2, .int .i64 k3, .int .u32 k4]) ∧ Below W.heap.size W w') :
    Calls Tryz.prog 16 #[.pointer (some ⟨s, 0, none⟩), .int .i64 2, .int .i64 x] w fun e w' => e = .returned (.agg #[.int .i64 k0, .int .i64 k1, .int .i64 k2, .int .i64 k3, .int .u32 k4]) ∧ Below w.heap.size w w' := by
  have HC := Lib.hid hC
  have HB := Lib.hid hB
  have HP := Lib.hid (⟨cell_lt hP, hP⟩ : m < w.heap.size ∧ w.cell? ⟨m, 0, none⟩ = some (.pointer (some ⟨S, 0, none⟩)))
  clear hC hB hP
  go_enter Tryz.func16, Tryz.ntmps16
  go_upto_region 1 with fail
  generalize hA : World.alloc w _ = wA
  obtain ⟨K, hK⟩ : ∃ K, K = w.heap.size := ⟨_, rfl⟩
  have HBa : Hid (Below w.heap.size w wA) := Lib.hid (by rw [← hA]; exact (Below.refl _ _).alloc (Nat.le_refl _) _)
  have HK0 : Hid (KeyC wA K 0 0 0 0 0) := Lib.hid (by rw [← hA, hK]; exact KeyC.new w 0 0 0 0 0 _)
  have HKl : Hid (w.heap.size ≤ K) := Lib.hid (by rw [hK]; exact Nat.le_refl _)
  have sc := ((HB.out.below HBa.out).c0)
  have pc := (HBa.out.cell (p := ⟨m, 0, none⟩) HP.out.1).trans HP.out.2
  rw [← hK]
  clear hA hK
  go_wp2_with (first
    | (go_at_call 53; (with_reducible refine (HC.out _ HBa.out).mono ?_); rintro e w1 ⟨rfl, hb⟩; have HB1 := Lib.hid (HBa.out.trans (hb.mono HBa.out.size)); have HK1 := Lib.hid (HK0.out.below hb); have z0 := HK1.out.c0; have z1 := HK1.out.c1; have z2 := HK1.out.c2; have z3 := HK1.out.c3; have z4 := HK1.out.c4; have zf0 := HK1.out.fr 0; have zf1 := HK1.out.fr 1; have zf2 := HK1.out.fr 2; have zf3 := HK1.out.fr 3; have zf4 := HK1.out.fr 4; clear hb))
  have t := HK1.out.set k0 k1 k2 k3 k4
  have t0 := t.c0
  have t1 := t.c1
  have t2 := t.c2
  have t3 := t.c3
  have t4 := t.c4
  refine bodyPost_ret (v := .agg #[.int .i64 k0, .int .i64 k1, .int .i64 k2, .int .i64 k3, .int .u32 k4]) (by simp [results, Tryz.results16, go_sem, t0, t1, t2, t3, t4]) rfl ⟨rfl, ?_⟩
  exact ((((HB1.out.setCell HKl.out _).setCell HKl.out _).setCell HKl.out _).setCell HKl.out _).setCell HKl.out _
set_option maxRecDepth 100000 in
set_option maxHeartbeats 4000000 in
theorem skey_page (x k0 k1 k2 k3 k4 : Int) (w : World) (hB : SyB w s m d t b f q st) (S : Nat) (hP : w.cell? ⟨m, 0, none⟩ = some (.pointer (some ⟨S, 0, none⟩))) (hC : ∀ W, Below w.heap.size w W → Calls Tryz.prog 54 #[.pointer (some ⟨S, 0, none⟩), .int .i64 x] W fun e w' => e = .returned (.agg #[.int .i64 k0, .int .i64 k1, .int .i64 k2, .int .i64 k3, .int .u32 k4]) ∧ Below W.heap.size W w') :
    Calls Tryz.prog 16 #[.pointer (some ⟨s, 0, none⟩), .int .i64 3, .int .i64 x] w fun e w' => e = .returned (.agg #[.int .i64 k0, .int .i64 k1, .int .i64 k2, .int .i64 k3, .int .u32 k4]) ∧ Below w.heap.size w w' := by
  have HC := Lib.hid hC
  have HB := Lib.hid hB
  have HP := Lib.hid (⟨cell_lt hP, hP⟩ : m < w.heap.size ∧ w.cell? ⟨m, 0, none⟩ = some (.pointer (some ⟨S, 0, none⟩)))
  clear hC hB hP
  go_enter Tryz.func16, Tryz.ntmps16
  go_upto_region 1 with fail
  generalize hA : World.alloc w _ = wA
  obtain ⟨K, hK⟩ : ∃ K, K = w.heap.size := ⟨_, rfl⟩
  have HBa : Hid (Below w.heap.size w wA) := Lib.hid (by rw [← hA]; exact (Below.refl _ _).alloc (Nat.le_refl _) _)
  have HK0 : Hid (KeyC wA K 0 0 0 0 0) := Lib.hid (by rw [← hA, hK]; exact KeyC.new w 0 0 0 0 0 _)
  have HKl : Hid (w.heap.size ≤ K) := Lib.hid (by rw [hK]; exact Nat.le_refl _)
  have sc := ((HB.out.below HBa.out).c0)
  have pc := (HBa.out.cell (p := ⟨m, 0, none⟩) HP.out.1).trans HP.out.2
  rw [← hK]
  clear hA hK
  go_wp2_with (first
    | (go_at_call 54; (with_reducible refine (HC.out _ HBa.out).mono ?_); rintro e w1 ⟨rfl, hb⟩; have HB1 := Lib.hid (HBa.out.trans (hb.mono HBa.out.size)); have HK1 := Lib.hid (HK0.out.below hb); have z0 := HK1.out.c0; have z1 := HK1.out.c1; have z2 := HK1.out.c2; have z3 := HK1.out.c3; have z4 := HK1.out.c4; have zf0 := HK1.out.fr 0; have zf1 := HK1.out.fr 1; have zf2 := HK1.out.fr 2; have zf3 := HK1.out.fr 3; have zf4 := HK1.out.fr 4; clear hb))
  have t := HK1.out.set k0 k1 k2 k3 k4
  have t0 := t.c0
  have t1 := t.c1
  have t2 := t.c2
  have t3 := t.c3
  have t4 := t.c4
  refine bodyPost_ret (v := .agg #[.int .i64 k0, .int .i64 k1, .int .i64 k2, .int .i64 k3, .int .u32 k4]) (by simp [results, Tryz.results16, go_sem, t0, t1, t2, t3, t4]) rfl ⟨rfl, ?_⟩
  exact ((((HB1.out.setCell HKl.out _).setCell HKl.out _).setCell HKl.out _).setCell HKl.out _).setCell HKl.out _

end
def kinds12 : List Int := [1, 2, 3, 4, 7, 8, 9, 10, 11, 12, 13, 14]
end Go.Proofs.YtncopdhhchmpeaaGreatDoor
namespace Go.Proofs.YtncopdhhchmpeaaGreatDoor
open Go.ChangeShapes Go.WideShapes Go.ChangeAt Go.RowKit
set_option linter.unusedVariables false
/-- Meters over a law's start. -/
structure MV (W0 w : World) (base P p B G n c : Nat) (th : Nat → Bool) (vr pr tk : Nat → Int) : Prop where
  bel : Below W0.heap.size W0 w
  wb : W0.heap.size ≤ base
  mt : MtAt w base P p B G n c th vr pr tk
section
variable {W0 w w' : World} {base P p B G n c : Nat} {th th' : Nat → Bool} {vr vr' pr pr' tk tk' : Nat → Int}
theorem MV.lo (h : MV W0 w base P p B G n c th vr pr tk) : W0.heap.size ≤ B ∧ W0.heap.size ≤ G := ⟨Nat.le_trans h.wb h.mt.ar.lt.1, Nat.le_trans h.wb (h.mt.row.lt G rfl).1⟩
theorem MV.step (h : MV W0 w base P p B G n c th vr pr tk) (hb : Below w.heap.size w w') : MV W0 w' base P p B G n c th vr pr tk := ⟨h.bel.trans (hb.mono h.bel.size), h.wb, h.mt.below hb⟩
theorem MV.made (h : MV W0 w base P p B G n c th vr pr tk) (hP : MtAt w' base P p B G n c th' vr' pr' tk') (hb : PBelow w w' B G) : MV W0 w' base P p B G n c th' vr' pr' tk' := ⟨h.bel.trans (hb.below h.lo.1 h.lo.2 h.bel.size), h.wb, hP⟩
theorem MV.congr (h : MV W0 w base P p B G n c th vr pr tk) (h1 : ∀ i, i < n → th i = th' i) (h3 : ∀ i, i < n → pr i = pr' i) (h4 : ∀ i, i < n → tk i = tk' i) : MV W0 w base P p B G n c th' vr pr' tk' := ⟨h.bel, h.wb, h.mt.congr h1 (fun _ _ => rfl) h3 h4⟩
end
def t0 (zs : List Int) (i : Nat) : Int := zs.getD i 0 % 40
theorem t0_hi (zs : List Int) (i : Nat) : t0 zs i < 40 := Int.emod_lt_of_pos _ (by decide)
def prK (k : Nat) (i : Nat) : Int := if i < k then (i : Int) - 1 else 0
def tkK (zs : List Int) (k : Nat) (i : Nat) : Int := if i < k then t0 zs i else 0
def tkT (zs : List Int) (len : Nat) (m : Int) (i : Nat) : Int := if i < len then t0 zs i - m else 0
def LA (zs : List Int) (k : Nat) (L A : Int) : Prop := 0 ≤ L ∧ L ≤ 1073741824 ∧ (k = 0 ∧ L = 1073741824 ∧ A = -1 ∨ ∃ m : Nat, m < k ∧ A = m ∧ t0 zs m = L ∧ (∀ i, i < k → L ≤ t0 zs i) ∧ ∀ i, m < i → i < k → L < t0 zs i)
theorem LA.no {zs : List Int} {k : Nat} {L A : Int} (h : LA zs k L A) (hx : ¬ t0 zs k ≤ L) : LA zs (k + 1) L A := by
  have h2 := t0_hi zs k
  refine ⟨h.1, h.2.1, .inr ?_⟩
  rcases h.2.2 with ⟨rfl, e, _⟩ | ⟨m, h3, h4, h5, h6, h7⟩
  · omega
  · refine ⟨m, by omega, h4, h5, fun i hi => ?_, fun i h8 h9 => ?_⟩
    · by_cases e : i = k
      · subst e; omega
      · exact h6 i (by omega)
    · by_cases e : i = k
      · subst e; omega
      · exact h7 i h8 (by omega)
end Go.Proofs.YtncopdhhchmpeaaGreatDoor
namespace Go.Proofs.YtncopdhhchmpeaaGreatDoor
open Go.ChangeShapes Go.WideShapes Go.ChangeAt Go.RowKit
set_option linter.unusedVariables false
set_option maxRecDepth 100000 in
set_option maxHeartbeats 1000000 in
theorem chain_gen {base P p B G n c : Nat} {th : Nat → Bool} {vr pr tk : Nat → Int} (j : Nat) (hj : j < n) (hth : Hid (∀ i, i ≤ j → th i = true)) (hpr : Hid (∀ i, i ≤ j → -1 ≤ pr i ∧ pr i < (i : Int))) (w : World) (h : MtAt w base P p B G n c th vr pr tk) :
    Calls Tryz.prog 64 #[.pointer (some ⟨P, 0, none⟩), .int .i64 j] w fun e w' => ∃ v, e = .returned v ∧ w'.ownsRow w.heap.size 3 1 v (chF pr (j + 1) j).length ((chF pr (j + 1) j).map (Value.int .i64)) ∧ Below w.heap.size w w' := by
  have H := Lib.hid h
  have hn := h.ar.le
  obtain ⟨i0, hi, hz0, hz1, hz2⟩ := info_parts infoIntM
  have HI := Lib.hid (⟨hi, hz0, hz1, hz2⟩ : Tryz.prog.info? 3 = some i0 ∧ i0.zero = some (.int .i64 0) ∧ i0.size = 1 ∧ i0.bytes = 8)
  obtain ⟨LL, HLL⟩ : ∃ LL, Hid (chF pr (j + 1) j = LL) := ⟨_, Lib.hid rfl⟩
  rw [HLL.out]
  clear h hi hz0 hz1 hz2
  go_enter Tryz.func64, Tryz.ntmps64
  go_wp2_with fail
  go_loopw [1, 5] (fun x v wr => ∃ (y : Int) (xs : List Int), x = .int .i64 y ∧ -1 ≤ y ∧ y ≤ j ∧ xs.length + (y + 1).toNat ≤ j + 1 ∧ Hid (xs ++ chF pr (j + 1) y = LL) ∧ wr.ownsRow w.heap.size 3 1 v xs.length (xs.map (Value.int .i64)) ∧ Below w.heap.size w wr) (fun x _ _ => (intOf x + 1).toNat)
  case atStart => exact ⟨j, [], rfl, by omega, by omega, by simp, Lib.hid (by simpa using HLL.out), World.ownsRow_nil _ _ _ _, Below.refl _ _⟩
  case round =>
    obtain ⟨y, xs, rfl, hy0, hy1, hlen, HE, hown, hbel⟩ := hrel
    have HW := Lib.hid hown
    have HL := Lib.hid hbel
    have HM := Lib.hid (H.out.below hbel)
    have f0 := HM.out.f0
    have f1 := HM.out.f1
    clear hown hbel
    by_cases hlt : 0 ≤ y
    · obtain ⟨q, rfl⟩ : ∃ q : Nat, y = q := ⟨y.toNat, by omega⟩
      have hqj : q ≤ j := by omega
      obtain ⟨r, HR⟩ : ∃ r, Hid (pr q = r) := ⟨_, Lib.hid rfl⟩
      have hr := hpr.out q hqj
      rw [HR.out] at hr
      obtain ⟨hr0, hr1⟩ := hr
      have c0 := HM.out.at0 q (by omega)
      rw [HR.out] at c0
      have HT := Lib.hid (hth.out q hqj)
      have HE2 : Hid ((xs ++ [(q : Int)]) ++ chF pr (j + 1) r = LL) := Lib.hid (by
        rw [← HE.out, ← HR.out]
        have e1 : chF pr (j + 1) (q : Int) = (q : Int) :: chF pr j (pr q) := by simp [chF]
        rw [e1, chF_fuel pr j hpr.out j (j + 1) (pr q) (by rw [HR.out]; omega) (by rw [HR.out]; omega) (by rw [HR.out]; omega)]
        simp)
      obtain ⟨nl, HNL⟩ : ∃ nl, Hid (xs.length = nl) := ⟨_, Lib.hid rfl⟩
      have hnl : nl ≤ j + 1 := by have := HNL.out; omega
      have hlen2 : nl + 1 + (r + 1).toNat ≤ j + 1 := by have := HNL.out; omega
      rw [HNL.out] at HW
      have k0 : (0 : Int) ≤ q := by omega
      have k1 : (q : Int) < n := by omega
      clear hlen HE
      go_wp2_with (first
        | (go_at_call 63; (with_reducible refine (athere_in q (by omega) true HT _ HM.out.ar).mono ?_); rintro e w1 ⟨rfl, rfl⟩)
        | (at_builtin; refine wpList_append_own _ rfl _ _ 57 rfl w.heap.size 3 i0 (.int .i64 0) 1 8 Tryz.underlying57 HI.out.1 HI.out.2.1 HI.out.2.2.1 HI.out.2.2.2 rfl (by decide) _ _ _ rfl (HW.out.alloc _) ⟨wr.heap.size, 0, none⟩ 1 1 [.int .i64 q] rfl rfl (cell_one_new _ _ _) (ints_oneCell .i64 [(q : Int)]) (by unfold maxLen; omega) (by omega) (by have := HL.out.size; simp; omega) ?_; intro v' w2 hown' hgrow' _; have HB2 : Hid (Below w.heap.size w w2) := Lib.hid ((HL.out.alloc HL.out.size _).grown hgrow' (by have := HL.out.size; simp; omega) (fun g hg => (HW.out.lt g hg).1)); have HO2 : Hid (w2.ownsRow w.heap.size 3 1 v' (nl + 1) ((xs ++ [(q : Int)]).map (Value.int .i64))) := Lib.hid (by rw [List.map_append]; exact hown'); have HM2 := Lib.hid (H.out.below HB2.out); have f0' := HM2.out.f0; have f1' := HM2.out.f1; have c0' := HM2.out.at0 q (by omega); rw [HR.out] at c0'; clear hown' hgrow' f0 f1 c0))
      go_roundw
      case rel => exact ⟨r, xs ++ [(q : Int)], rfl, by omega, by omega, by have := HNL.out; simp; omega, HE2, by rw [show (xs ++ [(q : Int)]).length = nl + 1 by have := HNL.out; simp; omega]; exact HO2.out, HB2.out⟩
      case measure => simp [intOf]; omega
    · have HE3 : Hid (xs = LL) := Lib.hid (by have h := HE.out; rw [chF_neg _ _ _ (by omega)] at h; simpa using h)
      go_wp2_with (first
        | (go_at_call 63; (with_reducible refine (athere_out _ (by omega) _ HM.out.ar).mono ?_); rintro e w1 ⟨rfl, rfl⟩))
      go_ret
      exact ⟨_, rfl, by rw [← HE3.out]; exact HW.out, HL.out⟩
end Go.Proofs.YtncopdhhchmpeaaGreatDoor
namespace Go.Proofs.YtncopdhhchmpeaaGreatDoor
open Go.ChangeShapes Go.WideShapes Go.ChangeAt Go.RowKit
set_option linter.unusedVariables false
theorem chF_pos (pr : Nat → Int) (j : Nat) : 0 < (chF pr (j + 1) j).length := by
  unfold chF
  rw [if_neg (by omega)]
  simp
theorem chain_gsl {base P p B G n c : Nat} {th : Nat → Bool} {vr pr tk : Nat → Int} (j d : Nat) (hd : Hid ((chF pr (j + 1) j).length = d)) (hj : j < n) (hth : Hid (∀ i, i ≤ j → th i = true)) (hpr : Hid (∀ i, i ≤ j → -1 ≤ pr i ∧ pr i < (i : Int))) (w : World) (h : MtAt w base P p B G n c th vr pr tk) :
    Calls Tryz.prog 64 #[.pointer (some ⟨P, 0, none⟩), .int .i64 j] w fun e w' => ∃ g c', e = .returned (.slice (some ⟨g, 0, none⟩) d c') ∧ w'.ownsRow w.heap.size 3 1 (.slice (some ⟨g, 0, none⟩) d c') d ((chF pr (j + 1) j).map (Value.int .i64)) ∧ Below w.heap.size w w' := by
  refine (chain_gen j hj hth hpr w h).mono fun e w' ⟨v, he, hr, hb⟩ => ?_
  rw [hd.out] at hr
  obtain ⟨g, c', rfl⟩ := own_sl hr (by have := chF_pos pr j; have := hd.out; omega)
  exact ⟨g, c', he, hr, hb⟩
end Go.Proofs.YtncopdhhchmpeaaGreatDoor
namespace Go.Proofs.YtncopdhhchmpeaaGreatDoor
open Go.ChangeShapes Go.WideShapes Go.ChangeAt Go.RowKit
set_option linter.unusedVariables false
end Go.Proofs.YtncopdhhchmpeaaGreatDoor
namespace Go.Proofs.YtncopdhhchmpeaaGreatDoor
open Go.ChangeShapes Go.WideShapes Go.ChangeAt Go.RowKit
set_option linter.unusedVariables false
theorem chain_absent {base P p B G n c : Nat} {th : Nat → Bool} {vr pr tk : Nat → Int} (k : Nat) (hk : k < n) (ht : Hid (th k = false)) (w : World) (h : MtAt w base P p B G n c th vr pr tk) :
    Calls Tryz.prog 64 #[.pointer (some ⟨P, 0, none⟩), .int .i64 k] w fun e w' => e = .returned (.slice none 0 0) ∧ w = w' := by
  have H := Lib.hid h
  have f0 := h.f0
  clear h
  go_enter Tryz.func64, Tryz.ntmps64
  go_wp2_with fail
  refine wp_loop_rounds 1 ?_
  rw [rounds_succ]
  go_wp2_with (first | (go_at_call 63; (with_reducible refine (athere_in k hk false ht _ H.out.ar).mono ?_); rintro e w1 ⟨rfl, rfl⟩))
  go_ret
  exact ⟨rfl, rfl⟩
/-- Contains in no slice. -/
theorem scon_nil (v : Int) (w : World) :
    Calls Tryz.prog 71 #[.slice none 0 0, .int .i64 v] w fun e w' => e = .returned (.bool false) ∧ w = w' := by
  have HC : Hid (Calls Tryz.prog 103 #[.slice none 0 0, .int .i64 v] w fun e w' => e = .returned (.int .i64 (-1)) ∧ w = w') := Lib.hid (by
    go_enter Tryz.func103, Tryz.ntmps103
    go_wp2_with fail
    refine wp_loop_rounds 1 ?_
    rw [rounds_succ]
    go_wp2_with fail
    go_ret
    exact ⟨rfl, rfl⟩)
  go_enter Tryz.func71, Tryz.ntmps71
  go_wp2_with (first | (go_at_call 103; (with_reducible refine HC.out.mono ?_); rintro e w1 ⟨rfl, rfl⟩))
  go_ret
  exact ⟨rfl, rfl⟩
end Go.Proofs.YtncopdhhchmpeaaGreatDoor
namespace Go.Proofs.YtncopdhhchmpeaaGreatDoor
open Go.ChangeShapes Go.WideShapes Go.ChangeAt Go.RowKit
set_option linter.unusedVariables false
/-- Does e stand in the chain of i, one of the first u? -/
def inC (pr : Nat → Int) (e u : Nat) (i : Nat) : Bool := decide (i < u) && decide ((e : Int) ∈ chF pr (i + 1) i)
/-- Those of the first k in whose chain e stands. -/
def NL (pr : Nat → Int) (e u k : Nat) : List Nat := (List.range k).filter (inC pr e u)
def iz (l : List Nat) : List Int := l.map (fun q : Nat => (q : Int))
theorem NL_yes {pr : Nat → Int} {e u k : Nat} (h : inC pr e u k = true) : NL pr e u (k + 1) = NL pr e u k ++ [k] := by simp [NL, List.range_succ, h]
theorem NL_no {pr : Nat → Int} {e u k : Nat} (h : inC pr e u k = false) : NL pr e u (k + 1) = NL pr e u k := by simp [NL, List.range_succ, h]
theorem NL_mem {pr : Nat → Int} {e u k i : Nat} : i ∈ NL pr e u k ↔ i < k ∧ inC pr e u i = true := by simp [NL]
theorem NL_len (pr : Nat → Int) (e u k : Nat) : (NL pr e u k).length ≤ k := by
  unfold NL
  have h := List.length_filter_le (inC pr e u) (List.range k)
  simpa using h
theorem NL_apart (pr : Nat → Int) (e u k : Nat) : (NL pr e u k).Pairwise (· ≠ ·) := by
  unfold NL
  exact List.Pairwise.filter _ (List.nodup_range (n := k))
theorem NL_not (pr : Nat → Int) (e u k m q : Nat) (h : (NL pr e u k)[m]? = some q) : q ∉ (NL pr e u k).take m := by
  intro hm
  obtain ⟨hlt, hq⟩ := List.getElem?_eq_some_iff.1 h
  obtain ⟨i, hi, he⟩ := List.mem_take_iff_getElem.1 hm
  have := List.pairwise_iff_getElem.1 (NL_apart pr e u k) i m (by omega) hlt (by omega)
  exact this (by rw [he, hq])
theorem chF_len (pr : Nat → Int) : ∀ (f : Nat) (x : Int), (chF pr f x).length ≤ f := by
  intro f
  induction f with
  | zero => intro x; simp [chF]
  | succ f ih =>
    intro x
    unfold chF
    by_cases h : x < 0
    · rw [if_pos h]; simp
    · rw [if_neg h]; have := ih (pr x.toNat); simp; omega
theorem rn_own {w : World} {base t g d c' : Nat} {xs : List Int} (h : w.ownsRow base t 1 (.slice (some ⟨g, 0, none⟩) d c') d (xs.map (Value.int .i64))) (hl : xs.length = d) : RN w g d xs := by
  intro i hi
  rw [h.cellAt i (by omega), List.getElem?_map]
  simp [List.getD, show i < xs.length by omega]
theorem getD_mem (xs : List Int) (d : Nat) (hl : xs.length = d) (v : Int) : (∃ i, i < d ∧ xs.getD i 0 = v) ↔ v ∈ xs := by
  constructor
  · rintro ⟨i, hi, h⟩
    rw [show xs.getD i 0 = xs[i]'(by omega) by simp [List.getD, show i < xs.length by omega]] at h
    rw [← h]
    exact List.getElem_mem _
  · intro h
    obtain ⟨i, hi, h⟩ := List.mem_iff_getElem.1 h
    exact ⟨i, by omega, by simp [List.getD, hi, h]⟩
def thA (th : Nat → Bool) (l : List Nat) (m : Nat) : Nat → Bool := fun i => th i && !decide (i ∈ l.take m)
def vrA (l : List Nat) (m : Nat) : Nat → Int := fun i => if i ∈ l.take m then 1 else 0
theorem take_one {l : List Nat} {m q : Nat} (h : l[m]? = some q) : l.take (m + 1) = l.take m ++ [q] := by
  rw [List.take_add_one, h]; rfl
theorem thA_next {th : Nat → Bool} {l : List Nat} {m q : Nat} (h : l[m]? = some q) : upd (thA th l m) q false = thA th l (m + 1) := by
  funext i
  unfold upd thA
  rw [take_one h]
  by_cases e : i = q <;> simp [e]
theorem vrA_next {l : List Nat} {m q : Nat} (h : l[m]? = some q) : upd (vrA l m) q 1 = vrA l (m + 1) := by
  funext i
  unfold upd vrA
  rw [take_one h]
  by_cases e : i = q <;> simp [e]
/-- Does b say whether v is among the first d? -/
def ConB (xs : List Int) (d : Nat) (v : Int) (b : Bool) : Prop := (b = true) ↔ ∃ i, i < d ∧ xs.getD i 0 = v
theorem scon_b (g d c' : Nat) (xs : List Int) (v : Int) (hd : d ≤ 1000) (b : Bool) (hb : Hid (ConB xs d v b)) (w : World) (hr : RN w g d xs) :
    Calls Tryz.prog 71 #[.slice (some ⟨g, 0, none⟩) d c', .int .i64 v] w fun e w' => e = .returned (.bool b) ∧ w = w' := scon_is g d c' xs v hd b hb w hr
theorem inC_out {pr : Nat → Int} {e u k : Nat} (h : u ≤ k) : inC pr e u k = false := by unfold inC; rw [decide_eq_false (by omega), Bool.false_and]
set_option maxRecDepth 100000 in
set_option maxHeartbeats 4000000 in
theorem mend_ok {base P p B G n c : Nat} {th : Nat → Bool} {pr tk : Nat → Int} (u x : Nat) (hu : Hid (u ≤ n)) (hn : n ≤ 100) (hx : x < u) (hth : Hid (∀ i, i < u → th i = true)) (hno : Hid (∀ i, u ≤ i → i < n → th i = false)) (hpr : Hid (∀ i, i < u → -1 ≤ pr i ∧ pr i < (i : Int))) (w : World) (h : MtAt w base P p B G n c th (fun _ => 0) pr tk) :
    Calls Tryz.prog 24 #[.pointer (some ⟨P, 0, none⟩), .int .i64 x] w fun e w' => e = .returned .nilIface ∧ MtAt w' base P p B G n c (fun i => th i && !inC pr x u i) (fun i => if inC pr x u i then 1 else 0) pr tk ∧ PBelow w w' B G := by
  have H := Lib.hid h
  have f0 := h.f0
  have f1 := h.f1
  obtain ⟨i0, hi, hz0, hz1, hz2⟩ := info_parts infoIntM
  have HI := Lib.hid (⟨hi, hz0, hz1, hz2⟩ : Tryz.prog.info? 3 = some i0 ∧ i0.zero = some (.int .i64 0) ∧ i0.size = 1 ∧ i0.bytes = 8)
  have HTx := Lib.hid (hth.out x hx)
  have hxn : x < n := by have := hu.out; omega
  have hBl : Hid (B < w.heap.size) := Lib.hid h.ar.lt.2
  clear h hi hz0 hz1 hz2
  go_enter Tryz.func24, Tryz.ntmps24
  go_wp2_with (first
    | (go_at_call 63; (with_reducible refine (athere_in x hxn true HTx _ H.out.ar).mono ?_); rintro e w1 ⟨rfl, rfl⟩))
  go_loopw [5, 22] (fun v i wr => ∃ k : Nat, k ≤ n ∧ i = .int .i64 k ∧ wr.ownsRow w.heap.size 3 1 v (NL pr x u k).length ((iz (NL pr x u k)).map (Value.int .i64)) ∧ Below w.heap.size w wr) (fun _ i _ => n - (intOf i).toNat)
  case atStart => exact ⟨0, by omega, rfl, World.ownsRow_nil _ _ _ _, Below.refl _ _⟩
  case round =>
    obtain ⟨k, hk, rfl, hown, hbel⟩ := hrel
    have HW := Lib.hid hown
    have HL := Lib.hid hbel
    have HM := Lib.hid (H.out.below hbel)
    obtain ⟨nl, HNL⟩ : ∃ nl, Hid ((NL pr x u k).length = nl) := ⟨_, Lib.hid rfl⟩
    have hnl : nl ≤ k := by have := HNL.out; have := NL_len pr x u k; omega
    rw [HNL.out] at HW
    clear hown hbel f0 f1
    by_cases hlt : k < n
    · have k0 : (0 : Int) ≤ k := by omega
      have k1 : (k : Int) < n := by omega
      by_cases hku : k < u
      · have HTk : Hid (∀ i, i ≤ k → th i = true) := Lib.hid (fun i hi => hth.out i (by omega))
        have HPk : Hid (∀ i, i ≤ k → -1 ≤ pr i ∧ pr i < (i : Int)) := Lib.hid (fun i hi => hpr.out i (by omega))
        obtain ⟨d, HD⟩ : ∃ d, Hid ((chF pr (k + 1) k).length = d) := ⟨_, Lib.hid rfl⟩
        have hd : d ≤ k + 1 := by rw [← HD.out]; exact chF_len pr (k + 1) k
        by_cases hc : inC pr x u k = true
        · have HC := Lib.hid hc
          have HB : Hid (ConB (chF pr (k + 1) k) d x true) := Lib.hid (by
            unfold ConB
            rw [getD_mem _ _ HD.out]
            have h := HC.out
            unfold inC at h
            simp only [Bool.and_eq_true, decide_eq_true_eq] at h
            simp [h.2])
          clear hc
          go_wp2_with (first
            | (go_at_call 64; (with_reducible refine (chain_gsl k d HD hlt HTk HPk _ HM.out).mono ?_); rintro e w1 ⟨g, c', rfl, hr, hb⟩; have HL1 := Lib.hid (HL.out.trans (hb.mono HL.out.size)); have HW1 := Lib.hid (own_below HW.out hb); have HR1 := Lib.hid (rn_own hr HD.out); clear hr hb)
            | (go_at_call 71; (with_reducible refine (scon_b g d c' _ (x : Int) (by omega) true HB _ HR1.out).mono ?_); rintro e w2 ⟨rfl, rfl⟩)
            | (at_builtin; refine wpList_append_own _ rfl _ _ 57 rfl w.heap.size 3 i0 (.int .i64 0) 1 8 Tryz.underlying57 HI.out.1 HI.out.2.1 HI.out.2.2.1 HI.out.2.2.2 rfl (by decide) _ _ _ rfl (HW1.out.alloc _) ⟨w1.heap.size, 0, none⟩ 1 1 [.int .i64 k] rfl rfl (cell_one_new _ _ _) (ints_oneCell .i64 [(k : Int)]) (by unfold maxLen; omega) (by omega) (by have := HL1.out.size; simp; omega) ?_; intro v' w2 hown' hgrow' _; have HB2 : Hid (Below w.heap.size w w2) := Lib.hid ((HL1.out.alloc HL1.out.size _).grown hgrow' (by have := HL1.out.size; simp; omega) (fun g hg => (HW1.out.lt g hg).1)); have HO2 : Hid (w2.ownsRow w.heap.size 3 1 v' (NL pr x u (k + 1)).length ((iz (NL pr x u (k + 1))).map (Value.int .i64))) := Lib.hid (by rw [NL_yes HC.out]; unfold iz at hown' ⊢; rw [List.map_append, List.map_append, List.length_append, HNL.out]; exact hown'); clear hown' hgrow'))
          go_roundw
          case rel => exact ⟨k + 1, by omega, by go_num, HO2.out, HB2.out⟩
          case measure => simp [intOf]; omega
        · have HC := Lib.hid (Bool.eq_false_iff.2 hc)
          have HB : Hid (ConB (chF pr (k + 1) k) d x false) := Lib.hid (by
            unfold ConB
            rw [getD_mem _ _ HD.out]
            have h := HC.out
            unfold inC at h
            rw [decide_eq_true hku, Bool.true_and, decide_eq_false_iff_not] at h
            simp [h])
          clear hc
          go_wp2_with (first
            | (go_at_call 64; (with_reducible refine (chain_gsl k d HD hlt HTk HPk _ HM.out).mono ?_); rintro e w1 ⟨g, c', rfl, hr, hb⟩; have HL1 := Lib.hid (HL.out.trans (hb.mono HL.out.size)); have HW1 := Lib.hid (own_below HW.out hb); have HR1 := Lib.hid (rn_own hr HD.out); clear hr hb)
            | (go_at_call 71; (with_reducible refine (scon_b g d c' _ (x : Int) (by omega) false HB _ HR1.out).mono ?_); rintro e w2 ⟨rfl, rfl⟩))
          go_roundw
          case rel => exact ⟨k + 1, by omega, by go_num, by rw [NL_no HC.out, HNL.out]; exact HW1.out, HL1.out⟩
          case measure => simp [intOf]; omega
      · have HT := Lib.hid (hno.out k (by omega) hlt)
        have HC : Hid (inC pr x u k = false) := Lib.hid (inC_out (by omega))
        go_wp2_with (first
          | (go_at_call 64; (with_reducible refine (chain_absent k hlt HT _ HM.out).mono ?_); rintro e w1 ⟨rfl, rfl⟩)
          | (go_at_call 71; (with_reducible refine (scon_nil (x : Int) _).mono ?_); rintro e w2 ⟨rfl, rfl⟩))
        go_roundw
        case rel => exact ⟨k + 1, by omega, by go_num, by rw [NL_no HC.out, HNL.out]; exact HW.out, HL.out⟩
        case measure => simp [intOf]; omega
    · obtain rfl : k = n := by omega
      have hpos : 0 < nl := by
        rw [← HNL.out]
        refine List.length_pos_of_mem (NL_mem.2 ⟨hxn, ?_⟩ : x ∈ NL pr x u k)
        unfold inC chF
        rw [if_neg (by omega)]
        simp [hx]
      obtain ⟨g, c', rfl⟩ := own_sl HW.out hpos
      have hgB : g ≠ B := by have := (HW.out.lt g rfl).1; have := hBl.out; omega
      have HM0 : Hid (MtAt wr base P p B G k c (thA th (NL pr x u k) 0) (vrA (NL pr x u k) 0) pr tk) := Lib.hid (HM.out.congr (fun i _ => by simp [thA]) (fun i _ => by simp [vrA]) (fun _ _ => rfl) (fun _ _ => rfl))
      have HP0 : Hid (PBelow w wr B G) := Lib.hid (PBelow.of_below HL.out)
      clear hpos
      go_wp2_with fail
      go_loopw [37] (fun i wx => ∃ m : Nat, m ≤ nl ∧ i = .int .i64 m ∧ MtAt wx base P p B G k c (thA th (NL pr x u k) m) (vrA (NL pr x u k) m) pr tk ∧ wx.ownsRow w.heap.size 3 1 (.slice (some ⟨g, 0, none⟩) nl c') nl ((iz (NL pr x u k)).map (Value.int .i64)) ∧ PBelow w wx B G) (fun i _ => nl - (intOf i).toNat)
      case atStart => exact ⟨0, by omega, rfl, HM0.out, HW.out, HP0.out⟩
      case round =>
        obtain ⟨m, hm, rfl, hM, hR, hP⟩ := hrel
        have HMm := Lib.hid hM
        have HRm := Lib.hid hR
        have HPm := Lib.hid hP
        clear hM hR hP
        by_cases hml : m < nl
        · obtain ⟨q, HQ⟩ : ∃ q, Hid ((NL pr x u k)[m]? = some q) := by
            have hl : m < (NL pr x u k).length := by rw [HNL.out]; exact hml
            exact ⟨_, Lib.hid (List.getElem?_eq_getElem hl)⟩
          have cc : wr.cell? ⟨g, m, none⟩ = some (.int .i64 q) := by
            rw [HRm.out.cellAt m (by omega), List.getElem?_map]
            unfold iz
            rw [List.getElem?_map, HQ.out]
            rfl
          have hqm : q ∈ NL pr x u k := List.mem_of_getElem? HQ.out
          have hqk : q < k := (NL_mem.1 hqm).1
          have hqu : q < u := by
            have h := (NL_mem.1 hqm).2
            unfold inC at h
            simp only [Bool.and_eq_true, decide_eq_true_eq] at h
            exact h.1
          have hq1 := NL_not _ _ _ _ _ _ HQ.out
          have HTq : Hid (thA th (NL pr x u k) m q = true) := Lib.hid (by unfold thA; rw [hth.out q hqu]; simp [hq1])
          have HVq : Hid (vrA (NL pr x u k) m q = 0) := Lib.hid (by unfold vrA; rw [if_neg hq1])
          have m0 : (0 : Int) ≤ m := by omega
          have m1 : (m : Int) < nl := by omega
          have f0 := HMm.out.f0
          clear hqm hq1
          go_wp2_with (first
            | (go_at_call 72; (with_reducible refine (agive_at (q : Int) _ HMm.out.ar q (Lib.hid rfl) hqk HTq 0 1 HVq (by decide) (by decide) (Lib.hid (by decide))).mono ?_); rintro e w7 ⟨rfl, hA2, hg⟩; rw [thA_next HQ.out, vrA_next HQ.out] at hA2; have HM7 := Lib.hid (HMm.out.turn hA2 hg); have HR7 := Lib.hid (HRm.out.kept hg (.inr (fun e => hgB (by simpa [Value.ownBlock] using e)))); have HP7 := Lib.hid (HPm.out.trans (PBelow.of (G := G) hg (.inl rfl))); clear hA2 hg))
          go_roundw
          case rel => exact ⟨m + 1, by omega, by go_num, HM7.out, HR7.out, HP7.out⟩
          case measure => simp [intOf]; omega
        · obtain rfl : m = nl := by omega
          have HF : Hid (MtAt wr base P p B G k c (fun i => th i && !inC pr x u i) (fun i => if inC pr x u i then 1 else 0) pr tk) := Lib.hid (HMm.out.congr
            (fun i hi => by
              unfold thA
              rw [← HNL.out, List.take_length]
              have e : decide (i ∈ NL pr x u k) = inC pr x u i := by
                rw [Bool.eq_iff_iff, decide_eq_true_eq, NL_mem]
                simp [hi]
              rw [e])
            (fun i hi => by
              unfold vrA
              rw [← HNL.out, List.take_length]
              have e : (i ∈ NL pr x u k) ↔ inC pr x u i = true := by
                rw [NL_mem]
                simp [hi]
              simp [e])
            (fun _ _ => rfl) (fun _ _ => rfl))
          go_wp2_with fail
          go_ret
          exact ⟨rfl, HF.out, HPm.out⟩
end Go.Proofs.YtncopdhhchmpeaaGreatDoor
namespace Go.Proofs.YtncopdhhchmpeaaGreatDoor
open Go.ChangeShapes Go.WideShapes Go.ChangeAt Go.RowKit
set_option linter.unusedVariables false
set_option linter.unusedSimpArgs false
/-- SysGone's boxes, and the system's own cells. -/
structure GB (W : World) (L : BLoc) (X : SLoc) (sb kb : Nat) (kd : Int) : Prop where
  b : SyB W X.s L.mb L.dP X.tP L.P X.fP X.q 0
  s : W.cell? ⟨sb, 0, none⟩ = some (.pointer (some ⟨X.s, 0, none⟩))
  k : W.cell? ⟨kb, 0, none⟩ = some (.int .i64 kd)
section
variable {w w' : World} {L : BLoc} {X : SLoc} {sb kb : Nat} {kd : Int}
theorem GB.below (h : GB w L X sb kb kd) (hb : Below w.heap.size w w') : GB w' L X sb kb kd := ⟨h.b.below hb, (hb.cell (p := ⟨sb, 0, none⟩) (cell_lt h.s)).trans h.s, (hb.cell (p := ⟨kb, 0, none⟩) (cell_lt h.k)).trans h.k⟩
theorem GB.same (h : GB w L X sb kb kd) (hz : w.heap.size ≤ w'.heap.size) (h1 : w'.heap[X.s]? = w.heap[X.s]?) (h2 : w'.heap[sb]? = w.heap[sb]?) (h3 : w'.heap[kb]? = w.heap[kb]?) : GB w' L X sb kb kd := ⟨h.b.same hz h1, (World.cell?_of_block (a := ⟨sb, 0, none⟩) h2).trans h.s, (World.cell?_of_block (a := ⟨kb, 0, none⟩) h3).trans h.k⟩
end
theorem GB.low {N : Nat} {w w' : World} {L : BLoc} {X : SLoc} {sb kb : Nat} {kd : Int} (h : GB w L X sb kb kd) (hb : Below N w w') (h1 : X.s < N) (h2 : sb < N) (h3 : kb < N) : GB w' L X sb kb kd := h.same hb.size (hb.block _ h1) (hb.block _ h2) (hb.block _ h3)
set_option maxRecDepth 100000 in
set_option maxHeartbeats 2000000 in
theorem taken_node {S' : World → Prop} {L : BLoc} {X : SLoc} {sb kb : Nat} {kd : Int} (CR : Hid (∀ w, Calls Tryz.prog 14 #[.int .i64 kd, .int .i64 5] w fun e w' => e = .returned (.int .i64 0) ∧ w = w')) (i v k2 : Int) (w : World) (hg : GB w L X sb kb kd) (hT : L.T ≤ w.heap.size) (hst : ∀ W W', S' W → Below w.heap.size W W' → S' W') (hbuy : ∀ W, Below w.heap.size w W → Calls Tryz.prog 15 #[.pointer (some ⟨L.P, 0, none⟩), .int .i64 0, .slice none 0 0] W fun e w' => e = .returned (.tuple #[.int .i64 i, .int .i64 v, .nilIface]) ∧ S' w' ∧ GB w' L X sb kb kd ∧ UpT L.T W w') (hkey : ∀ W, S' W → GB W L X sb kb kd → Calls Tryz.prog 16 #[.pointer (some ⟨X.s, 0, none⟩), .int .i64 2, .int .i64 0] W fun e w' => e = .returned (Value.agg #[.int .i64 2, .int .i64 0, .int .i64 k2, .int .i64 0, .int .u32 0]) ∧ Below W.heap.size W w') : Calls Tryz.prog 13 #[.pointer (some ⟨kb, 0, none⟩), .pointer (some ⟨sb, 0, none⟩)] w fun e w' => e = .returned (Value.agg #[.int .i64 2, .int .i64 0, .int .i64 k2, .int .i64 0, .int .u32 0]) ∧ S' w' ∧ GB w' L X sb kb kd ∧ UpT L.T w w' := by
  have HB := Lib.hid hbuy; have HK := Lib.hid hkey; have HL := Lib.hid (⟨cell_lt hg.b.c0, cell_lt hg.s, cell_lt hg.k⟩ : X.s < w.heap.size ∧ sb < w.heap.size ∧ kb < w.heap.size); have HG := Lib.hid hg; clear hbuy hkey hg; go_enter Tryz.func13, Tryz.ntmps13; go_upto_region 1 with fail; generalize hA : World.alloc w _ = wA; obtain ⟨K, hK⟩ : ∃ K, K = w.heap.size := ⟨_, rfl⟩; have HBa : Hid (Below w.heap.size w wA) := (Lib.hid (by rw [← hA]; exact (Below.refl _ _).alloc (Nat.le_refl _) _)); have HK0 : Hid (KeyC wA K 0 0 0 0 0) := (Lib.hid (by rw [← hA, hK]; exact KeyC.new w 0 0 0 0 0 _)); have HKl : Hid (w.heap.size ≤ K ∧ L.T ≤ K) := (Lib.hid (by rw [hK]; exact ⟨Nat.le_refl _, hT⟩)); rw [← hK]; clear hA hK; have HGa := HG.out.below HBa.out; have c1 := HGa.s; have c2 := HGa.k; have c3 := HGa.b.c3; have c4 := HGa.b.c2; clear HGa; go_wp2_with (first | (go_at_call 14; (with_reducible refine (CR.out _).mono ?_); rintro e w1 ⟨rfl, rfl⟩) | (go_at_call 15; (with_reducible refine (HB.out _ HBa.out).mono ?_); rintro e w2 ⟨rfl, hs, hg, hu⟩; have HS2 := Lib.hid hs; have HG2 := Lib.hid hg; have HU2 : Hid (UpT L.T w w2) := (Lib.hid ((UpT.below HBa.out).trans hu)); have HK2 := Lib.hid (HK0.out.upt hu HKl.out.2); clear c1 c2 c3 c4; have c1 := hg.s; clear hs hg hu) | (go_at_call 16; (with_reducible refine (HK.out _ HS2.out HG2.out).mono ?_); rintro e w3 ⟨rfl, hb⟩; have HB3 : Hid (Below w2.heap.size w2 w3) := (Lib.hid hb); have HK3 := Lib.hid (HK2.out.below hb); clear hb; have z0 := HK3.out.c0; have z1 := HK3.out.c1; have z2 := HK3.out.c2; have z3 := HK3.out.c3; have z4 := HK3.out.c4; have zf0 := HK3.out.fr 0; have zf1 := HK3.out.fr 1; have zf2 := HK3.out.fr 2; have zf3 := HK3.out.fr 3; have zf4 := HK3.out.fr 4)); have t := HK3.out.set 2 0 k2 0 0; have t0 := t.c0; have t1 := t.c1; have t2 := t.c2; have t3 := t.c3; have t4 := t.c4; refine bodyPost_ret (v := (Value.agg #[.int .i64 2, .int .i64 0, .int .i64 k2, .int .i64 0, .int .u32 0])) (by simp [results, Tryz.results13, go_sem, t0, t1, t2, t3, t4]) rfl ⟨rfl, ?_⟩; have hz : w.heap.size ≤ w2.heap.size := HU2.out.1; have hbs : Below w.heap.size w3 (((((w3.setCell ⟨K, 0, none⟩ (.int .i64 2)).setCell ⟨K, 1, none⟩ (.int .i64 0)).setCell ⟨K, 2, none⟩ (.int .i64 k2)).setCell ⟨K, 3, none⟩ (.int .i64 0)).setCell ⟨K, 4, none⟩ (.int .u32 0)) := ((((((Below.refl w.heap.size w3).setCell HKl.out.1 _).setCell HKl.out.1 _).setCell HKl.out.1 _).setCell HKl.out.1 _).setCell HKl.out.1 _); exact ⟨hst _ _ (hst _ _ HS2.out (HB3.out.mono hz)) hbs, (HG2.out.below HB3.out).low hbs HL.out.1 HL.out.2.1 HL.out.2.2, (HU2.out.trans (UpT.below HB3.out)).low hbs (Nat.le_refl _)⟩
set_option maxRecDepth 100000 in
set_option maxHeartbeats 2000000 in
theorem taken_page {S' : World → Prop} {L : BLoc} {X : SLoc} {sb kb : Nat} {kd : Int} (CR : Hid (∀ w, Calls Tryz.prog 14 #[.int .i64 kd, .int .i64 5] w fun e w' => e = .returned (.int .i64 1) ∧ w = w')) (i v k2 : Int) (w : World) (hg : GB w L X sb kb kd) (hT : L.T ≤ w.heap.size) (hst : ∀ W W', S' W → Below w.heap.size W W' → S' W') (hbuy : ∀ W, Below w.heap.size w W → Calls Tryz.prog 17 #[.pointer (some ⟨L.P, 0, none⟩), .int .i64 0, .slice none 0 0] W fun e w' => e = .returned (.tuple #[.int .i64 i, .int .i64 v, .nilIface]) ∧ S' w' ∧ GB w' L X sb kb kd ∧ UpT L.T W w') (hkey : ∀ W, S' W → GB W L X sb kb kd → Calls Tryz.prog 16 #[.pointer (some ⟨X.s, 0, none⟩), .int .i64 3, .int .i64 0] W fun e w' => e = .returned (Value.agg #[.int .i64 3, .int .i64 0, .int .i64 k2, .int .i64 0, .int .u32 0]) ∧ Below W.heap.size W w') : Calls Tryz.prog 13 #[.pointer (some ⟨kb, 0, none⟩), .pointer (some ⟨sb, 0, none⟩)] w fun e w' => e = .returned (Value.agg #[.int .i64 3, .int .i64 0, .int .i64 k2, .int .i64 0, .int .u32 0]) ∧ S' w' ∧ GB w' L X sb kb kd ∧ UpT L.T w w' := by
  have HB := Lib.hid hbuy; have HK := Lib.hid hkey; have HL := Lib.hid (⟨cell_lt hg.b.c0, cell_lt hg.s, cell_lt hg.k⟩ : X.s < w.heap.size ∧ sb < w.heap.size ∧ kb < w.heap.size); have HG := Lib.hid hg; clear hbuy hkey hg; go_enter Tryz.func13, Tryz.ntmps13; go_upto_region 1 with fail; generalize hA : World.alloc w _ = wA; obtain ⟨K, hK⟩ : ∃ K, K = w.heap.size := ⟨_, rfl⟩; have HBa : Hid (Below w.heap.size w wA) := (Lib.hid (by rw [← hA]; exact (Below.refl _ _).alloc (Nat.le_refl _) _)); have HK0 : Hid (KeyC wA K 0 0 0 0 0) := (Lib.hid (by rw [← hA, hK]; exact KeyC.new w 0 0 0 0 0 _)); have HKl : Hid (w.heap.size ≤ K ∧ L.T ≤ K) := (Lib.hid (by rw [hK]; exact ⟨Nat.le_refl _, hT⟩)); rw [← hK]; clear hA hK; have HGa := HG.out.below HBa.out; have c1 := HGa.s; have c2 := HGa.k; have c3 := HGa.b.c3; have c4 := HGa.b.c2; clear HGa; go_wp2_with (first | (go_at_call 14; (with_reducible refine (CR.out _).mono ?_); rintro e w1 ⟨rfl, rfl⟩) | (go_at_call 17; (with_reducible refine (HB.out _ HBa.out).mono ?_); rintro e w2 ⟨rfl, hs, hg, hu⟩; have HS2 := Lib.hid hs; have HG2 := Lib.hid hg; have HU2 : Hid (UpT L.T w w2) := (Lib.hid ((UpT.below HBa.out).trans hu)); have HK2 := Lib.hid (HK0.out.upt hu HKl.out.2); clear c1 c2 c3 c4; have c1 := hg.s; clear hs hg hu) | (go_at_call 16; (with_reducible refine (HK.out _ HS2.out HG2.out).mono ?_); rintro e w3 ⟨rfl, hb⟩; have HB3 : Hid (Below w2.heap.size w2 w3) := (Lib.hid hb); have HK3 := Lib.hid (HK2.out.below hb); clear hb; have z0 := HK3.out.c0; have z1 := HK3.out.c1; have z2 := HK3.out.c2; have z3 := HK3.out.c3; have z4 := HK3.out.c4; have zf0 := HK3.out.fr 0; have zf1 := HK3.out.fr 1; have zf2 := HK3.out.fr 2; have zf3 := HK3.out.fr 3; have zf4 := HK3.out.fr 4)); have t := HK3.out.set 3 0 k2 0 0; have t0 := t.c0; have t1 := t.c1; have t2 := t.c2; have t3 := t.c3; have t4 := t.c4; refine bodyPost_ret (v := (Value.agg #[.int .i64 3, .int .i64 0, .int .i64 k2, .int .i64 0, .int .u32 0])) (by simp [results, Tryz.results13, go_sem, t0, t1, t2, t3, t4]) rfl ⟨rfl, ?_⟩; have hz : w.heap.size ≤ w2.heap.size := HU2.out.1; have hbs : Below w.heap.size w3 (((((w3.setCell ⟨K, 0, none⟩ (.int .i64 3)).setCell ⟨K, 1, none⟩ (.int .i64 0)).setCell ⟨K, 2, none⟩ (.int .i64 k2)).setCell ⟨K, 3, none⟩ (.int .i64 0)).setCell ⟨K, 4, none⟩ (.int .u32 0)) := ((((((Below.refl w.heap.size w3).setCell HKl.out.1 _).setCell HKl.out.1 _).setCell HKl.out.1 _).setCell HKl.out.1 _).setCell HKl.out.1 _); exact ⟨hst _ _ (hst _ _ HS2.out (HB3.out.mono hz)) hbs, (HG2.out.below HB3.out).low hbs HL.out.1 HL.out.2.1 HL.out.2.2, (HU2.out.trans (UpT.below HB3.out)).low hbs (Nat.le_refl _)⟩
set_option maxRecDepth 100000 in
set_option maxHeartbeats 2000000 in
theorem taken_dom {S' : World → Prop} {L : BLoc} {X : SLoc} {sb kb : Nat} {kd : Int} (CR : Hid (∀ w, Calls Tryz.prog 14 #[.int .i64 kd, .int .i64 5] w fun e w' => e = .returned (.int .i64 2) ∧ w = w')) (i v k2 : Int) (w : World) (hg : GB w L X sb kb kd) (hT : L.T ≤ w.heap.size) (hst : ∀ W W', S' W → Below w.heap.size W W' → S' W') (hbuy : ∀ W, Below w.heap.size w W → Calls Tryz.prog 18 #[.pointer (some ⟨L.P, 0, none⟩), .int .i64 0] W fun e w' => e = .returned (.tuple #[.int .i64 i, .int .i64 v, .nilIface]) ∧ S' w' ∧ GB w' L X sb kb kd ∧ UpT L.T W w') (hkey : ∀ W, S' W → GB W L X sb kb kd → Calls Tryz.prog 16 #[.pointer (some ⟨X.s, 0, none⟩), .int .i64 4, .int .i64 0] W fun e w' => e = .returned (Value.agg #[.int .i64 4, .int .i64 0, .int .i64 k2, .int .i64 0, .int .u32 0]) ∧ Below W.heap.size W w') : Calls Tryz.prog 13 #[.pointer (some ⟨kb, 0, none⟩), .pointer (some ⟨sb, 0, none⟩)] w fun e w' => e = .returned (Value.agg #[.int .i64 4, .int .i64 0, .int .i64 k2, .int .i64 0, .int .u32 0]) ∧ S' w' ∧ GB w' L X sb kb kd ∧ UpT L.T w w' := by
  have HB := Lib.hid hbuy; have HK := Lib.hid hkey; have HL := Lib.hid (⟨cell_lt hg.b.c0, cell_lt hg.s, cell_lt hg.k⟩ : X.s < w.heap.size ∧ sb < w.heap.size ∧ kb < w.heap.size); have HG := Lib.hid hg; clear hbuy hkey hg; go_enter Tryz.func13, Tryz.ntmps13; go_upto_region 1 with fail; generalize hA : World.alloc w _ = wA; obtain ⟨K, hK⟩ : ∃ K, K = w.heap.size := ⟨_, rfl⟩; have HBa : Hid (Below w.heap.size w wA) := (Lib.hid (by rw [← hA]; exact (Below.refl _ _).alloc (Nat.le_refl _) _)); have HK0 : Hid (KeyC wA K 0 0 0 0 0) := (Lib.hid (by rw [← hA, hK]; exact KeyC.new w 0 0 0 0 0 _)); have HKl : Hid (w.heap.size ≤ K ∧ L.T ≤ K) := (Lib.hid (by rw [hK]; exact ⟨Nat.le_refl _, hT⟩)); rw [← hK]; clear hA hK; have HGa := HG.out.below HBa.out; have c1 := HGa.s; have c2 := HGa.k; have c3 := HGa.b.c3; have c4 := HGa.b.c2; clear HGa; go_wp2_with (first | (go_at_call 14; (with_reducible refine (CR.out _).mono ?_); rintro e w1 ⟨rfl, rfl⟩) | (go_at_call 18; (with_reducible refine (HB.out _ HBa.out).mono ?_); rintro e w2 ⟨rfl, hs, hg, hu⟩; have HS2 := Lib.hid hs; have HG2 := Lib.hid hg; have HU2 : Hid (UpT L.T w w2) := (Lib.hid ((UpT.below HBa.out).trans hu)); have HK2 := Lib.hid (HK0.out.upt hu HKl.out.2); clear c1 c2 c3 c4; have c1 := hg.s; clear hs hg hu) | (go_at_call 16; (with_reducible refine (HK.out _ HS2.out HG2.out).mono ?_); rintro e w3 ⟨rfl, hb⟩; have HB3 : Hid (Below w2.heap.size w2 w3) := (Lib.hid hb); have HK3 := Lib.hid (HK2.out.below hb); clear hb; have z0 := HK3.out.c0; have z1 := HK3.out.c1; have z2 := HK3.out.c2; have z3 := HK3.out.c3; have z4 := HK3.out.c4; have zf0 := HK3.out.fr 0; have zf1 := HK3.out.fr 1; have zf2 := HK3.out.fr 2; have zf3 := HK3.out.fr 3; have zf4 := HK3.out.fr 4)); have t := HK3.out.set 4 0 k2 0 0; have t0 := t.c0; have t1 := t.c1; have t2 := t.c2; have t3 := t.c3; have t4 := t.c4; refine bodyPost_ret (v := (Value.agg #[.int .i64 4, .int .i64 0, .int .i64 k2, .int .i64 0, .int .u32 0])) (by simp [results, Tryz.results13, go_sem, t0, t1, t2, t3, t4]) rfl ⟨rfl, ?_⟩; have hz : w.heap.size ≤ w2.heap.size := HU2.out.1; have hbs : Below w.heap.size w3 (((((w3.setCell ⟨K, 0, none⟩ (.int .i64 4)).setCell ⟨K, 1, none⟩ (.int .i64 0)).setCell ⟨K, 2, none⟩ (.int .i64 k2)).setCell ⟨K, 3, none⟩ (.int .i64 0)).setCell ⟨K, 4, none⟩ (.int .u32 0)) := ((((((Below.refl w.heap.size w3).setCell HKl.out.1 _).setCell HKl.out.1 _).setCell HKl.out.1 _).setCell HKl.out.1 _).setCell HKl.out.1 _); exact ⟨hst _ _ (hst _ _ HS2.out (HB3.out.mono hz)) hbs, (HG2.out.below HB3.out).low hbs HL.out.1 HL.out.2.1 HL.out.2.2, (HU2.out.trans (UpT.below HB3.out)).low hbs (Nat.le_refl _)⟩
set_option maxRecDepth 100000 in
set_option maxHeartbeats 2000000 in
theorem taken_meter {S' : World → Prop} {L : BLoc} {X : SLoc} {sb kb : Nat} {kd : Int} (CR : Hid (∀ w, Calls Tryz.prog 14 #[.int .i64 kd, .int .i64 5] w fun e w' => e = .returned (.int .i64 3) ∧ w = w')) (i v k2 : Int) (w : World) (hg : GB w L X sb kb kd) (hT : L.T ≤ w.heap.size) (hst : ∀ W W', S' W → Below w.heap.size W W' → S' W') (hbuy : ∀ W, Below w.heap.size w W → Calls Tryz.prog 19 #[.pointer (some ⟨X.tP, 0, none⟩), .int .i64 (-1), .int .i64 5] W fun e w' => e = .returned (.tuple #[.int .i64 i, .int .i64 v, .nilIface]) ∧ S' w' ∧ GB w' L X sb kb kd ∧ UpT L.T W w') (hkey : ∀ W, S' W → GB W L X sb kb kd → Calls Tryz.prog 16 #[.pointer (some ⟨X.s, 0, none⟩), .int .i64 7, .int .i64 0] W fun e w' => e = .returned (Value.agg #[.int .i64 7, .int .i64 0, .int .i64 k2, .int .i64 0, .int .u32 0]) ∧ Below W.heap.size W w') : Calls Tryz.prog 13 #[.pointer (some ⟨kb, 0, none⟩), .pointer (some ⟨sb, 0, none⟩)] w fun e w' => e = .returned (Value.agg #[.int .i64 7, .int .i64 0, .int .i64 k2, .int .i64 0, .int .u32 0]) ∧ S' w' ∧ GB w' L X sb kb kd ∧ UpT L.T w w' := by
  have HB := Lib.hid hbuy; have HK := Lib.hid hkey; have HL := Lib.hid (⟨cell_lt hg.b.c0, cell_lt hg.s, cell_lt hg.k⟩ : X.s < w.heap.size ∧ sb < w.heap.size ∧ kb < w.heap.size); have HG := Lib.hid hg; clear hbuy hkey hg; go_enter Tryz.func13, Tryz.ntmps13; go_upto_region 1 with fail; generalize hA : World.alloc w _ = wA; obtain ⟨K, hK⟩ : ∃ K, K = w.heap.size := ⟨_, rfl⟩; have HBa : Hid (Below w.heap.size w wA) := (Lib.hid (by rw [← hA]; exact (Below.refl _ _).alloc (Nat.le_refl _) _)); have HK0 : Hid (KeyC wA K 0 0 0 0 0) := (Lib.hid (by rw [← hA, hK]; exact KeyC.new w 0 0 0 0 0 _)); have HKl : Hid (w.heap.size ≤ K ∧ L.T ≤ K) := (Lib.hid (by rw [hK]; exact ⟨Nat.le_refl _, hT⟩)); rw [← hK]; clear hA hK; have HGa := HG.out.below HBa.out; have c1 := HGa.s; have c2 := HGa.k; have c3 := HGa.b.c3; have c4 := HGa.b.c2; clear HGa; go_wp2_with (first | (go_at_call 14; (with_reducible refine (CR.out _).mono ?_); rintro e w1 ⟨rfl, rfl⟩) | (go_at_call 19; (with_reducible refine (HB.out _ HBa.out).mono ?_); rintro e w2 ⟨rfl, hs, hg, hu⟩; have HS2 := Lib.hid hs; have HG2 := Lib.hid hg; have HU2 : Hid (UpT L.T w w2) := (Lib.hid ((UpT.below HBa.out).trans hu)); have HK2 := Lib.hid (HK0.out.upt hu HKl.out.2); clear c1 c2 c3 c4; have c1 := hg.s; clear hs hg hu) | (go_at_call 16; (with_reducible refine (HK.out _ HS2.out HG2.out).mono ?_); rintro e w3 ⟨rfl, hb⟩; have HB3 : Hid (Below w2.heap.size w2 w3) := (Lib.hid hb); have HK3 := Lib.hid (HK2.out.below hb); clear hb; have z0 := HK3.out.c0; have z1 := HK3.out.c1; have z2 := HK3.out.c2; have z3 := HK3.out.c3; have z4 := HK3.out.c4; have zf0 := HK3.out.fr 0; have zf1 := HK3.out.fr 1; have zf2 := HK3.out.fr 2; have zf3 := HK3.out.fr 3; have zf4 := HK3.out.fr 4)); have t := HK3.out.set 7 0 k2 0 0; have t0 := t.c0; have t1 := t.c1; have t2 := t.c2; have t3 := t.c3; have t4 := t.c4; refine bodyPost_ret (v := (Value.agg #[.int .i64 7, .int .i64 0, .int .i64 k2, .int .i64 0, .int .u32 0])) (by simp [results, Tryz.results13, go_sem, t0, t1, t2, t3, t4]) rfl ⟨rfl, ?_⟩; have hz : w.heap.size ≤ w2.heap.size := HU2.out.1; have hbs : Below w.heap.size w3 (((((w3.setCell ⟨K, 0, none⟩ (.int .i64 7)).setCell ⟨K, 1, none⟩ (.int .i64 0)).setCell ⟨K, 2, none⟩ (.int .i64 k2)).setCell ⟨K, 3, none⟩ (.int .i64 0)).setCell ⟨K, 4, none⟩ (.int .u32 0)) := ((((((Below.refl w.heap.size w3).setCell HKl.out.1 _).setCell HKl.out.1 _).setCell HKl.out.1 _).setCell HKl.out.1 _).setCell HKl.out.1 _); exact ⟨hst _ _ (hst _ _ HS2.out (HB3.out.mono hz)) hbs, (HG2.out.below HB3.out).low hbs HL.out.1 HL.out.2.1 HL.out.2.2, (HU2.out.trans (UpT.below HB3.out)).low hbs (Nat.le_refl _)⟩
set_option maxRecDepth 100000 in
set_option maxHeartbeats 2000000 in
theorem taken_bank {S' : World → Prop} {L : BLoc} {X : SLoc} {sb kb : Nat} {kd : Int} (CR : Hid (∀ w, Calls Tryz.prog 14 #[.int .i64 kd, .int .i64 5] w fun e w' => e = .returned (.int .i64 4) ∧ w = w')) (i v k2 : Int) (w : World) (hg : GB w L X sb kb kd) (hT : L.T ≤ w.heap.size) (hst : ∀ W W', S' W → Below w.heap.size W W' → S' W') (hbuy : ∀ W, Below w.heap.size w W → Calls Tryz.prog 20 #[.pointer (some ⟨L.P, 0, none⟩), .int .i64 0, .int .i64 5] W fun e w' => e = .returned (.tuple #[.int .i64 i, .int .i64 v, .nilIface]) ∧ S' w' ∧ GB w' L X sb kb kd ∧ UpT L.T W w') (hkey : ∀ W, S' W → GB W L X sb kb kd → Calls Tryz.prog 16 #[.pointer (some ⟨X.s, 0, none⟩), .int .i64 8, .int .i64 1] W fun e w' => e = .returned (Value.agg #[.int .i64 8, .int .i64 1, .int .i64 k2, .int .i64 0, .int .u32 0]) ∧ Below W.heap.size W w') : Calls Tryz.prog 13 #[.pointer (some ⟨kb, 0, none⟩), .pointer (some ⟨sb, 0, none⟩)] w fun e w' => e = .returned (Value.agg #[.int .i64 8, .int .i64 1, .int .i64 k2, .int .i64 0, .int .u32 0]) ∧ S' w' ∧ GB w' L X sb kb kd ∧ UpT L.T w w' := by
  have HB := Lib.hid hbuy; have HK := Lib.hid hkey; have HL := Lib.hid (⟨cell_lt hg.b.c0, cell_lt hg.s, cell_lt hg.k⟩ : X.s < w.heap.size ∧ sb < w.heap.size ∧ kb < w.heap.size); have HG := Lib.hid hg; clear hbuy hkey hg; go_enter Tryz.func13, Tryz.ntmps13; go_upto_region 1 with fail; generalize hA : World.alloc w _ = wA; obtain ⟨K, hK⟩ : ∃ K, K = w.heap.size := ⟨_, rfl⟩; have HBa : Hid (Below w.heap.size w wA) := (Lib.hid (by rw [← hA]; exact (Below.refl _ _).alloc (Nat.le_refl _) _)); have HK0 : Hid (KeyC wA K 0 0 0 0 0) := (Lib.hid (by rw [← hA, hK]; exact KeyC.new w 0 0 0 0 0 _)); have HKl : Hid (w.heap.size ≤ K ∧ L.T ≤ K) := (Lib.hid (by rw [hK]; exact ⟨Nat.le_refl _, hT⟩)); rw [← hK]; clear hA hK; have HGa := HG.out.below HBa.out; have c1 := HGa.s; have c2 := HGa.k; have c3 := HGa.b.c3; have c4 := HGa.b.c2; clear HGa; go_wp2_with (first | (go_at_call 14; (with_reducible refine (CR.out _).mono ?_); rintro e w1 ⟨rfl, rfl⟩) | (go_at_call 20; (with_reducible refine (HB.out _ HBa.out).mono ?_); rintro e w2 ⟨rfl, hs, hg, hu⟩; have HS2 := Lib.hid hs; have HG2 := Lib.hid hg; have HU2 : Hid (UpT L.T w w2) := (Lib.hid ((UpT.below HBa.out).trans hu)); have HK2 := Lib.hid (HK0.out.upt hu HKl.out.2); clear c1 c2 c3 c4; have c1 := hg.s; clear hs hg hu) | (go_at_call 16; (with_reducible refine (HK.out _ HS2.out HG2.out).mono ?_); rintro e w3 ⟨rfl, hb⟩; have HB3 : Hid (Below w2.heap.size w2 w3) := (Lib.hid hb); have HK3 := Lib.hid (HK2.out.below hb); clear hb; have z0 := HK3.out.c0; have z1 := HK3.out.c1; have z2 := HK3.out.c2; have z3 := HK3.out.c3; have z4 := HK3.out.c4; have zf0 := HK3.out.fr 0; have zf1 := HK3.out.fr 1; have zf2 := HK3.out.fr 2; have zf3 := HK3.out.fr 3; have zf4 := HK3.out.fr 4)); have t := HK3.out.set 8 1 k2 0 0; have t0 := t.c0; have t1 := t.c1; have t2 := t.c2; have t3 := t.c3; have t4 := t.c4; refine bodyPost_ret (v := (Value.agg #[.int .i64 8, .int .i64 1, .int .i64 k2, .int .i64 0, .int .u32 0])) (by simp [results, Tryz.results13, go_sem, t0, t1, t2, t3, t4]) rfl ⟨rfl, ?_⟩; have hz : w.heap.size ≤ w2.heap.size := HU2.out.1; have hbs : Below w.heap.size w3 (((((w3.setCell ⟨K, 0, none⟩ (.int .i64 8)).setCell ⟨K, 1, none⟩ (.int .i64 1)).setCell ⟨K, 2, none⟩ (.int .i64 k2)).setCell ⟨K, 3, none⟩ (.int .i64 0)).setCell ⟨K, 4, none⟩ (.int .u32 0)) := ((((((Below.refl w.heap.size w3).setCell HKl.out.1 _).setCell HKl.out.1 _).setCell HKl.out.1 _).setCell HKl.out.1 _).setCell HKl.out.1 _); exact ⟨hst _ _ (hst _ _ HS2.out (HB3.out.mono hz)) hbs, (HG2.out.below HB3.out).low hbs HL.out.1 HL.out.2.1 HL.out.2.2, (HU2.out.trans (UpT.below HB3.out)).low hbs (Nat.le_refl _)⟩
end Go.Proofs.YtncopdhhchmpeaaGreatDoor
namespace Go.Proofs.YtncopdhhchmpeaaGreatDoor
open Go.ChangeShapes Go.WideShapes Go.ChangeAt Go.RowKit
set_option linter.unusedVariables false
set_option linter.unusedSimpArgs false
/-- Where the boxes lie. -/
structure GL (w0 : World) (L : BLoc) (X : SLoc) (sb kb : Nat) : Prop where
  s : L.T ≤ X.s
  sb : L.T ≤ sb
  kb : kb < w0.heap.size
  t : w0.heap.size ≤ X.tB ∧ X.tR < L.bB ∧ X.tG < L.bB ∧ L.bB ≤ L.T
section
variable {w0 w w' : World} {L : BLoc} {X : SLoc} {sb kb : Nat} {kd : Int} {D : BSt}
theorem GB.step (h : GB w L X sb kb kd) (hl : GL w0 L X sb kb) (hu : UpT L.T w w') (h1 : Below w0.heap.size w0 w) (h2 : Below w0.heap.size w0 w') : GB w' L X sb kb kd :=
  h.same hu.1 (hu.2 X.s hl.s h.b.lt) (hu.2 sb hl.sb (cell_lt h.s)) ((h2.block kb hl.kb).trans (h1.block kb hl.kb).symm)
theorem BW.high (h : BW w0 w L D) (hb : Below L.T w w') : BW w0 w' L D := by
  have h1 := h.md
  have h2 := h.dl
  have h3 := h.tt
  have h4 := h.db
  exact h.keep (hb.mono (by omega)) (hb.block _ (by omega)) (hb.block _ (by omega)) (hb.block _ (by omega)) (hb.block _ (by omega)) (hb.block _ (by omega)) (fun k _ hk => hb.block k hk)
/-- Bank 0 alone, that has room. -/
structure RD (z : Int) (D : BSt) : Prop where
  nb : D.nb = 1
  pr : D.pr 0 = -1
  lm : D.lm 0 = 10
  us : ∀ i, -z ≤ D.us i ∧ D.us i ≤ z
theorem RD.chain {z : Int} (h : RD z D) (hk : PrOk D.nb D.pr) : chL D.pr ((0 : Nat) : Int) = [((0 : Nat) : Int)] := chL_root hk (by rw [h.nb]; decide) 0 (by rw [h.nb]; decide) h.pr
theorem RD.room {z : Int} (h : RD z D) (hk : PrOk D.nb D.pr) (hz : z ≤ 5) : (chL D.pr ((0 : Nat) : Int)).any (fullB D.us D.lm) = false := by
  rw [h.chain hk]
  have h1 := h.us 0
  have h2 := h.lm
  have h3 : ((0 : Nat) : Int).toNat = 0 := rfl
  simp only [List.any_cons, List.any_nil, Bool.or_false, fullB, h3, h2]
  exact decide_eq_false (by omega)
theorem RD.wide {z : Int} (h : RD z D) (hz : z ≤ 5) : ∀ i, i < L.n → -1000000 ≤ D.us i ∧ D.us i ≤ 1000000 := fun i _ => by have := h.us i; omega
theorem addL_in {us : Nat → Int} {z x : Int} (h : ∀ i, -z ≤ us i ∧ us i ≤ z) (l : List Int) (hx : x = 1 ∨ x = -1) : ∀ i, -(z + 1) ≤ addL us l x i ∧ addL us l x i ≤ z + 1 := fun i => by
  have := h i
  unfold addL
  split <;> omega
/-- A node, a page, a domain at place 0. -/
def GnS (z : Int) (t : Bool) (v : Int) (w0 : World) (L : BLoc) (W : World) : Prop := ∃ D, BW w0 W L D ∧ RD z D ∧ D.nt 0 = t ∧ D.nv 0 = v ∧ (t = true → D.o1 0 = 0 ∧ D.v1 0 = v)
def GpS (z : Int) (t : Bool) (v : Int) (w0 : World) (L : BLoc) (W : World) : Prop := ∃ D, BW w0 W L D ∧ RD z D ∧ D.pt 0 = t ∧ D.pv 0 = v ∧ (t = true → D.o2 0 = 0 ∧ D.v2 0 = v)
def GdS (z : Int) (t : Bool) (v : Int) (w0 : World) (L : BLoc) (W : World) : Prop := ∃ D, BW w0 W L D ∧ RD z D ∧ D.dt 0 = t ∧ D.dv 0 = v ∧ (t = true → D.o3 0 = 0 ∧ D.v3 0 = v)
theorem GnS.below {z : Int} {t : Bool} {v : Int} (h : GnS z t v w0 L w) (hb : Below w.heap.size w w') : GnS z t v w0 L w' := by obtain ⟨D, h1, h2⟩ := h; exact ⟨D, h1.below hb, h2⟩
theorem GpS.below {z : Int} {t : Bool} {v : Int} (h : GpS z t v w0 L w) (hb : Below w.heap.size w w') : GpS z t v w0 L w' := by obtain ⟨D, h1, h2⟩ := h; exact ⟨D, h1.below hb, h2⟩
theorem GdS.below {z : Int} {t : Bool} {v : Int} (h : GdS z t v w0 L w) (hb : Below w.heap.size w w') : GdS z t v w0 L w' := by obtain ⟨D, h1, h2⟩ := h; exact ⟨D, h1.below hb, h2⟩
theorem GnS.high {z : Int} {t : Bool} {v : Int} (h : GnS z t v w0 L w) (hb : Below L.T w w') : GnS z t v w0 L w' := by obtain ⟨D, h1, h2⟩ := h; exact ⟨D, h1.high hb, h2⟩
theorem GnS.tw {z : Int} {t : Bool} {v : Int} (h : GnS z t v w0 L w) : L.T ≤ w.heap.size := by obtain ⟨D, h1, h2⟩ := h; exact h1.tw
theorem GnS.bel {z : Int} {t : Bool} {v : Int} (h : GnS z t v w0 L w) : Below w0.heap.size w0 w := by obtain ⟨D, h1, h2⟩ := h; exact h1.bel
theorem GpS.high {z : Int} {t : Bool} {v : Int} (h : GpS z t v w0 L w) (hb : Below L.T w w') : GpS z t v w0 L w' := by obtain ⟨D, h1, h2⟩ := h; exact ⟨D, h1.high hb, h2⟩
theorem GpS.tw {z : Int} {t : Bool} {v : Int} (h : GpS z t v w0 L w) : L.T ≤ w.heap.size := by obtain ⟨D, h1, h2⟩ := h; exact h1.tw
theorem GpS.bel {z : Int} {t : Bool} {v : Int} (h : GpS z t v w0 L w) : Below w0.heap.size w0 w := by obtain ⟨D, h1, h2⟩ := h; exact h1.bel
theorem GdS.high {z : Int} {t : Bool} {v : Int} (h : GdS z t v w0 L w) (hb : Below L.T w w') : GdS z t v w0 L w' := by obtain ⟨D, h1, h2⟩ := h; exact ⟨D, h1.high hb, h2⟩
theorem GdS.tw {z : Int} {t : Bool} {v : Int} (h : GdS z t v w0 L w) : L.T ≤ w.heap.size := by obtain ⟨D, h1, h2⟩ := h; exact h1.tw
theorem GdS.bel {z : Int} {t : Bool} {v : Int} (h : GdS z t v w0 L w) : Below w0.heap.size w0 w := by obtain ⟨D, h1, h2⟩ := h; exact h1.bel
theorem free0 {T : Nat → Bool} {V : Nat → Int} {v : Int} (h : T 0 = false) (h2 : V 0 = v) (hv : v ≤ 5) : freeB T V 0 = true := by
  unfold freeB
  rw [h, h2, decide_eq_true (by omega)]
  rfl
theorem upd0 {α : Type} (f : Nat → α) (x : α) : upd f 0 x 0 = x := if_pos rfl
theorem GnS.take {z v : Int} (hz : z ≤ 4) (hv : v ≤ 5) (hn : 0 < L.a.n) (vs vr : Value) (w : World) (hE : ErrsAt vs vr w) (h : GnS z false v w0 L w) :
    Calls Tryz.prog 15 #[.pointer (some ⟨L.P, 0, none⟩), .int .i64 0, .slice none 0 0] w fun e w' => e = .returned (.tuple #[.int .i64 0, .int .i64 v, .nilIface]) ∧ GnS (z + 1) true v w0 L w' ∧ UpT L.T w w' := by
  obtain ⟨D, h1, h2, h3, h4, -⟩ := h
  refine (bnode_w (D := D) 0 (by rw [h2.nb]; decide) vs vr none 0 0 (fun _ _ => 0) (Lib.hid (fun i hi => by omega)) (by decide) 0 hn (Lib.hid (free0 h3 h4 hv)) (Lib.hid (fun i hi => by omega)) v (Lib.hid h4) (Lib.hid (h2.room h1.pk (by omega))) (Lib.hid (h2.wide (by omega))) w h1 hE (srcv_none L w _)).mono ?_
  rintro e w' ⟨he, hW, hu⟩
  exact ⟨he, ⟨_, hW, ⟨h2.nb, h2.pr, h2.lm, addL_in h2.us _ (.inl rfl)⟩, rfl, h4, fun _ => ⟨rfl, rfl⟩⟩, hu.up⟩
theorem GpS.take {z v : Int} (hz : z ≤ 4) (hv : v ≤ 5) (hn : 0 < L.b.n) (w : World) (h : GpS z false v w0 L w) :
    Calls Tryz.prog 17 #[.pointer (some ⟨L.P, 0, none⟩), .int .i64 0, .slice none 0 0] w fun e w' => e = .returned (.tuple #[.int .i64 0, .int .i64 v, .nilIface]) ∧ GpS (z + 1) true v w0 L w' ∧ UpT L.T w w' := by
  obtain ⟨D, h1, h2, h3, h4, -⟩ := h
  refine (bpage_w (D := D) 0 (by rw [h2.nb]; decide) none 0 0 [] (Lib.hid rfl) (by decide) 0 hn (Lib.hid (free0 h3 h4 hv)) (Lib.hid (fun i hi => by omega)) v (Lib.hid h4) (Lib.hid (h2.room h1.pk (by omega))) (Lib.hid (h2.wide (by omega))) w h1 (srcw_none L w)).mono ?_
  rintro e w' ⟨he, hW, hu⟩
  exact ⟨he, ⟨_, hW, ⟨h2.nb, h2.pr, h2.lm, addL_in h2.us _ (.inl rfl)⟩, rfl, h4, fun _ => ⟨rfl, rfl⟩⟩, hu.up⟩
theorem GdS.take {z v : Int} (hz : z ≤ 4) (hv : v ≤ 5) (hn : 0 < L.dn) (w : World) (h : GdS z false v w0 L w) :
    Calls Tryz.prog 18 #[.pointer (some ⟨L.P, 0, none⟩), .int .i64 0] w fun e w' => e = .returned (.tuple #[.int .i64 0, .int .i64 v, .nilIface]) ∧ GdS (z + 1) true v w0 L w' ∧ UpT L.T w w' := by
  obtain ⟨D, h1, h2, h3, h4, -⟩ := h
  refine (bdomain_w (D := D) 0 (by rw [h2.nb]; decide) 0 v hn (Lib.hid (free0 h3 h4 hv)) (Lib.hid (fun i hi => by omega)) (Lib.hid h4) (Lib.hid (h2.room h1.pk (by omega))) (Lib.hid (h2.wide (by omega))) w h1).mono ?_
  rintro e w' ⟨he, hW, hu⟩
  exact ⟨he, ⟨_, hW, ⟨h2.nb, h2.pr, h2.lm, addL_in h2.us _ (.inl rfl)⟩, rfl, h4, fun _ => ⟨rfl, rfl⟩⟩, hu.up⟩
theorem GnS.give {z v : Int} (hz : z ≤ 4) (hv0 : 0 ≤ v) (hv : v ≤ 5) (hn : 0 < L.a.n) (w : World) (h : GnS z true v w0 L w) : Calls Tryz.prog 26 #[.pointer (some ⟨L.P, 0, none⟩), .int .i64 0, (Value.agg #[.int .i64 2, .int .i64 0, .int .i64 v, .int .i64 0, .int .u32 0])] w fun e w' => e = .returned .nilIface ∧ GnS (z + 1) false (v + 1) w0 L w' ∧ UpT L.T w w' := by
  obtain ⟨D, h1, h2, h3, h4, h5⟩ := h
  obtain ⟨h6, h7⟩ := h5 rfl
  have hT : TiAt w L 2 L.G1 0 ((0 : Nat) : Int) v := by have := h1.titl1 0 (by decide); rw [h6, h7] at this; exact this
  refine (bgive_ok (D := D) (D2 := { D with nt := upd D.nt 0 false, nv := upd D.nv 0 (v + 1), o1 := upd D.o1 0 (-1), v1 := upd D.v1 0 0 }) 2 0 v 0 0 L.G1 0 (by decide) (by rw [h2.nb]; decide) (Lib.hid (by rw [← h4]; exact liveK2 0 hn h3)) (Lib.hid ⟨rfl, rfl, rfl⟩) (Lib.hid (h2.wide (by omega))) w h1 hT (fun W hW => bgb_node 0 v 0 0 (by decide) hn (Lib.hid h3) (Lib.hid h4) (by omega) (by omega) W hW)).mono ?_
  rintro e w' ⟨he, hW, hu⟩
  exact ⟨he, ⟨_, hW, ⟨h2.nb, h2.pr, h2.lm, addL_in h2.us _ (.inr rfl)⟩, rfl, rfl, fun e => by cases e⟩, hu⟩
theorem GpS.give {z v : Int} (hz : z ≤ 4) (hv0 : 0 ≤ v) (hv : v ≤ 5) (hn : 0 < L.b.n) (w : World) (h : GpS z true v w0 L w) : Calls Tryz.prog 26 #[.pointer (some ⟨L.P, 0, none⟩), .int .i64 0, (Value.agg #[.int .i64 3, .int .i64 0, .int .i64 v, .int .i64 0, .int .u32 0])] w fun e w' => e = .returned .nilIface ∧ GpS (z + 1) false (v + 1) w0 L w' ∧ UpT L.T w w' := by
  obtain ⟨D, h1, h2, h3, h4, h5⟩ := h
  obtain ⟨h6, h7⟩ := h5 rfl
  have hT : TiAt w L 3 L.G2 0 ((0 : Nat) : Int) v := by have := h1.titl2 0 (by decide); rw [h6, h7] at this; exact this
  refine (bgive_ok (D := D) (D2 := { D with pt := upd D.pt 0 false, pv := upd D.pv 0 (v + 1), o2 := upd D.o2 0 (-1), v2 := upd D.v2 0 0 }) 3 0 v 0 0 L.G2 0 (by decide) (by rw [h2.nb]; decide) (Lib.hid (by rw [← h4]; exact liveK3 0 hn h3)) (Lib.hid ⟨rfl, rfl, rfl⟩) (Lib.hid (h2.wide (by omega))) w h1 hT (fun W hW => bgb_page 0 v 0 0 (by decide) hn (Lib.hid h3) (Lib.hid h4) (by omega) (by omega) W hW)).mono ?_
  rintro e w' ⟨he, hW, hu⟩
  exact ⟨he, ⟨_, hW, ⟨h2.nb, h2.pr, h2.lm, addL_in h2.us _ (.inr rfl)⟩, rfl, rfl, fun e => by cases e⟩, hu⟩
theorem GdS.give {z v : Int} (hz : z ≤ 4) (hv0 : 0 ≤ v) (hv : v ≤ 5) (hn : 0 < L.dn) (w : World) (h : GdS z true v w0 L w) : Calls Tryz.prog 26 #[.pointer (some ⟨L.P, 0, none⟩), .int .i64 0, (Value.agg #[.int .i64 4, .int .i64 0, .int .i64 v, .int .i64 0, .int .u32 0])] w fun e w' => e = .returned .nilIface ∧ GdS (z + 1) false (v + 1) w0 L w' ∧ UpT L.T w w' := by
  obtain ⟨D, h1, h2, h3, h4, h5⟩ := h
  obtain ⟨h6, h7⟩ := h5 rfl
  have hT : TiAt w L 4 L.G3 0 ((0 : Nat) : Int) v := by have := h1.titl3 0 (by decide); rw [h6, h7] at this; exact this
  refine (bgive_ok (D := D) (D2 := { D with dt := upd D.dt 0 false, dv := upd D.dv 0 (v + 1), o3 := upd D.o3 0 (-1), v3 := upd D.v3 0 0 }) 4 0 v 0 0 L.G3 0 (by decide) (by rw [h2.nb]; decide) (Lib.hid (by rw [← h4]; exact liveK4 0 hn h3)) (Lib.hid ⟨rfl, rfl, rfl⟩) (Lib.hid (h2.wide (by omega))) w h1 hT (fun W hW => bgb_dom 0 v 0 0 (by decide) hn (Lib.hid h3) (Lib.hid h4) (by omega) (by omega) W hW)).mono ?_
  rintro e w' ⟨he, hW, hu⟩
  exact ⟨he, ⟨_, hW, ⟨h2.nb, h2.pr, h2.lm, addL_in h2.us _ (.inr rfl)⟩, rfl, rfl, fun e => by cases e⟩, hu⟩
theorem there0 {n : Nat} {T : Nat → Bool} {V : Nat → Int} {t : Bool} {v x : Int} {r : Bool} (hn : 0 < n) (h1 : T 0 = t) (h2 : V 0 = v) (hr : (t && (v == x)) = r) : (thereB n T 0 && (V (0 : Int).toNat == x)) = r := by
  have e : thereB n T 0 = t := by
    unfold thereB
    rw [decide_eq_true (by omega)]
    simpa using h1
  have e2 : V (0 : Int).toNat = v := h2
  rw [e, e2]
  exact hr
theorem GnS.live {z v x : Int} {t r : Bool} (hn : 0 < L.a.n) (hr : (t && (v == x)) = r) (w : World) (h : GnS z t v w0 L w) (hg : GB w L X sb kb kd) : Calls Tryz.prog 21 #[.pointer (some ⟨X.s, 0, none⟩), (Value.agg #[.int .i64 2, .int .i64 0, .int .i64 x, .int .i64 0, .int .u32 0])] w fun e w' => e = .returned (.bool r) ∧ Below w.heap.size w w' := by
  obtain ⟨D, h1, h2, h3, h4, -⟩ := h
  exact slive_mem X.s L.mb 2 0 x 0 0 (.inl rfl) r (Lib.hid (by unfold liveB; rw [if_pos rfl]; exact there0 hn h3 h4 hr)) w hg.b.c0 h1.mm.m0 h1.mm.sv.st
theorem GpS.live {z v x : Int} {t r : Bool} (hn : 0 < L.b.n) (hr : (t && (v == x)) = r) (w : World) (h : GpS z t v w0 L w) (hg : GB w L X sb kb kd) : Calls Tryz.prog 21 #[.pointer (some ⟨X.s, 0, none⟩), (Value.agg #[.int .i64 3, .int .i64 0, .int .i64 x, .int .i64 0, .int .u32 0])] w fun e w' => e = .returned (.bool r) ∧ Below w.heap.size w w' := by
  obtain ⟨D, h1, h2, h3, h4, -⟩ := h
  exact slive_mem X.s L.mb 3 0 x 0 0 (.inr rfl) r (Lib.hid (by unfold liveB; rw [if_neg (by decide), if_pos rfl]; exact there0 hn h3 h4 hr)) w hg.b.c0 h1.mm.m0 h1.mm.sv.st
theorem GdS.live {z v x : Int} {t r : Bool} (hn : 0 < L.dn) (hr : (t && (v == x)) = r) (w : World) (h : GdS z t v w0 L w) (hg : GB w L X sb kb kd) : Calls Tryz.prog 21 #[.pointer (some ⟨X.s, 0, none⟩), (Value.agg #[.int .i64 4, .int .i64 0, .int .i64 x, .int .i64 0, .int .u32 0])] w fun e w' => e = .returned (.bool r) ∧ Below w.heap.size w w' := by
  obtain ⟨D, h1, h2, h3, h4, -⟩ := h
  exact slive_dom 0 x 0 0 L.dp L.dR L.dn L.dc L.dB D.dt D.dv r (Lib.hid (there0 hn h3 h4 hr)) w hg.b h1.dd.pl.f0 h1.dd.pl.ar
theorem GnS.key {z v : Int} (hn : 0 < L.a.n) (w : World) (h : GnS z true v w0 L w) (hg : GB w L X sb kb kd) : Calls Tryz.prog 16 #[.pointer (some ⟨X.s, 0, none⟩), .int .i64 2, .int .i64 0] w fun e w' => e = .returned (Value.agg #[.int .i64 2, .int .i64 0, .int .i64 v, .int .i64 0, .int .u32 0]) ∧ Below w.heap.size w w' := by
  obtain ⟨D, h1, h2, h3, h4, -⟩ := h
  exact skey_node 0 2 0 v 0 0 w hg.b L.S h1.mm.m0 (fun V hV => snodekey_in (a := L.a) (b := L.b) (th := D.nt) (vr_ := D.nv) (th2 := D.pt) (vr2 := D.pv) 0 0 0 (Lib.hid rfl) (by decide) (by decide) hn (Lib.hid h3) v (Lib.hid h4) V (h1.below hV).mm.sv.st)
theorem GpS.key {z v : Int} (hn : 0 < L.b.n) (w : World) (h : GpS z true v w0 L w) (hg : GB w L X sb kb kd) : Calls Tryz.prog 16 #[.pointer (some ⟨X.s, 0, none⟩), .int .i64 3, .int .i64 0] w fun e w' => e = .returned (Value.agg #[.int .i64 3, .int .i64 0, .int .i64 v, .int .i64 0, .int .u32 0]) ∧ Below w.heap.size w w' := by
  obtain ⟨D, h1, h2, h3, h4, -⟩ := h
  exact skey_page 0 3 0 v 0 0 w hg.b L.S h1.mm.m0 (fun V hV => spagekey_in (a := L.a) (b := L.b) (th := D.nt) (vr_ := D.nv) (th2 := D.pt) (vr2 := D.pv) 0 0 (Lib.hid rfl) hn (Lib.hid h3) v (Lib.hid h4) V (h1.below hV).mm.sv.st)
theorem GdS.key {z v : Int} (hn : 0 < L.dn) (w : World) (h : GdS z true v w0 L w) (hg : GB w L X sb kb kd) : Calls Tryz.prog 16 #[.pointer (some ⟨X.s, 0, none⟩), .int .i64 4, .int .i64 0] w fun e w' => e = .returned (Value.agg #[.int .i64 4, .int .i64 0, .int .i64 v, .int .i64 0, .int .u32 0]) ∧ Below w.heap.size w w' := by
  obtain ⟨D, h1, h2, h3, h4, -⟩ := h
  exact skey_dom 0 4 0 v 0 0 w hg.b (fun V hV => dkey_of 0 4 0 v 0 0 V (fun U hU => dkeyof_in 4 0 0 0 (Lib.hid rfl) hn (Lib.hid h3) (by decide) v (Lib.hid h4) U ((h1.below hV).below hU).dd))
end
end Go.Proofs.YtncopdhhchmpeaaGreatDoor
namespace Go.Proofs.YtncopdhhchmpeaaGreatDoor
open Go.ChangeShapes Go.WideShapes Go.ChangeAt Go.RowKit
set_option linter.unusedVariables false
set_option linter.unusedSimpArgs false
section
variable {w0 w w' : World} {L : BLoc} {X : SLoc} {sb kb : Nat} {kd : Int}
theorem GB.pb (h : GB w L X sb kb kd) (hl : GL w0 L X sb kb) {B G : Nat} (hb : PBelow w w' B G) (h1 : X.s ≠ B ∧ X.s ≠ G) (h2 : sb ≠ B ∧ sb ≠ G) (h3 : kb ≠ B ∧ kb ≠ G) : GB w' L X sb kb kd :=
  h.same hb.2.2.2.1 (hb.2.2.2.2 X.s h.b.lt h1.1 h1.2) (hb.2.2.2.2 sb (cell_lt h.s) h2.1 h2.2) (hb.2.2.2.2 kb (cell_lt h.k) h3.1 h3.2)
/-- A meter at place 0. -/
def GtS (t : Bool) (v : Int) (w0 : World) (L : BLoc) (X : SLoc) (W : World) : Prop := ∃ th vr pr tk, MS W L X th vr pr tk ∧ Below w0.heap.size w0 W ∧ th 0 = t ∧ vr 0 = v
/-- The one meter, as it was made. -/
def GtF (w0 : World) (L : BLoc) (X : SLoc) (W : World) : Prop := MS W L X (upd (fun _ => false) 0 true) (fun _ => 0) (upd (fun _ => 0) 0 (-1)) (upd (fun _ => 0) 0 5) ∧ Below w0.heap.size w0 W
theorem GtS.below {t : Bool} {v : Int} (h : GtS t v w0 L X w) (hb : Below w.heap.size w w') : GtS t v w0 L X w' := by
  obtain ⟨th, vr, pr, tk, h1, h2, h3⟩ := h
  exact ⟨th, vr, pr, tk, h1.below hb, h2.trans (hb.mono h2.size), h3⟩
theorem GtF.below (h : GtF w0 L X w) (hb : Below w.heap.size w w') : GtF w0 L X w' := ⟨h.1.below hb, h.2.trans (hb.mono h.2.size)⟩
theorem GtF.ts (h : GtF w0 L X w) : GtS true 0 w0 L X w := ⟨_, _, _, _, h.1, h.2, upd0 _ _, rfl⟩
theorem gb_meter {th : Nat → Bool} {vr pr tk : Nat → Int} (hm : MS w L X th vr pr tk) (hl : GL w0 L X sb kb) (hg : GB w L X sb kb kd) (hb : PBelow w w' X.tR X.tG) : GB w' L X sb kb kd := by
  have h1 := hm.t.low2
  have h2 := hl.t
  have h3 := hl.sb
  have h4 := hl.kb
  exact hg.pb hl hb hm.ne ⟨by omega, by omega⟩ ⟨by omega, by omega⟩
theorem bel_meter {th : Nat → Bool} {vr pr tk : Nat → Int} (hm : MS w L X th vr pr tk) (hl : GL w0 L X sb kb) (hw : Below w0.heap.size w0 w) (hb : PBelow w w' X.tR X.tG) : Below w0.heap.size w0 w' := by
  have h1 := hm.t.low2
  have h2 := hl.t
  exact hw.trans (hb.below (by omega) (by omega) hw.size)
theorem up_meter (hl : GL w0 L X sb kb) (hb : PBelow w w' X.tR X.tG) : UpT L.T w w' := by
  have h2 := hl.t
  exact UpT.pb hb (by omega) (by omega)
theorem GtS.take {v : Int} (hv : v ≤ 5) (w : World) (h : GtS false v w0 L X w) (hl : GL w0 L X sb kb) (hg : GB w L X sb kb kd) : Calls Tryz.prog 19 #[.pointer (some ⟨X.tP, 0, none⟩), .int .i64 (-1), .int .i64 5] w fun e w' => e = .returned (.tuple #[.int .i64 0, .int .i64 v, .nilIface]) ∧ GtS true v w0 L X w' ∧ GB w' L X sb kb kd ∧ UpT L.T w w' := by
  obtain ⟨th, vr, pr, tk, h1, h2, h3, h4⟩ := h
  refine (mmake_zero (n := X.tn) (th := th) (vr := vr) (pr := pr) (tk := tk) 5 (by decide) (by decide) (by rw [h1.n8]; decide) (Lib.hid (free0 h3 h4 hv)) v (Lib.hid h4) w h1.t).mono ?_
  rintro e w' ⟨he, hm, hb⟩
  exact ⟨he, ⟨_, _, _, _, h1.turn hm hb, bel_meter h1 hl h2 hb, upd0 _ _, h4⟩, gb_meter h1 hl hg hb, up_meter hl hb⟩
theorem tf_take {v : Int} (hv : v = 0) (w : World) (h : MS w L X (fun _ => false) (fun _ => 0) (fun _ => 0) (fun _ => 0)) (h2 : Below w0.heap.size w0 w) (hl : GL w0 L X sb kb) (hg : GB w L X sb kb kd) : Calls Tryz.prog 19 #[.pointer (some ⟨X.tP, 0, none⟩), .int .i64 (-1), .int .i64 5] w fun e w' => e = .returned (.tuple #[.int .i64 0, .int .i64 v, .nilIface]) ∧ GtF w0 L X w' ∧ GB w' L X sb kb kd ∧ UpT L.T w w' := by
  subst hv
  refine (mmake_zero (n := X.tn) (th := fun _ => false) (vr := fun _ => 0) (pr := fun _ => 0) (tk := fun _ => 0) 5 (by decide) (by decide) (by rw [h.n8]; decide) (Lib.hid (by rfl)) 0 (Lib.hid rfl) w h.t).mono ?_
  rintro e w' ⟨he, hm, hb⟩
  exact ⟨he, ⟨h.turn hm hb, bel_meter h hl h2 hb⟩, gb_meter h hl hg hb, up_meter hl hb⟩
theorem GtF.end_ (w : World) (h : GtF w0 L X w) (hl : GL w0 L X sb kb) (hg : GB w L X sb kb kd) : Calls Tryz.prog 24 #[.pointer (some ⟨X.tP, 0, none⟩), .int .i64 0] w fun e w' => e = .returned .nilIface ∧ GtS false 1 w0 L X w' ∧ GB w' L X sb kb kd ∧ UpT L.T w w' := by
  obtain ⟨h1, h2⟩ := h
  refine (mend_ok (n := X.tn) (th := upd (fun _ => false) 0 true) (pr := upd (fun _ => 0) 0 (-1)) (tk := upd (fun _ => 0) 0 5) 1 0 (Lib.hid (by rw [h1.n8]; decide)) (by rw [h1.n8]; decide) (by decide) (Lib.hid (fun i hi => by obtain rfl : i = 0 := (by omega); rfl)) (Lib.hid (fun i hi _ => by unfold upd; rw [if_neg (by omega)])) (Lib.hid (fun i hi => by obtain rfl : i = 0 := (by omega); rw [upd0]; decide)) w h1.t).mono ?_
  rintro e w' ⟨he, hm, hb⟩
  exact ⟨he, ⟨_, _, _, _, h1.turn hm hb, bel_meter h1 hl h2 hb, by decide, by decide⟩, gb_meter h1 hl hg hb, up_meter hl hb⟩
theorem GtS.live {v x : Int} {t r : Bool} (hr : (t && (v == x)) = r) (w : World) (h : GtS t v w0 L X w) (hg : GB w L X sb kb kd) : Calls Tryz.prog 21 #[.pointer (some ⟨X.s, 0, none⟩), (Value.agg #[.int .i64 7, .int .i64 0, .int .i64 x, .int .i64 0, .int .u32 0])] w fun e w' => e = .returned (.bool r) ∧ Below w.heap.size w w' := by
  obtain ⟨th, vr, pr, tk, h1, h2, h3, h4⟩ := h
  exact slive_meter 0 x 0 0 X.tp X.tR X.tn X.tn X.tB th vr r (Lib.hid (there0 (by rw [h1.n8]; decide) h3 h4 hr)) w hg.b h1.t.f0 h1.t.ar
theorem GtS.key {v : Int} (w : World) (h : GtS true v w0 L X w) (hg : GB w L X sb kb kd) : Calls Tryz.prog 16 #[.pointer (some ⟨X.s, 0, none⟩), .int .i64 7, .int .i64 0] w fun e w' => e = .returned (Value.agg #[.int .i64 7, .int .i64 0, .int .i64 v, .int .i64 0, .int .u32 0]) ∧ Below w.heap.size w w' := by
  obtain ⟨th, vr, pr, tk, h1, h2, h3, h4⟩ := h
  exact skey_meter 0 v X.tp w hg.b h1.t.f0 (fun W hW => aver_in (n := X.tn) (vr := vr) 0 (by rw [h1.n8]; decide) v (Lib.hid h4) W (h1.below hW).t.ar) (fun W hW => slive_meter 0 v 0 0 X.tp X.tR X.tn X.tn X.tB th vr true (Lib.hid (there0 (by rw [h1.n8]; decide) h3 h4 (by simp))) W (hg.b.below hW) (h1.below hW).t.f0 (h1.below hW).t.ar)
def gD1 : BSt := openedB st0 (-1) 10
def gD2 : BSt := openedB gD1 ((0 : Nat) : Int) 5
/-- A bank at place 1. -/
def GaS (t : Bool) (v : Int) (w0 : World) (L : BLoc) (W : World) : Prop := ∃ th vr, ArAt W L.bB L.p L.B L.n L.c th vr ∧ W.cell? ⟨L.P, 0, none⟩ = some (.pointer (some ⟨L.p, 0, none⟩)) ∧ Below w0.heap.size w0 W ∧ th 1 = t ∧ vr 1 = v
theorem GaS.below {t : Bool} {v : Int} (h : GaS t v w0 L w) (hb : Below w.heap.size w w') : GaS t v w0 L w' := by
  obtain ⟨th, vr, h1, h2, h3, h4⟩ := h
  exact ⟨th, vr, h1.below hb, (hb.cell (p := ⟨L.P, 0, none⟩) (cell_lt h2)).trans h2, h3.trans (hb.mono h3.size), h4⟩
/-- Bank 1 within bank 0 was ended. -/
def GeS (w0 : World) (L : BLoc) (W : World) : Prop := ∃ D, BE w0 W L D (thE 2 [1]) (vrE [1]) ∧ D.pr 0 = -1
theorem GeS.below (h : GeS w0 L w) (hb : Below w.heap.size w w') : GeS w0 L w' := by obtain ⟨D, h1, h2⟩ := h; exact ⟨D, h1.below hb, h2⟩
theorem GeS.as (h : GeS w0 L w) : GaS false 1 w0 L w := by obtain ⟨D, h1, h2⟩ := h; exact ⟨_, _, h1.kk.ar, h1.kk.f0, h1.bel, rfl, rfl⟩
theorem bw_as (h : BW w0 w L gD2) : GaS true 0 w0 L w := ⟨_, _, h.kk.ar, h.kk.f0, h.bel, rfl, rfl⟩
theorem gb_sub {v : Int} (hv : v = 0) (hn : L.n = 6) (w : World) (h : BW w0 w L gD1) (hl : GL w0 L X sb kb) (hg : GB w L X sb kb kd) : Calls Tryz.prog 20 #[.pointer (some ⟨L.P, 0, none⟩), .int .i64 0, .int .i64 5] w fun e w' => e = .returned (.tuple #[.int .i64 1, .int .i64 v, .nilIface]) ∧ BW w0 w' L gD2 ∧ GB w' L X sb kb kd ∧ UpT L.T w w' := by
  subst hv
  refine (bwsub_ok (D := gD1) 0 0 (Lib.hid rfl) 5 (by decide) (by decide) (by decide) 1 (Lib.hid rfl) (by rw [hn]; decide) (Lib.hid (by decide +kernel)) w h).mono ?_
  rintro e w' ⟨he, hW, hu⟩
  exact ⟨he, hW, hg.step hl hu h.bel hW.bel, hu⟩
theorem oks_none (o : Nat → Int) (q n : Nat) : oks (fun _ => false) o q n = [] := by simp [oks]
theorem gb_end (hn : L.n = 6) (w : World) (h : BW w0 w L gD2) (hl : GL w0 L X sb kb) (hg : GB w L X sb kb kd) : Calls Tryz.prog 25 #[.pointer (some ⟨L.P, 0, none⟩), .int .i64 1] w fun e w' => e = .returned (.tuple #[.int .i64 0, .nilIface]) ∧ GeS w0 L w' ∧ GB w' L X sb kb kd ∧ UpT L.T w w' := by
  have e0 : ownN L gD2 1 = 0 := by
    show (oks (fun _ => false) _ 1 L.a.n).length + (oks (fun _ => false) _ 1 L.b.n).length + (oks (fun _ => false) _ 1 L.dn).length = 0
    rw [oks_none, oks_none, oks_none]
    rfl
  refine (bend_is (D := gD2) 1 1 (Lib.hid rfl) (by decide) ⟨fun i _ h => absurd h (by simp [gD2, gD1, openedB, st0]), fun i _ h => absurd h (by simp [gD2, gD1, openedB, st0]), fun i _ h => absurd h (by simp [gD2, gD1, openedB, st0])⟩ (Lib.hid ⟨fun i => (by show (-1000000 : Int) ≤ 0 ∧ (0 : Int) ≤ 1000000; decide), fun i => (by show (-1000000 : Int) ≤ 0 ∧ (0 : Int) ≤ 1000000; decide), fun i => (by show (-1000000 : Int) ≤ 0 ∧ (0 : Int) ≤ 1000000; decide)⟩) [1] (Lib.hid (by rw [hn]; decide +kernel)) 0 (Lib.hid (by show ownN L gD2 1 + 0 = 0; rw [e0])) (by decide) (Lib.hid (fun i _ => by simp [gD2, gD1, openedB, st0, upd])) w h).mono ?_
  rintro e w' ⟨he, hW, hu⟩
  exact ⟨he, ⟨_, hW, rfl⟩, hg.step hl hu h.bel hW.bel, hu⟩
theorem GeS.sub {v : Int} (hv : v = 1) (hn : L.n = 6) (w : World) (h : GeS w0 L w) (hl : GL w0 L X sb kb) (hg : GB w L X sb kb kd) : Calls Tryz.prog 20 #[.pointer (some ⟨L.P, 0, none⟩), .int .i64 0, .int .i64 5] w fun e w' => e = .returned (.tuple #[.int .i64 1, .int .i64 v, .nilIface]) ∧ GaS true v w0 L w' ∧ GB w' L X sb kb kd ∧ UpT L.T w w' := by
  subst hv
  obtain ⟨D, h1, h2⟩ := h
  have hp : PrOk 1 D.pr := fun i hi => by obtain rfl : i = 0 := (by omega); rw [h2]; decide
  refine (bsub_gen (n := L.n) (th := thE 2 [1]) (vr := vrE [1]) 0 0 (Lib.hid rfl) 5 (by rw [hn]; decide) (Lib.hid rfl) (.tuple #[.int .i64 ((1 : Nat) : Int), .int .i64 1, .nilIface]) _ _ _ rfl w h1.kk (bopen_gen (n := L.n) (th := thE 2 [1]) (vr := vrE [1]) (pr := D.pr) ((0 : Nat) : Int) 5 1 1 1 (by decide) (by decide) (by decide) (by decide) (by rw [hn]; decide) (by rw [hn]; decide) (Lib.hid (fun i hi => by obtain rfl : i = 0 := (by omega); rfl)) (Lib.hid rfl) (Lib.hid (fun i hi => by obtain rfl : i = 0 := (by omega); rfl)) (Lib.hid rfl) (Lib.hid hp) (Lib.hid (by rw [chL_root hp (by decide) 0 (by decide) h2]; decide)) w h1.kk)).mono ?_
  rintro e w' ⟨he, hW, hb⟩
  have ht := h1.tt
  have k1 := h1.kk.ar.lt.1
  have k2 := h1.kk.ac.lt.1
  have hz : w0.heap.size ≤ L.bB := Nat.le_trans (Nat.le_trans h1.m.n0 h1.md.2.2) h1.dl
  have hb2 : Below w0.heap.size w0 w' := h1.bel.trans (hb.below (by omega) (by omega) h1.bel.size)
  exact ⟨he, ⟨_, _, hW.ar, hW.f0, hb2, upd_at _ _ _, rfl⟩, hg.step hl (UpT.pb hb (by omega) (by omega)) h1.bel hb2, UpT.pb hb (by omega) (by omega)⟩
theorem there1 {n : Nat} {T : Nat → Bool} {V : Nat → Int} {t : Bool} {v x : Int} {r : Bool} (hn : 1 < n) (h1 : T 1 = t) (h2 : V 1 = v) (hr : (t && (v == x)) = r) : (thereB n T 1 && (V (1 : Int).toNat == x)) = r := by
  have e : thereB n T 1 = t := by
    unfold thereB
    rw [decide_eq_true (by omega)]
    simpa using h1
  have e2 : V (1 : Int).toNat = v := h2
  rw [e, e2]
  exact hr
theorem GaS.live {v x : Int} {t r : Bool} (hn : L.n = 6) (hr : (t && (v == x)) = r) (w : World) (h : GaS t v w0 L w) (hg : GB w L X sb kb kd) : Calls Tryz.prog 21 #[.pointer (some ⟨X.s, 0, none⟩), (Value.agg #[.int .i64 8, .int .i64 1, .int .i64 x, .int .i64 0, .int .u32 0])] w fun e w' => e = .returned (.bool r) ∧ Below w.heap.size w w' := by
  obtain ⟨th, vr, h1, h2, h3, h4, h5⟩ := h
  exact slive_bank 1 x 0 0 L.p L.B L.n L.c L.bB th vr r (Lib.hid (there1 (by rw [hn]; decide) h4 h5 hr)) w hg.b h2 h1
theorem GaS.key {v : Int} (hn : L.n = 6) (w : World) (h : GaS true v w0 L w) (hg : GB w L X sb kb kd) : Calls Tryz.prog 16 #[.pointer (some ⟨X.s, 0, none⟩), .int .i64 8, .int .i64 1] w fun e w' => e = .returned (Value.agg #[.int .i64 8, .int .i64 1, .int .i64 v, .int .i64 0, .int .u32 0]) ∧ Below w.heap.size w w' := by
  have h0 := h
  obtain ⟨th, vr, h1, h2, h3, h4, h5⟩ := h
  exact skey_bank 1 v L.p w hg.b h2 (fun W hW => aver_in (n := L.n) (vr := vr) 1 (by rw [hn]; decide) v (Lib.hid h5) W (h1.below hW)) (fun W hW => (h0.below hW).live hn (by simp) W (hg.below hW))
end
end Go.Proofs.YtncopdhhchmpeaaGreatDoor
namespace Go.Proofs.YtncopdhhchmpeaaGreatDoor
open Go.ChangeShapes Go.WideShapes Go.ChangeAt Go.RowKit
set_option linter.unusedVariables false
set_option linter.unusedSimpArgs false
/-- What is known of a kind that is taken, given back, taken again. -/
structure GP (w0 : World) (L : BLoc) (X : SLoc) (sb kb : Nat) (kd k0 k1 : Int) (S1 S2 S3 : World → Prop) : Prop where
  st1 : ∀ W W', S1 W → Below W.heap.size W W' → S1 W'
  st2 : ∀ W W', S2 W → Below W.heap.size W W' → S2 W'
  st3 : ∀ W W', S3 W → Below W.heap.size W W' → S3 W'
  tk1 : ∀ W, SJ w0 W L X gD1 → GB W L X sb kb kd → Calls Tryz.prog 13 #[.pointer (some ⟨kb, 0, none⟩), .pointer (some ⟨sb, 0, none⟩)] W fun e w' => e = .returned (Value.agg #[.int .i64 k0, .int .i64 k1, .int .i64 0, .int .i64 0, .int .u32 0]) ∧ S1 w' ∧ GB w' L X sb kb kd ∧ UpT L.T W w'
  lv1 : ∀ W, S1 W → GB W L X sb kb kd → Calls Tryz.prog 21 #[.pointer (some ⟨X.s, 0, none⟩), (Value.agg #[.int .i64 k0, .int .i64 k1, .int .i64 0, .int .i64 0, .int .u32 0])] W fun e w' => e = .returned (.bool true) ∧ Below W.heap.size W w'
  lv2 : ∀ W, S2 W → GB W L X sb kb kd → Calls Tryz.prog 21 #[.pointer (some ⟨X.s, 0, none⟩), (Value.agg #[.int .i64 k0, .int .i64 k1, .int .i64 0, .int .i64 0, .int .u32 0])] W fun e w' => e = .returned (.bool false) ∧ Below W.heap.size W w'
  tk2 : ∀ W, S2 W → GB W L X sb kb kd → Calls Tryz.prog 13 #[.pointer (some ⟨kb, 0, none⟩), .pointer (some ⟨sb, 0, none⟩)] W fun e w' => e = .returned (Value.agg #[.int .i64 k0, .int .i64 k1, .int .i64 1, .int .i64 0, .int .u32 0]) ∧ S3 w' ∧ GB w' L X sb kb kd ∧ UpT L.T W w'
  lv3 : ∀ W, S3 W → GB W L X sb kb kd → Calls Tryz.prog 21 #[.pointer (some ⟨X.s, 0, none⟩), (Value.agg #[.int .i64 k0, .int .i64 k1, .int .i64 1, .int .i64 0, .int .u32 0])] W fun e w' => e = .returned (.bool true) ∧ Below W.heap.size W w'
  lv4 : ∀ W, S3 W → GB W L X sb kb kd → Calls Tryz.prog 21 #[.pointer (some ⟨X.s, 0, none⟩), (Value.agg #[.int .i64 k0, .int .i64 k1, .int .i64 0, .int .i64 0, .int .u32 0])] W fun e w' => e = .returned (.bool false) ∧ Below W.heap.size W w'
  ok : rightB k0 k1 0 0 0 = true
  b1 : ∀ W, S1 W → Below w0.heap.size w0 W
  b2 : ∀ W, S2 W → Below w0.heap.size w0 W
  b3 : ∀ W, S3 W → Below w0.heap.size w0 W
/-- The sizes of the system. -/
structure GN (L : BLoc) (X : SLoc) : Prop where
  a : L.a.n = 12
  b : L.b.n = 12
  d : L.dn = 6
  t : X.tn = 8
  n : L.n = 6
theorem KeyC.five13 {w : World} {b : Nat} {k0 k1 k2 k3 k4 : Int} (h : KeyC w b k0 k1 k2 k3 k4) : World.cell? w ⟨b, 0, none⟩ = some (.int .i64 k0) ∧ World.cell? w ⟨b, 1, none⟩ = some (.int .i64 k1) ∧ World.cell? w ⟨b, 2, none⟩ = some (.int .i64 k2) ∧ World.cell? w ⟨b, 3, none⟩ = some (.int .i64 k3) ∧ World.cell? w ⟨b, 4, none⟩ = some (.int .u32 k4) := ⟨h.c0, h.c1, h.c2, h.c3, h.c4⟩
theorem same13 (k0 k1 k2 k3 k4 : Int) (w : World) : Calls Tryz.prog 22 #[(Value.agg #[.int .i64 k0, .int .i64 k1, .int .i64 k2, .int .i64 k3, .int .u32 k4]), (Value.agg #[.int .i64 k0, .int .i64 k1, .int .i64 k2, .int .i64 k3, .int .u32 k4])] w fun e w' => e = .returned (.bool true) ∧ Below w.heap.size w w' :=
  (samekey_any k0 k1 k2 k3 k4 k0 k1 k2 k3 k4 w).mono fun e w' ⟨h1, h2⟩ => ⟨by rw [h1]; simp [sameB], h2⟩
/-- What stays while SysGone looks: the boxes of the system, of the key, of another. -/
structure K13 (w0 w : World) (s sb kB : Nat) (k0 k1 : Int) : Prop where
  bel : Below w0.heap.size w0 w
  s : w.cell? ⟨sb, 0, none⟩ = some (.pointer (some ⟨s, 0, none⟩))
  k : KeyC w kB k0 k1 0 0 0
theorem K13.below {w0 w w' : World} {s sb kB : Nat} {k0 k1 : Int} (h : K13 w0 w s sb kB k0 k1) (hb : Below w.heap.size w w') : K13 w0 w' s sb kB k0 k1 := ⟨h.bel.trans (hb.mono h.bel.size), (hb.cell (p := ⟨sb, 0, none⟩) (cell_lt h.s)).trans h.s, h.k.below hb⟩
theorem sa13 {w6 w w' : World} {X : SLoc} {sb kB : Nat} {k0 k1 : Int} (h : (K13 w6 w X.s sb kB k0 k1 ∧ World.cell? w ⟨sb, 0, none⟩ = some (.pointer (some ⟨X.s, 0, none⟩)) ∧ (World.cell? w ⟨kB, 0, none⟩ = some (.int .i64 k0) ∧ World.cell? w ⟨kB, 1, none⟩ = some (.int .i64 k1) ∧ World.cell? w ⟨kB, 2, none⟩ = some (.int .i64 0) ∧ World.cell? w ⟨kB, 3, none⟩ = some (.int .i64 0) ∧ World.cell? w ⟨kB, 4, none⟩ = some (.int .u32 0)))) (hb : Below w.heap.size w w') : (K13 w6 w' X.s sb kB k0 k1 ∧ World.cell? w' ⟨sb, 0, none⟩ = some (.pointer (some ⟨X.s, 0, none⟩)) ∧ (World.cell? w' ⟨kB, 0, none⟩ = some (.int .i64 k0) ∧ World.cell? w' ⟨kB, 1, none⟩ = some (.int .i64 k1) ∧ World.cell? w' ⟨kB, 2, none⟩ = some (.int .i64 0) ∧ World.cell? w' ⟨kB, 3, none⟩ = some (.int .i64 0) ∧ World.cell? w' ⟨kB, 4, none⟩ = some (.int .u32 0))) := by
  have h1 := h.1.below hb
  exact ⟨h1, h1.s, h1.k.five13⟩
structure K14 (w0 w : World) (s sb kB mB : Nat) (k0 k1 m0 m1 m2 : Int) : Prop where
  bel : Below w0.heap.size w0 w
  s : w.cell? ⟨sb, 0, none⟩ = some (.pointer (some ⟨s, 0, none⟩))
  k : KeyC w kB k0 k1 0 0 0
  m : KeyC w mB m0 m1 m2 0 0
theorem K14.below {w0 w w' : World} {s sb kB mB : Nat} {k0 k1 m0 m1 m2 : Int} (h : K14 w0 w s sb kB mB k0 k1 m0 m1 m2) (hb : Below w.heap.size w w') : K14 w0 w' s sb kB mB k0 k1 m0 m1 m2 := ⟨h.bel.trans (hb.mono h.bel.size), (hb.cell (p := ⟨sb, 0, none⟩) (cell_lt h.s)).trans h.s, h.k.below hb, h.m.below hb⟩
theorem sb13 {w6 w w' : World} {X : SLoc} {sb kB mB : Nat} {k0 k1 m0 m1 m2 : Int} (h : (K14 w6 w X.s sb kB mB k0 k1 m0 m1 m2 ∧ World.cell? w ⟨sb, 0, none⟩ = some (.pointer (some ⟨X.s, 0, none⟩)) ∧ (World.cell? w ⟨kB, 0, none⟩ = some (.int .i64 k0) ∧ World.cell? w ⟨kB, 1, none⟩ = some (.int .i64 k1) ∧ World.cell? w ⟨kB, 2, none⟩ = some (.int .i64 0) ∧ World.cell? w ⟨kB, 3, none⟩ = some (.int .i64 0) ∧ World.cell? w ⟨kB, 4, none⟩ = some (.int .u32 0)) ∧ (World.cell? w ⟨mB, 0, none⟩ = some (.int .i64 m0) ∧ World.cell? w ⟨mB, 1, none⟩ = some (.int .i64 m1) ∧ World.cell? w ⟨mB, 2, none⟩ = some (.int .i64 m2) ∧ World.cell? w ⟨mB, 3, none⟩ = some (.int .i64 0) ∧ World.cell? w ⟨mB, 4, none⟩ = some (.int .u32 0)))) (hb : Below w.heap.size w w') : (K14 w6 w' X.s sb kB mB k0 k1 m0 m1 m2 ∧ World.cell? w' ⟨sb, 0, none⟩ = some (.pointer (some ⟨X.s, 0, none⟩)) ∧ (World.cell? w' ⟨kB, 0, none⟩ = some (.int .i64 k0) ∧ World.cell? w' ⟨kB, 1, none⟩ = some (.int .i64 k1) ∧ World.cell? w' ⟨kB, 2, none⟩ = some (.int .i64 0) ∧ World.cell? w' ⟨kB, 3, none⟩ = some (.int .i64 0) ∧ World.cell? w' ⟨kB, 4, none⟩ = some (.int .u32 0)) ∧ (World.cell? w' ⟨mB, 0, none⟩ = some (.int .i64 m0) ∧ World.cell? w' ⟨mB, 1, none⟩ = some (.int .i64 m1) ∧ World.cell? w' ⟨mB, 2, none⟩ = some (.int .i64 m2) ∧ World.cell? w' ⟨mB, 3, none⟩ = some (.int .i64 0) ∧ World.cell? w' ⟨mB, 4, none⟩ = some (.int .u32 0))) := by
  have h1 := h.1.below hb
  exact ⟨h1, h1.s, h1.k.five13, h1.m.five13⟩
set_option maxRecDepth 100000 in
set_option maxHeartbeats 4000000 in
theorem gone_give (k0 k1 kd : Int) (h7 : (k0 == 7) = false) (h8 : (k0 == 8) = false) (hk0 : k0 ≠ 0) (vs vr : Value) (w : World) (hE : ErrsAt vs vr w) (hP : Hid (∀ w0 L X sb kb, ErrsAt vs vr w0 → GL w0 L X sb kb → GN L X → ∃ S1 S2 S3, GP w0 L X sb kb kd k0 k1 S1 S2 S3 ∧ (∀ W, S1 W → GB W L X sb kb kd → Calls Tryz.prog 26 #[.pointer (some ⟨L.P, 0, none⟩), .int .i64 0, (Value.agg #[.int .i64 k0, .int .i64 k1, .int .i64 0, .int .i64 0, .int .u32 0])] W fun e w' => e = .returned .nilIface ∧ S2 w' ∧ GB w' L X sb kb kd ∧ UpT L.T W w'))) : Calls Tryz.prog 3 #[.int .i64 kd] w fun e w' => e = .returned (.bool true) ∧ Below w.heap.size w w' := by
  have HE := Lib.hid hE
  have HK0 := Lib.hid hk0
  clear hE hk0
  go_enter Tryz.func3, Tryz.ntmps3
  go_upto_region 1 with fail
  generalize hA : World.alloc w _ = wa
  obtain ⟨kb, hkb⟩ : ∃ kb, kb = w.heap.size := ⟨_, rfl⟩
  have HA : Hid (Below w.heap.size w wa ∧ wa.cell? ⟨kb, 0, none⟩ = some (.int .i64 kd) ∧ kb < wa.heap.size) := Lib.hid (by rw [← hA, hkb]; exact ⟨(Below.refl _ _).alloc (Nat.le_refl _) _, by simp, by simp⟩)
  rw [← hkb]
  clear hA hkb
  go_upto_region 4 with (first
    | (go_at_call 10; (with_reducible refine (first21_is _).mono ?_); rintro e w1 ⟨rfl, hb1⟩; have HB1 := Lib.hid hb1; clear hb1))
  go_upto_region 5 with (first
    | (go_at_call 11; (with_reducible refine (script_ok _).mono ?_); rintro e w2 ⟨L, X, x, rfl, hs, hn, hb⟩; have HSy := Lib.hid hs.sj; have HN := Lib.hid hn.out; clear hs hn hb))
  generalize hA : World.alloc w2 _ = w3
  obtain ⟨sb, hsb⟩ : ∃ sb, sb = w2.heap.size := ⟨_, rfl⟩
  have H3 : Hid (SJ w1 w3 L X st0 ∧ w3.cell? ⟨sb, 0, none⟩ = some (.pointer (some ⟨X.s, 0, none⟩)) ∧ L.T ≤ sb) := Lib.hid (by
    have hb : Below w2.heap.size w2 w3 := by rw [← hA]; exact (Below.refl _ _).alloc (Nat.le_refl _) _
    exact ⟨HSy.out.below hb, by rw [← hA, hsb]; simp, by rw [hsb]; exact HSy.out.k.tw⟩)
  rw [← hsb]
  clear hA hsb
  have HGN : Hid (GN L X) := Lib.hid ⟨HN.out.1, HN.out.2.1, HN.out.2.2.1, HN.out.2.2.2.1, HN.out.2.2.2.2.1⟩
  have HGL : Hid (GL w1 L X sb kb) := Lib.hid ⟨H3.out.1.lo.1, H3.out.2.2, Nat.lt_of_lt_of_le HA.out.2.2 HB1.out.size, by have := H3.out.1.lo; have := H3.out.1.k.tt; omega⟩
  have HE1 := Lib.hid (HE.out.below (HA.out.1.trans (HB1.out.mono HA.out.1.size)))
  have sc := H3.out.2.1
  have sd := H3.out.1.b.c3
  go_upto_region 9 with (first
    | (go_at_call 12; (with_reducible refine (bwroot_w (D := st0) 10 (by decide) (by decide) 0 (Lib.hid rfl) (by rw [HGN.out.n]; decide) _ H3.out.1.k).mono ?_); rintro e w4 ⟨rfl, hW, hu⟩; have H4 : Hid (SJ w1 w4 L X gD1 ∧ UpT L.T w3 w4) := Lib.hid ⟨H3.out.1.step hW hu, hu.up⟩; clear hW hu))
  have HG4 : Hid (GB w4 L X sb kb kd) := Lib.hid ⟨H4.out.1.b, (World.cell?_of_block (a := ⟨sb, 0, none⟩) (H4.out.2.2 sb HGL.out.sb (cell_lt H3.out.2.1))).trans H3.out.2.1, (World.cell?_of_block (a := ⟨kb, 0, none⟩) (H4.out.1.k.bel.block kb HGL.out.kb)).trans ((HB1.out.cell (p := ⟨kb, 0, none⟩) HA.out.2.2).trans HA.out.2.1)⟩
  clear sc sd
  obtain ⟨S1, S2, S3, hp, hend⟩ := hP.out w1 L X sb kb HE1.out HGL.out HGN.out
  have HP := Lib.hid hp
  have HEnd := Lib.hid hend
  clear hp hend
  go_upto_region 10 with (first
    | (go_at_call 13; (with_reducible refine (HP.out.tk1 _ H4.out.1 HG4.out).mono ?_); rintro e w5 ⟨rfl, hs, hg, hu⟩; have H5 : Hid (S1 w5 ∧ GB w5 L X sb kb kd ∧ UpT L.T w4 w5) := Lib.hid ⟨hs, hg, hu⟩; clear hs hg hu))
  generalize hA : World.alloc w5 _ = w6
  obtain ⟨kB, hkB⟩ : ∃ kB, kB = w5.heap.size := ⟨_, rfl⟩
  have H6 : Hid (S1 w6 ∧ GB w6 L X sb kb kd ∧ KeyC w6 kB k0 k1 0 0 0 ∧ L.T ≤ kB) := Lib.hid (by
    have hb : Below w5.heap.size w5 w6 := by rw [← hA]; exact (Below.refl _ _).alloc (Nat.le_refl _) _
    exact ⟨HP.out.st1 _ _ H5.out.1 hb, H5.out.2.1.below hb, by rw [← hA, hkB]; exact KeyC.new w5 k0 k1 0 0 0 _, by rw [hkB]; exact Nat.le_trans H4.out.1.k.tw H5.out.2.2.1⟩)
  rw [← hkB]
  clear hA hkB
  have HV1 : Hid (∀ W, Below w6.heap.size w6 W → Calls Tryz.prog 70 #[(Value.agg #[.int .i64 k0, .int .i64 k1, .int .i64 0, .int .i64 0, .int .u32 0])] W fun e w' => e = .returned .nilIface ∧ Below W.heap.size W w') := Lib.hid (fun W hW => nvalid_ok k0 k1 0 0 0 (Lib.hid HP.out.ok) vs vr W (HE1.out.below (((HP.out.b1 _ H6.out.1)).trans (hW.mono (HP.out.b1 _ H6.out.1).size))))
  have C1 : Hid (∀ W, K13 w6 W X.s sb kB k0 k1 → Calls Tryz.prog 21 #[.pointer (some ⟨X.s, 0, none⟩), (Value.agg #[.int .i64 k0, .int .i64 k1, .int .i64 0, .int .i64 0, .int .u32 0])] W fun e w' => e = .returned (.bool true) ∧ Below W.heap.size W w') := Lib.hid (fun W h => HP.out.lv1 W (HP.out.st1 _ _ H6.out.1 h.bel) (H6.out.2.1.below h.bel))
  have C2 : Hid (∀ W, K13 w6 W X.s sb kB k0 k1 → Calls Tryz.prog 23 #[.pointer (some ⟨X.s, 0, none⟩), (Value.agg #[.int .i64 k0, .int .i64 k1, .int .i64 0, .int .i64 0, .int .u32 0])] W fun e w' => e = .returned (Value.agg #[.int .i64 k0, .int .i64 k1, .int .i64 0, .int .i64 0, .int .u32 0]) ∧ Below W.heap.size W w') := Lib.hid (fun W h => oseen_live k0 k1 0 0 0 W (fun V hV => HV1.out V (h.bel.trans (hV.mono h.bel.size))) (fun V hV => C1.out V (h.below hV)))
  have C3 := Lib.hid (same13 k0 k1 0 0 0)
  have HAb : Hid (K13 w6 w6.drew X.s sb kB k0 k1 ∧ World.cell? w6.drew ⟨sb, 0, none⟩ = some (.pointer (some ⟨X.s, 0, none⟩)) ∧ (World.cell? w6.drew ⟨kB, 0, none⟩ = some (.int .i64 k0) ∧ World.cell? w6.drew ⟨kB, 1, none⟩ = some (.int .i64 k1) ∧ World.cell? w6.drew ⟨kB, 2, none⟩ = some (.int .i64 0) ∧ World.cell? w6.drew ⟨kB, 3, none⟩ = some (.int .i64 0) ∧ World.cell? w6.drew ⟨kB, 4, none⟩ = some (.int .u32 0))) := Lib.hid (have hd : Below w6.heap.size w6 w6.drew := (Below.refl _ _).drew; have hk := H6.out.2.2.1.below hd; ⟨⟨hd, (H6.out.2.1.below hd).s, hk⟩, (H6.out.2.1.below hd).s, hk.five13⟩)
  go_cut [38] (fun v wx => v = .bool false ∧ K13 w6 wx X.s sb kB k0 k1)
  case first =>
    go_region_held3 (fun w' => (K13 w6 w' X.s sb kB k0 k1 ∧ World.cell? w' ⟨sb, 0, none⟩ = some (.pointer (some ⟨X.s, 0, none⟩)) ∧ (World.cell? w' ⟨kB, 0, none⟩ = some (.int .i64 k0) ∧ World.cell? w' ⟨kB, 1, none⟩ = some (.int .i64 k1) ∧ World.cell? w' ⟨kB, 2, none⟩ = some (.int .i64 0) ∧ World.cell? w' ⟨kB, 3, none⟩ = some (.int .i64 0) ∧ World.cell? w' ⟨kB, 4, none⟩ = some (.int .u32 0)))) (first | exact HAb.out | exact sa13 (by assumption) hb) (first
      | (go_at_call 21; (with_reducible refine (C1.out _ (And.left (by assumption))).mono ?_); rintro e w' ⟨rfl, hb⟩)
      | (go_at_call 23; (with_reducible refine (C2.out _ (And.left (by assumption))).mono ?_); rintro e w' ⟨rfl, hb⟩)
      | (go_at_call 22; (with_reducible refine (C3.out _).mono ?_); rintro e w' ⟨rfl, hb⟩))
    go_wp2_with fail
    go_meet
    refine ⟨rfl, ?_⟩
    apply And.left
    assumption
  case rest =>
    obtain ⟨rfl, hk⟩ := hcut
    have H7 : Hid (S1 wc ∧ GB wc L X sb kb kd ∧ KeyC wc kB k0 k1 0 0 0) := Lib.hid ⟨HP.out.st1 _ _ H6.out.1 hk.bel, H6.out.2.1.below hk.bel, hk.k⟩
    clear hk HAb C1 C2
    have q0 := H7.out.2.2.c0
    go_upto_region 13 with fail
    obtain ⟨wD, hwD⟩ : ∃ wD, wD = wc.drew := ⟨_, rfl⟩
    have HD : Hid (S1 wD ∧ GB wD L X sb kb kd ∧ KeyC wD kB k0 k1 0 0 0) := Lib.hid (by
      have hd : Below wc.heap.size wc wD := by rw [hwD]; exact (Below.refl _ _).drew
      exact ⟨HP.out.st1 _ _ H7.out.1 hd, H7.out.2.1.below hd, H7.out.2.2.below hd⟩)
    refine wp_region_noPanic ?_
    refine wp_region_held_drew (S := fun w' => World.cell? w' ⟨sb, 0, none⟩ = some (.pointer (some ⟨X.s, 0, none⟩)) ∧ World.cell? w' ⟨X.s, 3, none⟩ = some (.pointer (some ⟨L.P, 0, none⟩)) ∧ (World.cell? w' ⟨kB, 0, none⟩ = some (.int .i64 k0) ∧ World.cell? w' ⟨kB, 1, none⟩ = some (.int .i64 k1) ∧ World.cell? w' ⟨kB, 2, none⟩ = some (.int .i64 0) ∧ World.cell? w' ⟨kB, 3, none⟩ = some (.int .i64 0) ∧ World.cell? w' ⟨kB, 4, none⟩ = some (.int .u32 0))) (by kernel_rfl) (by rw [← hwD]; exact ⟨HD.out.2.1.s, HD.out.2.1.b.c3, HD.out.2.2.five13⟩) (fun hHeld => ?_)
    rw [← hwD] at hHeld ⊢
    clear hwD
    refine wpAnyH_take (i := 0) (v := ?_) (by rfl) (by kernel_rfl) (by kernel_rfl) (by kernel_rfl) (fun _ _ _ h => h) (Or.inl ⟨by kernel_rfl, ?_⟩) (by assumption) ?_; rotate_left 1; (focus (intro w hSw; (try dsimp only at hSw); simp only [List.getElem_toArray, List.getElem_cons_succ, List.getElem_cons_zero]; all_goals go_simp; all_goals (try with_reducible rfl))); (try simp only [Act.put, List.getElem_toArray, List.getElem_cons_succ, List.getElem_cons_zero, List.setIfInBounds_toArray, List.set_cons_zero, List.set_cons_succ])
    refine wpAnyH_take (i := 1) (v := ?_) (by rfl) (by kernel_rfl) (by kernel_rfl) (by kernel_rfl) (fun _ _ _ h => h) (Or.inl ⟨by kernel_rfl, ?_⟩) (by assumption) ?_; rotate_left 1; (focus (intro w hSw; (try dsimp only at hSw); simp only [List.getElem_toArray, List.getElem_cons_succ, List.getElem_cons_zero]; all_goals go_simp; all_goals (try with_reducible rfl))); (try simp only [Act.put, List.getElem_toArray, List.getElem_cons_succ, List.getElem_cons_zero, List.setIfInBounds_toArray, List.set_cons_zero, List.set_cons_succ])
    refine wpAnyH_take (i := 2) (v := ?_) (by rfl) (by kernel_rfl) (by kernel_rfl) (by kernel_rfl) (fun _ _ _ h => h) (Or.inl ⟨by kernel_rfl, ?_⟩) (by assumption) ?_; rotate_left 1; (focus (intro w hSw; (try dsimp only at hSw); simp only [List.getElem_toArray, List.getElem_cons_succ, List.getElem_cons_zero]; all_goals go_simp; all_goals (try with_reducible rfl))); (try simp only [Act.put, List.getElem_toArray, List.getElem_cons_succ, List.getElem_cons_zero, List.setIfInBounds_toArray, List.set_cons_zero, List.set_cons_succ])
    refine wpAnyH_take (i := 3) (v := ?_) (by rfl) (by kernel_rfl) (by kernel_rfl) (by kernel_rfl) (fun _ _ _ h => h) (Or.inl ⟨by kernel_rfl, ?_⟩) (by assumption) ?_; rotate_left 1; (focus (intro w hSw; (try dsimp only at hSw); simp only [List.getElem_toArray, List.getElem_cons_succ, List.getElem_cons_zero]; all_goals go_simp; all_goals (try with_reducible rfl))); (try simp only [Act.put, List.getElem_toArray, List.getElem_cons_succ, List.getElem_cons_zero, List.setIfInBounds_toArray, List.set_cons_zero, List.set_cons_succ])
    refine wpAnyH_take (i := 4) (v := ?_) (by rfl) (by kernel_rfl) (by kernel_rfl) (by kernel_rfl) (fun _ _ _ h => h) (Or.inl ⟨by kernel_rfl, ?_⟩) (by assumption) ?_; rotate_left 1; (focus (intro w hSw; (try dsimp only at hSw); simp only [List.getElem_toArray, List.getElem_cons_succ, List.getElem_cons_zero]; all_goals go_simp; all_goals (try with_reducible rfl))); (try simp only [Act.put, List.getElem_toArray, List.getElem_cons_succ, List.getElem_cons_zero, List.setIfInBounds_toArray, List.set_cons_zero, List.set_cons_succ])
    refine wpAnyH_ready (rs := [5]) (by kernel_rfl) (by simp) ?_; refine AllReadyH.cons (by rfl) (fun K hK => ?_) AllReadyH.nil; rw [if_pos (by kernel_rfl)]; simp only [List.getElem_toArray, List.getElem_cons_succ, List.getElem_cons_zero]
    go_wp2_with (first
      | (go_at_call 26; (with_reducible refine (HEnd.out _ HD.out.1 HD.out.2.1).mono ?_); rintro e w8 ⟨rfl, hs, hg, hu⟩; have H8 : Hid (S2 w8 ∧ GB w8 L X sb kb kd ∧ KeyC w8 kB k0 k1 0 0 0) := Lib.hid ⟨hs, hg, HD.out.2.2.upt hu H6.out.2.2.2⟩; clear hs hg hu))
    refine hK.out _ _ ⟨H8.out.2.1.s, H8.out.2.1.b.c3, H8.out.2.2.five13⟩ (fun hHeld => ?_)
    clear hK K
    (try simp only [Act.put, List.getElem_toArray, List.getElem_cons_succ, List.getElem_cons_zero, List.setIfInBounds_toArray, List.set_cons_zero, List.set_cons_succ])
    refine wpAnyH_done (by kernel_rfl) ?_ _
    refine NoPanic.normal ?_
    clear q0
    go_upto_region 19 with fail; generalize hA : World.alloc w8 _ = w9; obtain ⟨vB, hvB⟩ : ∃ vB, vB = w8.heap.size := ⟨_, rfl⟩; have H9 : Hid (S2 w9 ∧ GB w9 L X sb kb kd ∧ KeyC w9 kB k0 k1 0 0 0 ∧ KeyC w9 vB 0 0 0 0 0) := (Lib.hid (by have hb : Below w8.heap.size w8 w9 := (by rw [← hA]; exact (Below.refl _ _).alloc (Nat.le_refl _) _); exact ⟨HP.out.st2 _ _ H8.out.1 hb, H8.out.2.1.below hb, H8.out.2.2.below hb, by rw [← hA, hvB]; exact KeyC.new w8 0 0 0 0 0 _⟩)); rw [← hvB]; clear hA hvB; have hB2 : Hid (∀ W, S2 W → Below w1.heap.size w1 W) := Lib.hid HP.out.b2; have HV2 : Hid (∀ W, Below w9.heap.size w9 W → Calls Tryz.prog 70 #[(Value.agg #[.int .i64 k0, .int .i64 k1, .int .i64 0, .int .i64 0, .int .u32 0])] W fun e w' => e = .returned .nilIface ∧ Below W.heap.size W w') := (Lib.hid (fun W hW => nvalid_ok k0 k1 0 0 0 (Lib.hid HP.out.ok) vs vr W (HE1.out.below ((hB2.out _ H9.out.1).trans (hW.mono (hB2.out _ H9.out.1).size))))); have C1 : Hid (∀ W, K14 w9 W X.s sb kB vB k0 k1 0 0 0 → Calls Tryz.prog 21 #[.pointer (some ⟨X.s, 0, none⟩), (Value.agg #[.int .i64 k0, .int .i64 k1, .int .i64 0, .int .i64 0, .int .u32 0])] W fun e w' => e = .returned (.bool false) ∧ Below W.heap.size W w') := (Lib.hid (fun W h => HP.out.lv2 W (HP.out.st2 _ _ H9.out.1 h.bel) (H9.out.2.1.below h.bel))); have C2 : Hid (∀ W, K14 w9 W X.s sb kB vB k0 k1 0 0 0 → Calls Tryz.prog 23 #[.pointer (some ⟨X.s, 0, none⟩), (Value.agg #[.int .i64 k0, .int .i64 k1, .int .i64 0, .int .i64 0, .int .u32 0])] W fun e w' => e = .returned (Value.agg #[.int .i64 0, .int .i64 0, .int .i64 0, .int .i64 0, .int .u32 0]) ∧ Below W.heap.size W w') := (Lib.hid (fun W h => oseen_dead k0 k1 0 0 0 W (fun V hV => HV2.out V (h.bel.trans (hV.mono h.bel.size))) (fun V hV => C1.out V (h.below hV)))); have C3 := Lib.hid (same13 0 0 0 0 0); have HAb : Hid (K14 w9 w9.drew X.s sb kB vB k0 k1 0 0 0 ∧ World.cell? w9.drew ⟨sb, 0, none⟩ = some (.pointer (some ⟨X.s, 0, none⟩)) ∧ (World.cell? w9.drew ⟨kB, 0, none⟩ = some (.int .i64 k0) ∧ World.cell? w9.drew ⟨kB, 1, none⟩ = some (.int .i64 k1) ∧ World.cell? w9.drew ⟨kB, 2, none⟩ = some (.int .i64 0) ∧ World.cell? w9.drew ⟨kB, 3, none⟩ = some (.int .i64 0) ∧ World.cell? w9.drew ⟨kB, 4, none⟩ = some (.int .u32 0)) ∧ (World.cell? w9.drew ⟨vB, 0, none⟩ = some (.int .i64 0) ∧ World.cell? w9.drew ⟨vB, 1, none⟩ = some (.int .i64 0) ∧ World.cell? w9.drew ⟨vB, 2, none⟩ = some (.int .i64 0) ∧ World.cell? w9.drew ⟨vB, 3, none⟩ = some (.int .i64 0) ∧ World.cell? w9.drew ⟨vB, 4, none⟩ = some (.int .u32 0))) := (Lib.hid (have hd : Below w9.heap.size w9 w9.drew := (Below.refl _ _).drew; have hk := H9.out.2.2.1.below hd; have hv := H9.out.2.2.2.below hd; ⟨⟨hd, (H9.out.2.1.below hd).s, hk, hv⟩, (H9.out.2.1.below hd).s, hk.five13, hv.five13⟩))
    go_cut [72] (fun v wx => v = .bool false ∧ K14 w9 wx X.s sb kB vB k0 k1 0 0 0)
    case first =>
      go_region_held3 (fun w' => (K14 w9 w' X.s sb kB vB k0 k1 0 0 0 ∧ World.cell? w' ⟨sb, 0, none⟩ = some (.pointer (some ⟨X.s, 0, none⟩)) ∧ (World.cell? w' ⟨kB, 0, none⟩ = some (.int .i64 k0) ∧ World.cell? w' ⟨kB, 1, none⟩ = some (.int .i64 k1) ∧ World.cell? w' ⟨kB, 2, none⟩ = some (.int .i64 0) ∧ World.cell? w' ⟨kB, 3, none⟩ = some (.int .i64 0) ∧ World.cell? w' ⟨kB, 4, none⟩ = some (.int .u32 0)) ∧ (World.cell? w' ⟨vB, 0, none⟩ = some (.int .i64 0) ∧ World.cell? w' ⟨vB, 1, none⟩ = some (.int .i64 0) ∧ World.cell? w' ⟨vB, 2, none⟩ = some (.int .i64 0) ∧ World.cell? w' ⟨vB, 3, none⟩ = some (.int .i64 0) ∧ World.cell? w' ⟨vB, 4, none⟩ = some (.int .u32 0)))) (first | exact HAb.out | exact sb13 (by assumption) hb) (first
        | (go_at_call 21; (with_reducible refine (C1.out _ (And.left (by assumption))).mono ?_); rintro e w' ⟨rfl, hb⟩)
        | (go_at_call 23; (with_reducible refine (C2.out _ (And.left (by assumption))).mono ?_); rintro e w' ⟨rfl, hb⟩)
        | (go_at_call 22; (with_reducible refine (C3.out _).mono ?_); rintro e w' ⟨rfl, hb⟩))
      go_wp2_with fail
      go_meet
      refine ⟨rfl, ?_⟩
      apply And.left
      assumption
    case rest =>
      obtain ⟨rfl, hk⟩ := hcut
      have H10 : Hid (S2 wc ∧ GB wc L X sb kb kd ∧ KeyC wc kB k0 k1 0 0 0) := Lib.hid ⟨HP.out.st2 _ _ H9.out.1 hk.bel, H9.out.2.1.below hk.bel, hk.k⟩
      clear hk HAb C1 C2
      go_upto_region 22 with (first
        | (go_at_call 13; (with_reducible refine (HP.out.tk2 _ H10.out.1 H10.out.2.1).mono ?_); rintro e w11 ⟨rfl, hs, hg, hu⟩; have H11 : Hid (S3 w11 ∧ GB w11 L X sb kb kd ∧ KeyC w11 kB k0 k1 0 0 0) := Lib.hid ⟨hs, hg, H10.out.2.2.upt hu H6.out.2.2.2⟩; clear hs hg hu))
      generalize hA : World.alloc w11 _ = w12
      obtain ⟨aB, haB⟩ : ∃ aB, aB = w11.heap.size := ⟨_, rfl⟩
      have H12 : Hid (S3 w12 ∧ GB w12 L X sb kb kd ∧ KeyC w12 kB k0 k1 0 0 0 ∧ KeyC w12 aB k0 k1 1 0 0) := Lib.hid (by
        have hb : Below w11.heap.size w11 w12 := by rw [← hA]; exact (Below.refl _ _).alloc (Nat.le_refl _) _
        exact ⟨HP.out.st3 _ _ H11.out.1 hb, H11.out.2.1.below hb, H11.out.2.2.below hb, by rw [← hA, haB]; exact KeyC.new w11 k0 k1 1 0 0 _⟩)
      rw [← haB]
      clear hA haB
      have C1 : Hid (∀ W, K14 w12 W X.s sb kB aB k0 k1 k0 k1 1 → Calls Tryz.prog 21 #[.pointer (some ⟨X.s, 0, none⟩), (Value.agg #[.int .i64 k0, .int .i64 k1, .int .i64 1, .int .i64 0, .int .u32 0])] W fun e w' => e = .returned (.bool true) ∧ Below W.heap.size W w') := Lib.hid (fun W h => HP.out.lv3 W (HP.out.st3 _ _ H12.out.1 h.bel) (H12.out.2.1.below h.bel))
      have C2 : Hid (∀ W, K14 w12 W X.s sb kB aB k0 k1 k0 k1 1 → Calls Tryz.prog 21 #[.pointer (some ⟨X.s, 0, none⟩), (Value.agg #[.int .i64 k0, .int .i64 k1, .int .i64 0, .int .i64 0, .int .u32 0])] W fun e w' => e = .returned (.bool false) ∧ Below W.heap.size W w') := Lib.hid (fun W h => HP.out.lv4 W (HP.out.st3 _ _ H12.out.1 h.bel) (H12.out.2.1.below h.bel))
      have H12k : Hid (K14 w12 w12 X.s sb kB aB k0 k1 k0 k1 1) := Lib.hid ⟨Below.refl _ _, H12.out.2.1.s, H12.out.2.2.1, H12.out.2.2.2⟩
      have hw1 : IntKind.i64.wrap 1 = 1 := by decide
      have c5 := H12k.out.s
      obtain ⟨p0, p1, p2, p3, p4⟩ := H12k.out.k.five13
      obtain ⟨r0, r1, r2, r3, r4⟩ := H12k.out.m.five13
      go_wp2_with (first
        | (go_at_call 21; (with_reducible refine (C1.out _ H12k.out).mono ?_); rintro e w13 ⟨rfl, hb⟩; have H13 := Lib.hid (H12k.out.below hb); clear hb c5 p0 p1 p2 p3 p4 r0 r1 r2 r3 r4; have c5 := H13.out.s; obtain ⟨p0, p1, p2, p3, p4⟩ := H13.out.k.five13; obtain ⟨r0, r1, r2, r3, r4⟩ := H13.out.m.five13)
        | (go_at_call 21; (with_reducible refine (C2.out _ H13.out).mono ?_); rintro e w14 ⟨rfl, hb⟩; have H14 := Lib.hid (H13.out.below hb); clear hb c5 p0 p1 p2 p3 p4 r0 r1 r2 r3 r4; have c5 := H14.out.s; obtain ⟨p0, p1, p2, p3, p4⟩ := H14.out.k.five13; obtain ⟨r0, r1, r2, r3, r4⟩ := H14.out.m.five13))
      go_ret
      exact ⟨rfl, (HA.out.1.trans (HB1.out.mono HA.out.1.size)).trans (Below.mono ((HP.out.b3 _ H12.out.1).trans (Below.mono H14.out.bel (HP.out.b3 _ H12.out.1).size)) (HA.out.1.trans (HB1.out.mono HA.out.1.size)).size)⟩
end Go.Proofs.YtncopdhhchmpeaaGreatDoor
namespace Go.Proofs.YtncopdhhchmpeaaGreatDoor
open Go.ChangeShapes Go.WideShapes Go.ChangeAt Go.RowKit
set_option linter.unusedVariables false
set_option linter.unusedSimpArgs false
set_option maxRecDepth 100000 in
set_option maxHeartbeats 4000000 in
theorem gone_meter (kd : Int) (vs vr : Value) (w : World) (hE : ErrsAt vs vr w) (hP : Hid (∀ w0 L X sb kb, ErrsAt vs vr w0 → GL w0 L X sb kb → GN L X → ∃ S1 S2 S3, GP w0 L X sb kb kd 7 0 S1 S2 S3 ∧ (∀ W, S1 W → GB W L X sb kb kd → Calls Tryz.prog 24 #[.pointer (some ⟨X.tP, 0, none⟩), .int .i64 0] W fun e w' => e = .returned .nilIface ∧ S2 w' ∧ GB w' L X sb kb kd ∧ UpT L.T W w'))) : Calls Tryz.prog 3 #[.int .i64 kd] w fun e w' => e = .returned (.bool true) ∧ Below w.heap.size w w' := by
  have HE := Lib.hid hE
  clear hE
  go_enter Tryz.func3, Tryz.ntmps3
  go_upto_region 1 with fail
  generalize hA : World.alloc w _ = wa
  obtain ⟨kb, hkb⟩ : ∃ kb, kb = w.heap.size := ⟨_, rfl⟩
  have HA : Hid (Below w.heap.size w wa ∧ wa.cell? ⟨kb, 0, none⟩ = some (.int .i64 kd) ∧ kb < wa.heap.size) := Lib.hid (by rw [← hA, hkb]; exact ⟨(Below.refl _ _).alloc (Nat.le_refl _) _, by simp, by simp⟩)
  rw [← hkb]
  clear hA hkb
  go_upto_region 4 with (first
    | (go_at_call 10; (with_reducible refine (first21_is _).mono ?_); rintro e w1 ⟨rfl, hb1⟩; have HB1 := Lib.hid hb1; clear hb1))
  go_upto_region 5 with (first
    | (go_at_call 11; (with_reducible refine (script_ok _).mono ?_); rintro e w2 ⟨L, X, x, rfl, hs, hn, hb⟩; have HSy := Lib.hid hs.sj; have HN := Lib.hid hn.out; clear hs hn hb))
  generalize hA : World.alloc w2 _ = w3
  obtain ⟨sb, hsb⟩ : ∃ sb, sb = w2.heap.size := ⟨_, rfl⟩
  have H3 : Hid (SJ w1 w3 L X st0 ∧ w3.cell? ⟨sb, 0, none⟩ = some (.pointer (some ⟨X.s, 0, none⟩)) ∧ L.T ≤ sb) := Lib.hid (by
    have hb : Below w2.heap.size w2 w3 := by rw [← hA]; exact (Below.refl _ _).alloc (Nat.le_refl _) _
    exact ⟨HSy.out.below hb, by rw [← hA, hsb]; simp, by rw [hsb]; exact HSy.out.k.tw⟩)
  rw [← hsb]
  clear hA hsb
  have HGN : Hid (GN L X) := Lib.hid ⟨HN.out.1, HN.out.2.1, HN.out.2.2.1, HN.out.2.2.2.1, HN.out.2.2.2.2.1⟩
  have HGL : Hid (GL w1 L X sb kb) := Lib.hid ⟨H3.out.1.lo.1, H3.out.2.2, Nat.lt_of_lt_of_le HA.out.2.2 HB1.out.size, by have := H3.out.1.lo; have := H3.out.1.k.tt; omega⟩
  have HE1 := Lib.hid (HE.out.below (HA.out.1.trans (HB1.out.mono HA.out.1.size)))
  have sc := H3.out.2.1
  have sd := H3.out.1.b.c3
  go_upto_region 9 with (first
    | (go_at_call 12; (with_reducible refine (bwroot_w (D := st0) 10 (by decide) (by decide) 0 (Lib.hid rfl) (by rw [HGN.out.n]; decide) _ H3.out.1.k).mono ?_); rintro e w4 ⟨rfl, hW, hu⟩; have H4 : Hid (SJ w1 w4 L X gD1 ∧ UpT L.T w3 w4) := Lib.hid ⟨H3.out.1.step hW hu, hu.up⟩; clear hW hu))
  have HG4 : Hid (GB w4 L X sb kb kd) := Lib.hid ⟨H4.out.1.b, (World.cell?_of_block (a := ⟨sb, 0, none⟩) (H4.out.2.2 sb HGL.out.sb (cell_lt H3.out.2.1))).trans H3.out.2.1, (World.cell?_of_block (a := ⟨kb, 0, none⟩) (H4.out.1.k.bel.block kb HGL.out.kb)).trans ((HB1.out.cell (p := ⟨kb, 0, none⟩) HA.out.2.2).trans HA.out.2.1)⟩
  clear sc sd
  obtain ⟨S1, S2, S3, hp, hend⟩ := hP.out w1 L X sb kb HE1.out HGL.out HGN.out
  have HP := Lib.hid hp
  have HEnd := Lib.hid hend
  clear hp hend
  go_upto_region 10 with (first
    | (go_at_call 13; (with_reducible refine (HP.out.tk1 _ H4.out.1 HG4.out).mono ?_); rintro e w5 ⟨rfl, hs, hg, hu⟩; have H5 : Hid (S1 w5 ∧ GB w5 L X sb kb kd ∧ UpT L.T w4 w5) := Lib.hid ⟨hs, hg, hu⟩; clear hs hg hu))
  generalize hA : World.alloc w5 _ = w6
  obtain ⟨kB, hkB⟩ : ∃ kB, kB = w5.heap.size := ⟨_, rfl⟩
  have H6 : Hid (S1 w6 ∧ GB w6 L X sb kb kd ∧ KeyC w6 kB 7 0 0 0 0 ∧ L.T ≤ kB) := Lib.hid (by
    have hb : Below w5.heap.size w5 w6 := by rw [← hA]; exact (Below.refl _ _).alloc (Nat.le_refl _) _
    exact ⟨HP.out.st1 _ _ H5.out.1 hb, H5.out.2.1.below hb, by rw [← hA, hkB]; exact KeyC.new w5 7 0 0 0 0 _, by rw [hkB]; exact Nat.le_trans H4.out.1.k.tw H5.out.2.2.1⟩)
  rw [← hkB]
  clear hA hkB
  have HV1 : Hid (∀ W, Below w6.heap.size w6 W → Calls Tryz.prog 70 #[(Value.agg #[.int .i64 7, .int .i64 0, .int .i64 0, .int .i64 0, .int .u32 0])] W fun e w' => e = .returned .nilIface ∧ Below W.heap.size W w') := Lib.hid (fun W hW => nvalid_ok 7 0 0 0 0 (Lib.hid HP.out.ok) vs vr W (HE1.out.below (((HP.out.b1 _ H6.out.1)).trans (hW.mono (HP.out.b1 _ H6.out.1).size))))
  have C1 : Hid (∀ W, K13 w6 W X.s sb kB 7 0 → Calls Tryz.prog 21 #[.pointer (some ⟨X.s, 0, none⟩), (Value.agg #[.int .i64 7, .int .i64 0, .int .i64 0, .int .i64 0, .int .u32 0])] W fun e w' => e = .returned (.bool true) ∧ Below W.heap.size W w') := Lib.hid (fun W h => HP.out.lv1 W (HP.out.st1 _ _ H6.out.1 h.bel) (H6.out.2.1.below h.bel))
  have C2 : Hid (∀ W, K13 w6 W X.s sb kB 7 0 → Calls Tryz.prog 23 #[.pointer (some ⟨X.s, 0, none⟩), (Value.agg #[.int .i64 7, .int .i64 0, .int .i64 0, .int .i64 0, .int .u32 0])] W fun e w' => e = .returned (Value.agg #[.int .i64 7, .int .i64 0, .int .i64 0, .int .i64 0, .int .u32 0]) ∧ Below W.heap.size W w') := Lib.hid (fun W h => oseen_live 7 0 0 0 0 W (fun V hV => HV1.out V (h.bel.trans (hV.mono h.bel.size))) (fun V hV => C1.out V (h.below hV)))
  have C3 := Lib.hid (same13 7 0 0 0 0)
  have HAb : Hid (K13 w6 w6.drew X.s sb kB 7 0 ∧ World.cell? w6.drew ⟨sb, 0, none⟩ = some (.pointer (some ⟨X.s, 0, none⟩)) ∧ (World.cell? w6.drew ⟨kB, 0, none⟩ = some (.int .i64 7) ∧ World.cell? w6.drew ⟨kB, 1, none⟩ = some (.int .i64 0) ∧ World.cell? w6.drew ⟨kB, 2, none⟩ = some (.int .i64 0) ∧ World.cell? w6.drew ⟨kB, 3, none⟩ = some (.int .i64 0) ∧ World.cell? w6.drew ⟨kB, 4, none⟩ = some (.int .u32 0))) := Lib.hid (have hd : Below w6.heap.size w6 w6.drew := (Below.refl _ _).drew; have hk := H6.out.2.2.1.below hd; ⟨⟨hd, (H6.out.2.1.below hd).s, hk⟩, (H6.out.2.1.below hd).s, hk.five13⟩)
  go_cut [38] (fun v wx => v = .bool false ∧ K13 w6 wx X.s sb kB 7 0)
  case first =>
    go_region_held3 (fun w' => (K13 w6 w' X.s sb kB 7 0 ∧ World.cell? w' ⟨sb, 0, none⟩ = some (.pointer (some ⟨X.s, 0, none⟩)) ∧ (World.cell? w' ⟨kB, 0, none⟩ = some (.int .i64 7) ∧ World.cell? w' ⟨kB, 1, none⟩ = some (.int .i64 0) ∧ World.cell? w' ⟨kB, 2, none⟩ = some (.int .i64 0) ∧ World.cell? w' ⟨kB, 3, none⟩ = some (.int .i64 0) ∧ World.cell? w' ⟨kB, 4, none⟩ = some (.int .u32 0)))) (first | exact HAb.out | exact sa13 (by assumption) hb) (first
      | (go_at_call 21; (with_reducible refine (C1.out _ (And.left (by assumption))).mono ?_); rintro e w' ⟨rfl, hb⟩)
      | (go_at_call 23; (with_reducible refine (C2.out _ (And.left (by assumption))).mono ?_); rintro e w' ⟨rfl, hb⟩)
      | (go_at_call 22; (with_reducible refine (C3.out _).mono ?_); rintro e w' ⟨rfl, hb⟩))
    go_wp2_with fail
    go_meet
    refine ⟨rfl, ?_⟩
    apply And.left
    assumption
  case rest =>
    obtain ⟨rfl, hk⟩ := hcut
    have H7 : Hid (S1 wc ∧ GB wc L X sb kb kd ∧ KeyC wc kB 7 0 0 0 0) := Lib.hid ⟨HP.out.st1 _ _ H6.out.1 hk.bel, H6.out.2.1.below hk.bel, hk.k⟩
    clear hk HAb C1 C2
    have q0 := H7.out.2.2.c0
    have q1 := H7.out.2.1.s
    have q2 := H7.out.2.1.b.c2
    go_upto_region 18 with (first
      | (go_at_call 24; (with_reducible refine (HEnd.out _ H7.out.1 H7.out.2.1).mono ?_); rintro e w8 ⟨rfl, hs, hg, hu⟩; have H8 : Hid (S2 w8 ∧ GB w8 L X sb kb kd ∧ KeyC w8 kB 7 0 0 0 0) := Lib.hid ⟨hs, hg, H7.out.2.2.upt hu H6.out.2.2.2⟩; clear hs hg hu))
    clear q0 q1 q2
    go_upto_region 19 with fail; generalize hA : World.alloc w8 _ = w9; obtain ⟨vB, hvB⟩ : ∃ vB, vB = w8.heap.size := ⟨_, rfl⟩; have H9 : Hid (S2 w9 ∧ GB w9 L X sb kb kd ∧ KeyC w9 kB 7 0 0 0 0 ∧ KeyC w9 vB 0 0 0 0 0) := (Lib.hid (by have hb : Below w8.heap.size w8 w9 := (by rw [← hA]; exact (Below.refl _ _).alloc (Nat.le_refl _) _); exact ⟨HP.out.st2 _ _ H8.out.1 hb, H8.out.2.1.below hb, H8.out.2.2.below hb, by rw [← hA, hvB]; exact KeyC.new w8 0 0 0 0 0 _⟩)); rw [← hvB]; clear hA hvB; have hB2 : Hid (∀ W, S2 W → Below w1.heap.size w1 W) := Lib.hid HP.out.b2; have HV2 : Hid (∀ W, Below w9.heap.size w9 W → Calls Tryz.prog 70 #[(Value.agg #[.int .i64 7, .int .i64 0, .int .i64 0, .int .i64 0, .int .u32 0])] W fun e w' => e = .returned .nilIface ∧ Below W.heap.size W w') := (Lib.hid (fun W hW => nvalid_ok 7 0 0 0 0 (Lib.hid HP.out.ok) vs vr W (HE1.out.below ((hB2.out _ H9.out.1).trans (hW.mono (hB2.out _ H9.out.1).size))))); have C1 : Hid (∀ W, K14 w9 W X.s sb kB vB 7 0 0 0 0 → Calls Tryz.prog 21 #[.pointer (some ⟨X.s, 0, none⟩), (Value.agg #[.int .i64 7, .int .i64 0, .int .i64 0, .int .i64 0, .int .u32 0])] W fun e w' => e = .returned (.bool false) ∧ Below W.heap.size W w') := (Lib.hid (fun W h => HP.out.lv2 W (HP.out.st2 _ _ H9.out.1 h.bel) (H9.out.2.1.below h.bel))); have C2 : Hid (∀ W, K14 w9 W X.s sb kB vB 7 0 0 0 0 → Calls Tryz.prog 23 #[.pointer (some ⟨X.s, 0, none⟩), (Value.agg #[.int .i64 7, .int .i64 0, .int .i64 0, .int .i64 0, .int .u32 0])] W fun e w' => e = .returned (Value.agg #[.int .i64 0, .int .i64 0, .int .i64 0, .int .i64 0, .int .u32 0]) ∧ Below W.heap.size W w') := (Lib.hid (fun W h => oseen_dead 7 0 0 0 0 W (fun V hV => HV2.out V (h.bel.trans (hV.mono h.bel.size))) (fun V hV => C1.out V (h.below hV)))); have C3 := Lib.hid (same13 0 0 0 0 0); have HAb : Hid (K14 w9 w9.drew X.s sb kB vB 7 0 0 0 0 ∧ World.cell? w9.drew ⟨sb, 0, none⟩ = some (.pointer (some ⟨X.s, 0, none⟩)) ∧ (World.cell? w9.drew ⟨kB, 0, none⟩ = some (.int .i64 7) ∧ World.cell? w9.drew ⟨kB, 1, none⟩ = some (.int .i64 0) ∧ World.cell? w9.drew ⟨kB, 2, none⟩ = some (.int .i64 0) ∧ World.cell? w9.drew ⟨kB, 3, none⟩ = some (.int .i64 0) ∧ World.cell? w9.drew ⟨kB, 4, none⟩ = some (.int .u32 0)) ∧ (World.cell? w9.drew ⟨vB, 0, none⟩ = some (.int .i64 0) ∧ World.cell? w9.drew ⟨vB, 1, none⟩ = some (.int .i64 0) ∧ World.cell? w9.drew ⟨vB, 2, none⟩ = some (.int .i64 0) ∧ World.cell? w9.drew ⟨vB, 3, none⟩ = some (.int .i64 0) ∧ World.cell? w9.drew ⟨vB, 4, none⟩ = some (.int .u32 0))) := (Lib.hid (have hd : Below w9.heap.size w9 w9.drew := (Below.refl _ _).drew; have hk := H9.out.2.2.1.below hd; have hv := H9.out.2.2.2.below hd; ⟨⟨hd, (H9.out.2.1.below hd).s, hk, hv⟩, (H9.out.2.1.below hd).s, hk.five13, hv.five13⟩))
    go_cut [72] (fun v wx => v = .bool false ∧ K14 w9 wx X.s sb kB vB 7 0 0 0 0)
    case first =>
      go_region_held3 (fun w' => (K14 w9 w' X.s sb kB vB 7 0 0 0 0 ∧ World.cell? w' ⟨sb, 0, none⟩ = some (.pointer (some ⟨X.s, 0, none⟩)) ∧ (World.cell? w' ⟨kB, 0, none⟩ = some (.int .i64 7) ∧ World.cell? w' ⟨kB, 1, none⟩ = some (.int .i64 0) ∧ World.cell? w' ⟨kB, 2, none⟩ = some (.int .i64 0) ∧ World.cell? w' ⟨kB, 3, none⟩ = some (.int .i64 0) ∧ World.cell? w' ⟨kB, 4, none⟩ = some (.int .u32 0)) ∧ (World.cell? w' ⟨vB, 0, none⟩ = some (.int .i64 0) ∧ World.cell? w' ⟨vB, 1, none⟩ = some (.int .i64 0) ∧ World.cell? w' ⟨vB, 2, none⟩ = some (.int .i64 0) ∧ World.cell? w' ⟨vB, 3, none⟩ = some (.int .i64 0) ∧ World.cell? w' ⟨vB, 4, none⟩ = some (.int .u32 0)))) (first | exact HAb.out | exact sb13 (by assumption) hb) (first
        | (go_at_call 21; (with_reducible refine (C1.out _ (And.left (by assumption))).mono ?_); rintro e w' ⟨rfl, hb⟩)
        | (go_at_call 23; (with_reducible refine (C2.out _ (And.left (by assumption))).mono ?_); rintro e w' ⟨rfl, hb⟩)
        | (go_at_call 22; (with_reducible refine (C3.out _).mono ?_); rintro e w' ⟨rfl, hb⟩))
      go_wp2_with fail
      go_meet
      refine ⟨rfl, ?_⟩
      apply And.left
      assumption
    case rest =>
      obtain ⟨rfl, hk⟩ := hcut
      have H10 : Hid (S2 wc ∧ GB wc L X sb kb kd ∧ KeyC wc kB 7 0 0 0 0) := Lib.hid ⟨HP.out.st2 _ _ H9.out.1 hk.bel, H9.out.2.1.below hk.bel, hk.k⟩
      clear hk HAb C1 C2
      go_upto_region 22 with (first
        | (go_at_call 13; (with_reducible refine (HP.out.tk2 _ H10.out.1 H10.out.2.1).mono ?_); rintro e w11 ⟨rfl, hs, hg, hu⟩; have H11 : Hid (S3 w11 ∧ GB w11 L X sb kb kd ∧ KeyC w11 kB 7 0 0 0 0) := Lib.hid ⟨hs, hg, H10.out.2.2.upt hu H6.out.2.2.2⟩; clear hs hg hu))
      generalize hA : World.alloc w11 _ = w12
      obtain ⟨aB, haB⟩ : ∃ aB, aB = w11.heap.size := ⟨_, rfl⟩
      have H12 : Hid (S3 w12 ∧ GB w12 L X sb kb kd ∧ KeyC w12 kB 7 0 0 0 0 ∧ KeyC w12 aB 7 0 1 0 0) := Lib.hid (by
        have hb : Below w11.heap.size w11 w12 := by rw [← hA]; exact (Below.refl _ _).alloc (Nat.le_refl _) _
        exact ⟨HP.out.st3 _ _ H11.out.1 hb, H11.out.2.1.below hb, H11.out.2.2.below hb, by rw [← hA, haB]; exact KeyC.new w11 7 0 1 0 0 _⟩)
      rw [← haB]
      clear hA haB
      have C1 : Hid (∀ W, K14 w12 W X.s sb kB aB 7 0 7 0 1 → Calls Tryz.prog 21 #[.pointer (some ⟨X.s, 0, none⟩), (Value.agg #[.int .i64 7, .int .i64 0, .int .i64 1, .int .i64 0, .int .u32 0])] W fun e w' => e = .returned (.bool true) ∧ Below W.heap.size W w') := Lib.hid (fun W h => HP.out.lv3 W (HP.out.st3 _ _ H12.out.1 h.bel) (H12.out.2.1.below h.bel))
      have C2 : Hid (∀ W, K14 w12 W X.s sb kB aB 7 0 7 0 1 → Calls Tryz.prog 21 #[.pointer (some ⟨X.s, 0, none⟩), (Value.agg #[.int .i64 7, .int .i64 0, .int .i64 0, .int .i64 0, .int .u32 0])] W fun e w' => e = .returned (.bool false) ∧ Below W.heap.size W w') := Lib.hid (fun W h => HP.out.lv4 W (HP.out.st3 _ _ H12.out.1 h.bel) (H12.out.2.1.below h.bel))
      have H12k : Hid (K14 w12 w12 X.s sb kB aB 7 0 7 0 1) := Lib.hid ⟨Below.refl _ _, H12.out.2.1.s, H12.out.2.2.1, H12.out.2.2.2⟩
      have hw1 : IntKind.i64.wrap 1 = 1 := by decide
      have c5 := H12k.out.s
      obtain ⟨p0, p1, p2, p3, p4⟩ := H12k.out.k.five13
      obtain ⟨r0, r1, r2, r3, r4⟩ := H12k.out.m.five13
      go_wp2_with (first
        | (go_at_call 21; (with_reducible refine (C1.out _ H12k.out).mono ?_); rintro e w13 ⟨rfl, hb⟩; have H13 := Lib.hid (H12k.out.below hb); clear hb c5 p0 p1 p2 p3 p4 r0 r1 r2 r3 r4; have c5 := H13.out.s; obtain ⟨p0, p1, p2, p3, p4⟩ := H13.out.k.five13; obtain ⟨r0, r1, r2, r3, r4⟩ := H13.out.m.five13)
        | (go_at_call 21; (with_reducible refine (C2.out _ H13.out).mono ?_); rintro e w14 ⟨rfl, hb⟩; have H14 := Lib.hid (H13.out.below hb); clear hb c5 p0 p1 p2 p3 p4 r0 r1 r2 r3 r4; have c5 := H14.out.s; obtain ⟨p0, p1, p2, p3, p4⟩ := H14.out.k.five13; obtain ⟨r0, r1, r2, r3, r4⟩ := H14.out.m.five13))
      go_ret
      exact ⟨rfl, (HA.out.1.trans (HB1.out.mono HA.out.1.size)).trans (Below.mono ((HP.out.b3 _ H12.out.1).trans (Below.mono H14.out.bel (HP.out.b3 _ H12.out.1).size)) (HA.out.1.trans (HB1.out.mono HA.out.1.size)).size)⟩
set_option maxRecDepth 100000 in
set_option maxHeartbeats 4000000 in
theorem gone_bank (kd : Int) (vs vr : Value) (w : World) (hE : ErrsAt vs vr w) (hP : Hid (∀ w0 L X sb kb, ErrsAt vs vr w0 → GL w0 L X sb kb → GN L X → ∃ S1 S2 S3, GP w0 L X sb kb kd 8 1 S1 S2 S3 ∧ (∀ W, S1 W → GB W L X sb kb kd → Calls Tryz.prog 25 #[.pointer (some ⟨L.P, 0, none⟩), .int .i64 1] W fun e w' => e = .returned (.tuple #[.int .i64 0, .nilIface]) ∧ S2 w' ∧ GB w' L X sb kb kd ∧ UpT L.T W w'))) : Calls Tryz.prog 3 #[.int .i64 kd] w fun e w' => e = .returned (.bool true) ∧ Below w.heap.size w w' := by
  have HE := Lib.hid hE
  clear hE
  go_enter Tryz.func3, Tryz.ntmps3
  go_upto_region 1 with fail
  generalize hA : World.alloc w _ = wa
  obtain ⟨kb, hkb⟩ : ∃ kb, kb = w.heap.size := ⟨_, rfl⟩
  have HA : Hid (Below w.heap.size w wa ∧ wa.cell? ⟨kb, 0, none⟩ = some (.int .i64 kd) ∧ kb < wa.heap.size) := Lib.hid (by rw [← hA, hkb]; exact ⟨(Below.refl _ _).alloc (Nat.le_refl _) _, by simp, by simp⟩)
  rw [← hkb]
  clear hA hkb
  go_upto_region 4 with (first
    | (go_at_call 10; (with_reducible refine (first21_is _).mono ?_); rintro e w1 ⟨rfl, hb1⟩; have HB1 := Lib.hid hb1; clear hb1))
  go_upto_region 5 with (first
    | (go_at_call 11; (with_reducible refine (script_ok _).mono ?_); rintro e w2 ⟨L, X, x, rfl, hs, hn, hb⟩; have HSy := Lib.hid hs.sj; have HN := Lib.hid hn.out; clear hs hn hb))
  generalize hA : World.alloc w2 _ = w3
  obtain ⟨sb, hsb⟩ : ∃ sb, sb = w2.heap.size := ⟨_, rfl⟩
  have H3 : Hid (SJ w1 w3 L X st0 ∧ w3.cell? ⟨sb, 0, none⟩ = some (.pointer (some ⟨X.s, 0, none⟩)) ∧ L.T ≤ sb) := Lib.hid (by
    have hb : Below w2.heap.size w2 w3 := by rw [← hA]; exact (Below.refl _ _).alloc (Nat.le_refl _) _
    exact ⟨HSy.out.below hb, by rw [← hA, hsb]; simp, by rw [hsb]; exact HSy.out.k.tw⟩)
  rw [← hsb]
  clear hA hsb
  have HGN : Hid (GN L X) := Lib.hid ⟨HN.out.1, HN.out.2.1, HN.out.2.2.1, HN.out.2.2.2.1, HN.out.2.2.2.2.1⟩
  have HGL : Hid (GL w1 L X sb kb) := Lib.hid ⟨H3.out.1.lo.1, H3.out.2.2, Nat.lt_of_lt_of_le HA.out.2.2 HB1.out.size, by have := H3.out.1.lo; have := H3.out.1.k.tt; omega⟩
  have HE1 := Lib.hid (HE.out.below (HA.out.1.trans (HB1.out.mono HA.out.1.size)))
  have sc := H3.out.2.1
  have sd := H3.out.1.b.c3
  go_upto_region 9 with (first
    | (go_at_call 12; (with_reducible refine (bwroot_w (D := st0) 10 (by decide) (by decide) 0 (Lib.hid rfl) (by rw [HGN.out.n]; decide) _ H3.out.1.k).mono ?_); rintro e w4 ⟨rfl, hW, hu⟩; have H4 : Hid (SJ w1 w4 L X gD1 ∧ UpT L.T w3 w4) := Lib.hid ⟨H3.out.1.step hW hu, hu.up⟩; clear hW hu))
  have HG4 : Hid (GB w4 L X sb kb kd) := Lib.hid ⟨H4.out.1.b, (World.cell?_of_block (a := ⟨sb, 0, none⟩) (H4.out.2.2 sb HGL.out.sb (cell_lt H3.out.2.1))).trans H3.out.2.1, (World.cell?_of_block (a := ⟨kb, 0, none⟩) (H4.out.1.k.bel.block kb HGL.out.kb)).trans ((HB1.out.cell (p := ⟨kb, 0, none⟩) HA.out.2.2).trans HA.out.2.1)⟩
  clear sc sd
  obtain ⟨S1, S2, S3, hp, hend⟩ := hP.out w1 L X sb kb HE1.out HGL.out HGN.out
  have HP := Lib.hid hp
  have HEnd := Lib.hid hend
  clear hp hend
  go_upto_region 10 with (first
    | (go_at_call 13; (with_reducible refine (HP.out.tk1 _ H4.out.1 HG4.out).mono ?_); rintro e w5 ⟨rfl, hs, hg, hu⟩; have H5 : Hid (S1 w5 ∧ GB w5 L X sb kb kd ∧ UpT L.T w4 w5) := Lib.hid ⟨hs, hg, hu⟩; clear hs hg hu))
  generalize hA : World.alloc w5 _ = w6
  obtain ⟨kB, hkB⟩ : ∃ kB, kB = w5.heap.size := ⟨_, rfl⟩
  have H6 : Hid (S1 w6 ∧ GB w6 L X sb kb kd ∧ KeyC w6 kB 8 1 0 0 0 ∧ L.T ≤ kB) := Lib.hid (by
    have hb : Below w5.heap.size w5 w6 := by rw [← hA]; exact (Below.refl _ _).alloc (Nat.le_refl _) _
    exact ⟨HP.out.st1 _ _ H5.out.1 hb, H5.out.2.1.below hb, by rw [← hA, hkB]; exact KeyC.new w5 8 1 0 0 0 _, by rw [hkB]; exact Nat.le_trans H4.out.1.k.tw H5.out.2.2.1⟩)
  rw [← hkB]
  clear hA hkB
  have HV1 : Hid (∀ W, Below w6.heap.size w6 W → Calls Tryz.prog 70 #[(Value.agg #[.int .i64 8, .int .i64 1, .int .i64 0, .int .i64 0, .int .u32 0])] W fun e w' => e = .returned .nilIface ∧ Below W.heap.size W w') := Lib.hid (fun W hW => nvalid_ok 8 1 0 0 0 (Lib.hid HP.out.ok) vs vr W (HE1.out.below (((HP.out.b1 _ H6.out.1)).trans (hW.mono (HP.out.b1 _ H6.out.1).size))))
  have C1 : Hid (∀ W, K13 w6 W X.s sb kB 8 1 → Calls Tryz.prog 21 #[.pointer (some ⟨X.s, 0, none⟩), (Value.agg #[.int .i64 8, .int .i64 1, .int .i64 0, .int .i64 0, .int .u32 0])] W fun e w' => e = .returned (.bool true) ∧ Below W.heap.size W w') := Lib.hid (fun W h => HP.out.lv1 W (HP.out.st1 _ _ H6.out.1 h.bel) (H6.out.2.1.below h.bel))
  have C2 : Hid (∀ W, K13 w6 W X.s sb kB 8 1 → Calls Tryz.prog 23 #[.pointer (some ⟨X.s, 0, none⟩), (Value.agg #[.int .i64 8, .int .i64 1, .int .i64 0, .int .i64 0, .int .u32 0])] W fun e w' => e = .returned (Value.agg #[.int .i64 8, .int .i64 1, .int .i64 0, .int .i64 0, .int .u32 0]) ∧ Below W.heap.size W w') := Lib.hid (fun W h => oseen_live 8 1 0 0 0 W (fun V hV => HV1.out V (h.bel.trans (hV.mono h.bel.size))) (fun V hV => C1.out V (h.below hV)))
  have C3 := Lib.hid (same13 8 1 0 0 0)
  have HAb : Hid (K13 w6 w6.drew X.s sb kB 8 1 ∧ World.cell? w6.drew ⟨sb, 0, none⟩ = some (.pointer (some ⟨X.s, 0, none⟩)) ∧ (World.cell? w6.drew ⟨kB, 0, none⟩ = some (.int .i64 8) ∧ World.cell? w6.drew ⟨kB, 1, none⟩ = some (.int .i64 1) ∧ World.cell? w6.drew ⟨kB, 2, none⟩ = some (.int .i64 0) ∧ World.cell? w6.drew ⟨kB, 3, none⟩ = some (.int .i64 0) ∧ World.cell? w6.drew ⟨kB, 4, none⟩ = some (.int .u32 0))) := Lib.hid (have hd : Below w6.heap.size w6 w6.drew := (Below.refl _ _).drew; have hk := H6.out.2.2.1.below hd; ⟨⟨hd, (H6.out.2.1.below hd).s, hk⟩, (H6.out.2.1.below hd).s, hk.five13⟩)
  go_cut [38] (fun v wx => v = .bool false ∧ K13 w6 wx X.s sb kB 8 1)
  case first =>
    go_region_held3 (fun w' => (K13 w6 w' X.s sb kB 8 1 ∧ World.cell? w' ⟨sb, 0, none⟩ = some (.pointer (some ⟨X.s, 0, none⟩)) ∧ (World.cell? w' ⟨kB, 0, none⟩ = some (.int .i64 8) ∧ World.cell? w' ⟨kB, 1, none⟩ = some (.int .i64 1) ∧ World.cell? w' ⟨kB, 2, none⟩ = some (.int .i64 0) ∧ World.cell? w' ⟨kB, 3, none⟩ = some (.int .i64 0) ∧ World.cell? w' ⟨kB, 4, none⟩ = some (.int .u32 0)))) (first | exact HAb.out | exact sa13 (by assumption) hb) (first
      | (go_at_call 21; (with_reducible refine (C1.out _ (And.left (by assumption))).mono ?_); rintro e w' ⟨rfl, hb⟩)
      | (go_at_call 23; (with_reducible refine (C2.out _ (And.left (by assumption))).mono ?_); rintro e w' ⟨rfl, hb⟩)
      | (go_at_call 22; (with_reducible refine (C3.out _).mono ?_); rintro e w' ⟨rfl, hb⟩))
    go_wp2_with fail
    go_meet
    refine ⟨rfl, ?_⟩
    apply And.left
    assumption
  case rest =>
    obtain ⟨rfl, hk⟩ := hcut
    have H7 : Hid (S1 wc ∧ GB wc L X sb kb kd ∧ KeyC wc kB 8 1 0 0 0) := Lib.hid ⟨HP.out.st1 _ _ H6.out.1 hk.bel, H6.out.2.1.below hk.bel, hk.k⟩
    clear hk HAb C1 C2
    have q0 := H7.out.2.2.c0
    have q1 := H7.out.2.1.s
    have q2 := H7.out.2.1.b.c3
    go_upto_region 18 with (first
      | (go_at_call 25; (with_reducible refine (HEnd.out _ H7.out.1 H7.out.2.1).mono ?_); rintro e w8 ⟨rfl, hs, hg, hu⟩; have H8 : Hid (S2 w8 ∧ GB w8 L X sb kb kd ∧ KeyC w8 kB 8 1 0 0 0) := Lib.hid ⟨hs, hg, H7.out.2.2.upt hu H6.out.2.2.2⟩; clear hs hg hu))
    clear q0 q1 q2
    go_upto_region 19 with fail; generalize hA : World.alloc w8 _ = w9; obtain ⟨vB, hvB⟩ : ∃ vB, vB = w8.heap.size := ⟨_, rfl⟩; have H9 : Hid (S2 w9 ∧ GB w9 L X sb kb kd ∧ KeyC w9 kB 8 1 0 0 0 ∧ KeyC w9 vB 0 0 0 0 0) := (Lib.hid (by have hb : Below w8.heap.size w8 w9 := (by rw [← hA]; exact (Below.refl _ _).alloc (Nat.le_refl _) _); exact ⟨HP.out.st2 _ _ H8.out.1 hb, H8.out.2.1.below hb, H8.out.2.2.below hb, by rw [← hA, hvB]; exact KeyC.new w8 0 0 0 0 0 _⟩)); rw [← hvB]; clear hA hvB; have hB2 : Hid (∀ W, S2 W → Below w1.heap.size w1 W) := Lib.hid HP.out.b2; have HV2 : Hid (∀ W, Below w9.heap.size w9 W → Calls Tryz.prog 70 #[(Value.agg #[.int .i64 8, .int .i64 1, .int .i64 0, .int .i64 0, .int .u32 0])] W fun e w' => e = .returned .nilIface ∧ Below W.heap.size W w') := (Lib.hid (fun W hW => nvalid_ok 8 1 0 0 0 (Lib.hid HP.out.ok) vs vr W (HE1.out.below ((hB2.out _ H9.out.1).trans (hW.mono (hB2.out _ H9.out.1).size))))); have C1 : Hid (∀ W, K14 w9 W X.s sb kB vB 8 1 0 0 0 → Calls Tryz.prog 21 #[.pointer (some ⟨X.s, 0, none⟩), (Value.agg #[.int .i64 8, .int .i64 1, .int .i64 0, .int .i64 0, .int .u32 0])] W fun e w' => e = .returned (.bool false) ∧ Below W.heap.size W w') := (Lib.hid (fun W h => HP.out.lv2 W (HP.out.st2 _ _ H9.out.1 h.bel) (H9.out.2.1.below h.bel))); have C2 : Hid (∀ W, K14 w9 W X.s sb kB vB 8 1 0 0 0 → Calls Tryz.prog 23 #[.pointer (some ⟨X.s, 0, none⟩), (Value.agg #[.int .i64 8, .int .i64 1, .int .i64 0, .int .i64 0, .int .u32 0])] W fun e w' => e = .returned (Value.agg #[.int .i64 0, .int .i64 0, .int .i64 0, .int .i64 0, .int .u32 0]) ∧ Below W.heap.size W w') := (Lib.hid (fun W h => oseen_dead 8 1 0 0 0 W (fun V hV => HV2.out V (h.bel.trans (hV.mono h.bel.size))) (fun V hV => C1.out V (h.below hV)))); have C3 := Lib.hid (same13 0 0 0 0 0); have HAb : Hid (K14 w9 w9.drew X.s sb kB vB 8 1 0 0 0 ∧ World.cell? w9.drew ⟨sb, 0, none⟩ = some (.pointer (some ⟨X.s, 0, none⟩)) ∧ (World.cell? w9.drew ⟨kB, 0, none⟩ = some (.int .i64 8) ∧ World.cell? w9.drew ⟨kB, 1, none⟩ = some (.int .i64 1) ∧ World.cell? w9.drew ⟨kB, 2, none⟩ = some (.int .i64 0) ∧ World.cell? w9.drew ⟨kB, 3, none⟩ = some (.int .i64 0) ∧ World.cell? w9.drew ⟨kB, 4, none⟩ = some (.int .u32 0)) ∧ (World.cell? w9.drew ⟨vB, 0, none⟩ = some (.int .i64 0) ∧ World.cell? w9.drew ⟨vB, 1, none⟩ = some (.int .i64 0) ∧ World.cell? w9.drew ⟨vB, 2, none⟩ = some (.int .i64 0) ∧ World.cell? w9.drew ⟨vB, 3, none⟩ = some (.int .i64 0) ∧ World.cell? w9.drew ⟨vB, 4, none⟩ = some (.int .u32 0))) := (Lib.hid (have hd : Below w9.heap.size w9 w9.drew := (Below.refl _ _).drew; have hk := H9.out.2.2.1.below hd; have hv := H9.out.2.2.2.below hd; ⟨⟨hd, (H9.out.2.1.below hd).s, hk, hv⟩, (H9.out.2.1.below hd).s, hk.five13, hv.five13⟩))
    go_cut [72] (fun v wx => v = .bool false ∧ K14 w9 wx X.s sb kB vB 8 1 0 0 0)
    case first =>
      go_region_held3 (fun w' => (K14 w9 w' X.s sb kB vB 8 1 0 0 0 ∧ World.cell? w' ⟨sb, 0, none⟩ = some (.pointer (some ⟨X.s, 0, none⟩)) ∧ (World.cell? w' ⟨kB, 0, none⟩ = some (.int .i64 8) ∧ World.cell? w' ⟨kB, 1, none⟩ = some (.int .i64 1) ∧ World.cell? w' ⟨kB, 2, none⟩ = some (.int .i64 0) ∧ World.cell? w' ⟨kB, 3, none⟩ = some (.int .i64 0) ∧ World.cell? w' ⟨kB, 4, none⟩ = some (.int .u32 0)) ∧ (World.cell? w' ⟨vB, 0, none⟩ = some (.int .i64 0) ∧ World.cell? w' ⟨vB, 1, none⟩ = some (.int .i64 0) ∧ World.cell? w' ⟨vB, 2, none⟩ = some (.int .i64 0) ∧ World.cell? w' ⟨vB, 3, none⟩ = some (.int .i64 0) ∧ World.cell? w' ⟨vB, 4, none⟩ = some (.int .u32 0)))) (first | exact HAb.out | exact sb13 (by assumption) hb) (first
        | (go_at_call 21; (with_reducible refine (C1.out _ (And.left (by assumption))).mono ?_); rintro e w' ⟨rfl, hb⟩)
        | (go_at_call 23; (with_reducible refine (C2.out _ (And.left (by assumption))).mono ?_); rintro e w' ⟨rfl, hb⟩)
        | (go_at_call 22; (with_reducible refine (C3.out _).mono ?_); rintro e w' ⟨rfl, hb⟩))
      go_wp2_with fail
      go_meet
      refine ⟨rfl, ?_⟩
      apply And.left
      assumption
    case rest =>
      obtain ⟨rfl, hk⟩ := hcut
      have H10 : Hid (S2 wc ∧ GB wc L X sb kb kd ∧ KeyC wc kB 8 1 0 0 0) := Lib.hid ⟨HP.out.st2 _ _ H9.out.1 hk.bel, H9.out.2.1.below hk.bel, hk.k⟩
      clear hk HAb C1 C2
      go_upto_region 22 with (first
        | (go_at_call 13; (with_reducible refine (HP.out.tk2 _ H10.out.1 H10.out.2.1).mono ?_); rintro e w11 ⟨rfl, hs, hg, hu⟩; have H11 : Hid (S3 w11 ∧ GB w11 L X sb kb kd ∧ KeyC w11 kB 8 1 0 0 0) := Lib.hid ⟨hs, hg, H10.out.2.2.upt hu H6.out.2.2.2⟩; clear hs hg hu))
      generalize hA : World.alloc w11 _ = w12
      obtain ⟨aB, haB⟩ : ∃ aB, aB = w11.heap.size := ⟨_, rfl⟩
      have H12 : Hid (S3 w12 ∧ GB w12 L X sb kb kd ∧ KeyC w12 kB 8 1 0 0 0 ∧ KeyC w12 aB 8 1 1 0 0) := Lib.hid (by
        have hb : Below w11.heap.size w11 w12 := by rw [← hA]; exact (Below.refl _ _).alloc (Nat.le_refl _) _
        exact ⟨HP.out.st3 _ _ H11.out.1 hb, H11.out.2.1.below hb, H11.out.2.2.below hb, by rw [← hA, haB]; exact KeyC.new w11 8 1 1 0 0 _⟩)
      rw [← haB]
      clear hA haB
      have C1 : Hid (∀ W, K14 w12 W X.s sb kB aB 8 1 8 1 1 → Calls Tryz.prog 21 #[.pointer (some ⟨X.s, 0, none⟩), (Value.agg #[.int .i64 8, .int .i64 1, .int .i64 1, .int .i64 0, .int .u32 0])] W fun e w' => e = .returned (.bool true) ∧ Below W.heap.size W w') := Lib.hid (fun W h => HP.out.lv3 W (HP.out.st3 _ _ H12.out.1 h.bel) (H12.out.2.1.below h.bel))
      have C2 : Hid (∀ W, K14 w12 W X.s sb kB aB 8 1 8 1 1 → Calls Tryz.prog 21 #[.pointer (some ⟨X.s, 0, none⟩), (Value.agg #[.int .i64 8, .int .i64 1, .int .i64 0, .int .i64 0, .int .u32 0])] W fun e w' => e = .returned (.bool false) ∧ Below W.heap.size W w') := Lib.hid (fun W h => HP.out.lv4 W (HP.out.st3 _ _ H12.out.1 h.bel) (H12.out.2.1.below h.bel))
      have H12k : Hid (K14 w12 w12 X.s sb kB aB 8 1 8 1 1) := Lib.hid ⟨Below.refl _ _, H12.out.2.1.s, H12.out.2.2.1, H12.out.2.2.2⟩
      have hw1 : IntKind.i64.wrap 1 = 1 := by decide
      have c5 := H12k.out.s
      obtain ⟨p0, p1, p2, p3, p4⟩ := H12k.out.k.five13
      obtain ⟨r0, r1, r2, r3, r4⟩ := H12k.out.m.five13
      go_wp2_with (first
        | (go_at_call 21; (with_reducible refine (C1.out _ H12k.out).mono ?_); rintro e w13 ⟨rfl, hb⟩; have H13 := Lib.hid (H12k.out.below hb); clear hb c5 p0 p1 p2 p3 p4 r0 r1 r2 r3 r4; have c5 := H13.out.s; obtain ⟨p0, p1, p2, p3, p4⟩ := H13.out.k.five13; obtain ⟨r0, r1, r2, r3, r4⟩ := H13.out.m.five13)
        | (go_at_call 21; (with_reducible refine (C2.out _ H13.out).mono ?_); rintro e w14 ⟨rfl, hb⟩; have H14 := Lib.hid (H13.out.below hb); clear hb c5 p0 p1 p2 p3 p4 r0 r1 r2 r3 r4; have c5 := H14.out.s; obtain ⟨p0, p1, p2, p3, p4⟩ := H14.out.k.five13; obtain ⟨r0, r1, r2, r3, r4⟩ := H14.out.m.five13))
      go_ret
      exact ⟨rfl, (HA.out.1.trans (HB1.out.mono HA.out.1.size)).trans (Below.mono ((HP.out.b3 _ H12.out.1).trans (Below.mono H14.out.bel (HP.out.b3 _ H12.out.1).size)) (HA.out.1.trans (HB1.out.mono HA.out.1.size)).size)⟩
end Go.Proofs.YtncopdhhchmpeaaGreatDoor
namespace Go.Proofs.YtncopdhhchmpeaaGreatDoor
open Go.ChangeShapes Go.WideShapes Go.ChangeAt Go.RowKit
set_option linter.unusedVariables false
set_option linter.unusedSimpArgs false
theorem gd1_rd : RD 0 gD1 := ⟨rfl, rfl, rfl, fun i => by simp [gD1, openedB, st0, upd]⟩
section
variable {w0 : World} {L : BLoc} {X : SLoc} {sb kb : Nat} {kd : Int} {vs vr : Value}
theorem pack_node (CR : Hid (∀ w, Calls Tryz.prog 14 #[.int .i64 kd, .int .i64 5] w fun e w' => e = .returned (.int .i64 0) ∧ w = w')) (hE : ErrsAt vs vr w0) (hl : GL w0 L X sb kb) (hn : GN L X) : ∃ S1 S2 S3, GP w0 L X sb kb kd 2 0 S1 S2 S3 ∧ (∀ W, S1 W → GB W L X sb kb kd → Calls Tryz.prog 26 #[.pointer (some ⟨L.P, 0, none⟩), .int .i64 0, (Value.agg #[.int .i64 2, .int .i64 0, .int .i64 0, .int .i64 0, .int .u32 0])] W fun e w' => e = .returned .nilIface ∧ S2 w' ∧ GB w' L X sb kb kd ∧ UpT L.T W w') := by
  have hz : 0 < L.a.n := by rw [hn.a]; decide
  have HE : ∀ D V, BW w0 V L D → ErrsAt vs vr V := fun D V h => hE.below h.bel
  have HE2 : ∀ z t v V, GnS z t v w0 L V → ErrsAt vs vr V := fun z t v V h => hE.below h.bel
  exact ⟨GnS 1 true 0 w0 L, GnS 2 false 1 w0 L, GnS 3 true 1 w0 L, ⟨fun W W' h hb => h.below hb, fun W W' h hb => h.below hb, fun W W' h hb => h.below hb, fun W hj hg => taken_node CR 0 0 0 W hg hj.k.tw (fun V V' h hb => h.high (hb.mono hj.k.tw)) (fun V hV => (GnS.take (z := 0) (v := 0) (by decide) (by decide) hz vs vr V (by first | exact HE _ _ (hj.k.below hV) | exact HE2 _ _ _ _ (h.below hV)) ⟨gD1, hj.k.below hV, gd1_rd, rfl, rfl, fun e => (by cases e)⟩).mono (fun e w' h => ⟨h.1, h.2.1, (hg.below hV).step hl h.2.2 (hj.k.below hV).bel h.2.1.bel, h.2.2⟩)) (fun V h hg => GnS.key hz V h hg), fun W h hg => GnS.live hz (by simp) W h hg, fun W h hg => GnS.live hz (by simp) W h hg, fun W h hg => taken_node CR 0 1 1 W hg h.tw (fun V V' h' hb => h'.high (hb.mono h.tw)) (fun V hV => (GnS.take (z := 2) (v := 1) (by decide) (by decide) hz vs vr V (by first | exact HE _ _ (hj.k.below hV) | exact HE2 _ _ _ _ (h.below hV)) (h.below hV)).mono (fun e w' h2 => ⟨h2.1, h2.2.1, (hg.below hV).step hl h2.2.2 (h.below hV).bel h2.2.1.bel, h2.2.2⟩)) (fun V h hg => GnS.key hz V h hg), fun W h hg => GnS.live hz (by simp) W h hg, fun W h hg => GnS.live hz (by simp) W h hg, by decide, fun W h => h.bel, fun W h => h.bel, fun W h => h.bel⟩, fun W h hg => (GnS.give (z := 1) (v := 0) (by decide) (by decide) (by decide) hz W h).mono (fun e w' h2 => ⟨h2.1, h2.2.1, hg.step hl h2.2.2 h.bel h2.2.1.bel, h2.2.2⟩)⟩
theorem pack_page (CR : Hid (∀ w, Calls Tryz.prog 14 #[.int .i64 kd, .int .i64 5] w fun e w' => e = .returned (.int .i64 1) ∧ w = w')) (hE : ErrsAt vs vr w0) (hl : GL w0 L X sb kb) (hn : GN L X) : ∃ S1 S2 S3, GP w0 L X sb kb kd 3 0 S1 S2 S3 ∧ (∀ W, S1 W → GB W L X sb kb kd → Calls Tryz.prog 26 #[.pointer (some ⟨L.P, 0, none⟩), .int .i64 0, (Value.agg #[.int .i64 3, .int .i64 0, .int .i64 0, .int .i64 0, .int .u32 0])] W fun e w' => e = .returned .nilIface ∧ S2 w' ∧ GB w' L X sb kb kd ∧ UpT L.T W w') := by
  have hz : 0 < L.b.n := by rw [hn.b]; decide
  exact ⟨GpS 1 true 0 w0 L, GpS 2 false 1 w0 L, GpS 3 true 1 w0 L, ⟨fun W W' h hb => h.below hb, fun W W' h hb => h.below hb, fun W W' h hb => h.below hb, fun W hj hg => taken_page CR 0 0 0 W hg hj.k.tw (fun V V' h hb => h.high (hb.mono hj.k.tw)) (fun V hV => (GpS.take (z := 0) (v := 0) (by decide) (by decide) hz V ⟨gD1, hj.k.below hV, gd1_rd, rfl, rfl, fun e => (by cases e)⟩).mono (fun e w' h => ⟨h.1, h.2.1, (hg.below hV).step hl h.2.2 (hj.k.below hV).bel h.2.1.bel, h.2.2⟩)) (fun V h hg => GpS.key hz V h hg), fun W h hg => GpS.live hz (by simp) W h hg, fun W h hg => GpS.live hz (by simp) W h hg, fun W h hg => taken_page CR 0 1 1 W hg h.tw (fun V V' h' hb => h'.high (hb.mono h.tw)) (fun V hV => (GpS.take (z := 2) (v := 1) (by decide) (by decide) hz V (h.below hV)).mono (fun e w' h2 => ⟨h2.1, h2.2.1, (hg.below hV).step hl h2.2.2 (h.below hV).bel h2.2.1.bel, h2.2.2⟩)) (fun V h hg => GpS.key hz V h hg), fun W h hg => GpS.live hz (by simp) W h hg, fun W h hg => GpS.live hz (by simp) W h hg, by decide, fun W h => h.bel, fun W h => h.bel, fun W h => h.bel⟩, fun W h hg => (GpS.give (z := 1) (v := 0) (by decide) (by decide) (by decide) hz W h).mono (fun e w' h2 => ⟨h2.1, h2.2.1, hg.step hl h2.2.2 h.bel h2.2.1.bel, h2.2.2⟩)⟩
theorem pack_dom (CR : Hid (∀ w, Calls Tryz.prog 14 #[.int .i64 kd, .int .i64 5] w fun e w' => e = .returned (.int .i64 2) ∧ w = w')) (hE : ErrsAt vs vr w0) (hl : GL w0 L X sb kb) (hn : GN L X) : ∃ S1 S2 S3, GP w0 L X sb kb kd 4 0 S1 S2 S3 ∧ (∀ W, S1 W → GB W L X sb kb kd → Calls Tryz.prog 26 #[.pointer (some ⟨L.P, 0, none⟩), .int .i64 0, (Value.agg #[.int .i64 4, .int .i64 0, .int .i64 0, .int .i64 0, .int .u32 0])] W fun e w' => e = .returned .nilIface ∧ S2 w' ∧ GB w' L X sb kb kd ∧ UpT L.T W w') := by
  have hz : 0 < L.dn := by rw [hn.d]; decide
  exact ⟨GdS 1 true 0 w0 L, GdS 2 false 1 w0 L, GdS 3 true 1 w0 L, ⟨fun W W' h hb => h.below hb, fun W W' h hb => h.below hb, fun W W' h hb => h.below hb, fun W hj hg => taken_dom CR 0 0 0 W hg hj.k.tw (fun V V' h hb => h.high (hb.mono hj.k.tw)) (fun V hV => (GdS.take (z := 0) (v := 0) (by decide) (by decide) hz V ⟨gD1, hj.k.below hV, gd1_rd, rfl, rfl, fun e => (by cases e)⟩).mono (fun e w' h => ⟨h.1, h.2.1, (hg.below hV).step hl h.2.2 (hj.k.below hV).bel h.2.1.bel, h.2.2⟩)) (fun V h hg => GdS.key hz V h hg), fun W h hg => GdS.live hz (by simp) W h hg, fun W h hg => GdS.live hz (by simp) W h hg, fun W h hg => taken_dom CR 0 1 1 W hg h.tw (fun V V' h' hb => h'.high (hb.mono h.tw)) (fun V hV => (GdS.take (z := 2) (v := 1) (by decide) (by decide) hz V (h.below hV)).mono (fun e w' h2 => ⟨h2.1, h2.2.1, (hg.below hV).step hl h2.2.2 (h.below hV).bel h2.2.1.bel, h2.2.2⟩)) (fun V h hg => GdS.key hz V h hg), fun W h hg => GdS.live hz (by simp) W h hg, fun W h hg => GdS.live hz (by simp) W h hg, by decide, fun W h => h.bel, fun W h => h.bel, fun W h => h.bel⟩, fun W h hg => (GdS.give (z := 1) (v := 0) (by decide) (by decide) (by decide) hz W h).mono (fun e w' h2 => ⟨h2.1, h2.2.1, hg.step hl h2.2.2 h.bel h2.2.1.bel, h2.2.2⟩)⟩
theorem sj_ms {w : World} {D : BSt} (h : SJ w0 w L X D) (hn : GN L X) : MS w L X (fun _ => false) (fun _ => 0) (fun _ => 0) (fun _ => 0) := by
  have h1 := h.lo
  have h2 := h.k.tt
  exact ⟨h.b, h.t, ⟨by omega, by omega⟩, hn.t⟩
theorem GtS.high {t : Bool} {v : Int} {N : Nat} {w w' : World} (h : GtS t v w0 L X w) (hb : Below N w w') (hN : MLt N X) (h0 : w0.heap.size ≤ N) : GtS t v w0 L X w' := by
  obtain ⟨th, vr, pr, tk, h1, h2, h3⟩ := h
  exact ⟨th, vr, pr, tk, h1.low hb hN, h2.trans (hb.mono h0), h3⟩
theorem GtF.high {N : Nat} {w w' : World} (h : GtF w0 L X w) (hb : Below N w w') (hN : MLt N X) (h0 : w0.heap.size ≤ N) : GtF w0 L X w' := ⟨h.1.low hb hN, h.2.trans (hb.mono h0)⟩
theorem GtS.lts {t : Bool} {v : Int} {w : World} (h : GtS t v w0 L X w) : MLt w.heap.size X ∧ w0.heap.size ≤ w.heap.size := by
  obtain ⟨th, vr, pr, tk, h1, h2, h3⟩ := h
  exact ⟨h1.lts, h2.size⟩
theorem pack_meter (CR : Hid (∀ w, Calls Tryz.prog 14 #[.int .i64 kd, .int .i64 5] w fun e w' => e = .returned (.int .i64 3) ∧ w = w')) (hl : GL w0 L X sb kb) (hn : GN L X) : ∃ S1 S2 S3, GP w0 L X sb kb kd 7 0 S1 S2 S3 ∧ (∀ W, S1 W → GB W L X sb kb kd → Calls Tryz.prog 24 #[.pointer (some ⟨X.tP, 0, none⟩), .int .i64 0] W fun e w' => e = .returned .nilIface ∧ S2 w' ∧ GB w' L X sb kb kd ∧ UpT L.T W w') := by
  refine ⟨GtF w0 L X, fun W => GtS false 1 w0 L X W ∧ L.T ≤ W.heap.size, GtS true 1 w0 L X, ⟨fun W W' h hb => h.below hb, fun W W' h hb => ⟨h.1.below hb, Nat.le_trans h.2 hb.size⟩, fun W W' h hb => h.below hb, fun W hj hg => ?_, fun W h hg => h.ts.live (by simp) W hg, fun W h hg => h.1.live (by simp) W hg, fun W h hg => ?_, fun W h hg => h.live (by simp) W hg, fun W h hg => h.live (by simp) W hg, by decide, fun W h => h.2, fun W h => ?_, fun W h => ?_⟩, fun W h hg => ?_⟩
  · have hm := sj_ms hj hn
    exact taken_meter CR 0 0 0 W hg hj.k.tw (fun V V' h hb => h.high hb hm.lts hj.k.bel.size) (fun V hV => tf_take rfl V (sj_ms (hj.below hV) hn) (hj.k.below hV).bel hl (hg.below hV)) (fun V h hg => h.ts.key V hg)
  · exact taken_meter CR 0 1 1 W hg h.2 (fun V V' h' hb => h'.high hb h.1.lts.1 h.1.lts.2) (fun V hV => (h.1.below hV).take (by decide) V hl (hg.below hV)) (fun V h hg => h.key V hg)
  · obtain ⟨⟨th, vr, pr, tk, h1, h2, h3⟩, h4⟩ := h
    exact h2
  · obtain ⟨th, vr, pr, tk, h1, h2, h3⟩ := h
    exact h2
  · have hT : L.T ≤ sb := hl.sb
    have hs := cell_lt hg.s
    exact (h.end_ W hl hg).mono (fun e w' h2 => ⟨h2.1, ⟨h2.2.1, Nat.le_trans (by have : sb < W.heap.size := hs; omega) h2.2.2.2.1⟩, h2.2.2⟩)
theorem GaS.high {t : Bool} {v : Int} {N : Nat} {w w' : World} (h : GaS t v w0 L w) (hb : Below N w w') (h1 : L.T ≤ N) (h2 : L.bB ≤ L.T ∧ L.P < L.T ∧ L.p < L.T ∧ L.B < L.T) (h0 : w0.heap.size ≤ N) : GaS t v w0 L w' := by
  obtain ⟨th, vr, h3, h4, h5, h6⟩ := h
  exact ⟨th, vr, h3.same2 hb.size (hb.block _ (by omega)) (hb.block _ (by omega)), (World.cell?_of_block (a := ⟨L.P, 0, none⟩) (hb.block _ (by show L.P < N; omega))).trans h4, h5.trans (hb.mono h0), h6⟩
theorem pack_bank (CR : Hid (∀ w, Calls Tryz.prog 14 #[.int .i64 kd, .int .i64 5] w fun e w' => e = .returned (.int .i64 4) ∧ w = w')) (hl : GL w0 L X sb kb) (hn : GN L X) : ∃ S1 S2 S3, GP w0 L X sb kb kd 8 1 S1 S2 S3 ∧ (∀ W, S1 W → GB W L X sb kb kd → Calls Tryz.prog 25 #[.pointer (some ⟨L.P, 0, none⟩), .int .i64 1] W fun e w' => e = .returned (.tuple #[.int .i64 0, .nilIface]) ∧ S2 w' ∧ GB w' L X sb kb kd ∧ UpT L.T W w') := by
  refine ⟨fun W => BW w0 W L gD2, fun W => GeS w0 L W, GaS true 1 w0 L, ⟨fun W W' h hb => BW.below h hb, fun W W' h hb => h.below hb, fun W W' h hb => h.below hb, fun W hj hg => ?_, fun W h hg => (bw_as h).live hn.n (by simp) W hg, fun W h hg => h.as.live hn.n (by simp) W hg, fun W h hg => ?_, fun W h hg => h.live hn.n (by simp) W hg, fun W h hg => h.live hn.n (by simp) W hg, by decide, fun W h => BW.bel h, fun W h => ?_, fun W h => ?_⟩, fun W h hg => gb_end hn.n W h hl hg⟩
  · exact taken_bank CR 1 0 0 W hg hj.k.tw (fun V V' h hb => BW.high h (hb.mono hj.k.tw)) (fun V hV => gb_sub rfl hn.n V (hj.k.below hV) hl (hg.below hV)) (fun V h hg => (bw_as h).key hn.n V hg)
  · obtain ⟨D, h1, h2⟩ := h
    exact taken_bank CR 1 1 1 W hg h1.tw (fun V V' h' hb => h'.high hb h1.tw ⟨h1.tt.1, h1.tt.2.1, h1.tt.2.2.1, h1.tt.2.2.2.1⟩ h1.bel.size) (fun V hV => GeS.sub rfl hn.n V ⟨D, h1.below hV, h2⟩ hl (hg.below hV)) (fun V h hg => h.key hn.n V hg)
  · obtain ⟨D, h1, h2⟩ := h
    exact h1.bel
  · obtain ⟨th, vr, h3, h4, h5, h6⟩ := h
    exact h5
end
theorem walk_SysGone (a0 : Int) (w : World) (w0 : (Lit.int .i64 a0).wf = true) (hL : laidMetH Tryz.prog Rows.sysGoneRow.laid w) :
    Calls Tryz.prog 3 #[.int .i64 a0] w fun e w' => e = .returned (.bool true) ∧ Below w.heap.size w w' := by
  obtain ⟨vs, vr, hE⟩ := (errs2 hL ⟨_, by repeat (first | exact List.Mem.head _ | apply List.Mem.tail)⟩ ⟨_, by repeat (first | exact List.Mem.head _ | apply List.Mem.tail)⟩)
  clear hL
  obtain ⟨R, hR, CR⟩ := number_nat a0 5 5 rfl (by decide) (by decide) (fit64 w0).1 (fit64 w0).2
  match R, hR, CR with
  | 0, _, CR => exact gone_give 2 0 a0 rfl rfl (by decide) vs vr w hE (Lib.hid (fun w0 L X sb kb h1 h2 h3 => pack_node (Lib.hid CR) h1 h2 h3))
  | 1, _, CR => exact gone_give 3 0 a0 rfl rfl (by decide) vs vr w hE (Lib.hid (fun w0 L X sb kb h1 h2 h3 => pack_page (Lib.hid CR) h1 h2 h3))
  | 2, _, CR => exact gone_give 4 0 a0 rfl rfl (by decide) vs vr w hE (Lib.hid (fun w0 L X sb kb h1 h2 h3 => pack_dom (Lib.hid CR) h1 h2 h3))
  | 3, _, CR => exact gone_meter a0 vs vr w hE (Lib.hid (fun w0 L X sb kb h1 h2 h3 => pack_meter (Lib.hid CR) h2 h3))
  | 4, _, CR => exact gone_bank a0 vs vr w hE (Lib.hid (fun w0 L X sb kb h1 h2 h3 => pack_bank (Lib.hid CR) h2 h3))
end Go.Proofs.YtncopdhhchmpeaaGreatDoor
