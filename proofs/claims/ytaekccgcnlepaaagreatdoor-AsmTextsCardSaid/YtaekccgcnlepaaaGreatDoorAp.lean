/-
  package asm: parse.
-/
import Derived.Test.YtaekccgcnlepaaaGreatDoorAs3
namespace Go.Proofs.YtaekccgcnlepaaaGreatDoor
open Go.ChangeShapes Go.WideShapes Go.ChangeAt Go.RowKit
set_option linter.unusedVariables false
set_option linter.unusedSimpArgs false
/-- What the words say, one behind the other: the registers, the number; the first error. -/
def runV (vv : Nat → Int × Option Nat) : List UInt8 → Nat → List Int × Int → (List Int × Int) × Option Nat
  | [], _, st => (st, none)
  | k :: ks, j, st => match (vv j).2 with
    | some e => (st, some e)
    | none => runV vv ks (j + 1) (if k = 110 ∨ k = 111 then (st.1, (vv j).1) else (st.1 ++ [(vv j).1], st.2))
/-- An instruction of these parts, or why there is none. -/
def insV (op : Nat) (x : (List Int × Int) × Option Nat) : (Int × Int × Int × Int × Int) × Option Nat := match x.2 with
  | some e => ((0, 0, 0, 0, 0), some e)
  | none => if okB op (x.1.1.getD 0 0) (x.1.1.getD 1 0) (x.1.1.getD 2 0) x.1.2 = true then (((op : Int), x.1.1.getD 0 0, x.1.1.getD 1 0, x.1.1.getD 2 0, x.1.2), none) else ((0, 0, 0, 0, 0), some 2)
def parseV (op n : Nat) (vv : Nat → Int × Option Nat) : (Int × Int × Int × Int × Int) × Option Nat :=
  if op = 0 ∨ n ≠ 1 + (aWd.getD op []).length then ((0, 0, 0, 0, 0), some 10) else insV op (runV vv (aWd.getD op []) 0 ([], 0))
theorem aWd_len : ∀ k : Fin 14, (aWd.getD k.val []).length ≤ 4 := by decide
theorem r_cells {w1 : World} {R : Nat} (h : ∀ j : Nat, j < 5 → w1.cell? ⟨R, j, none⟩ = some (.int .i64 0)) : w1.cell? ⟨R, 0, none⟩ = some (.int .i64 0) ∧ w1.cell? ⟨R, 1, none⟩ = some (.int .i64 0) ∧ w1.cell? ⟨R, 2, none⟩ = some (.int .i64 0) ∧ w1.cell? ⟨R, 3, none⟩ = some (.int .i64 0) ∧ w1.cell? ⟨R, 4, none⟩ = some (.int .i64 0) := ⟨h 0 (by decide), h 1 (by decide), h 2 (by decide), h 3 (by decide), h 4 (by decide)⟩
theorem z5_at (w : World) (t : TypeId) (j : Nat) (hj : j < 5) : (w.alloc (.cells #[.int .i64 0, .int .i64 0, .int .i64 0, .int .i64 0, .int .i64 0] t)).cell? ⟨w.heap.size, j, none⟩ = some (.int .i64 0) ∧ (w.alloc (.cells #[.int .i64 0, .int .i64 0, .int .i64 0, .int .i64 0, .int .i64 0] t)).frozen? ⟨w.heap.size, j, none⟩ = false := by
  rcases (show j = 0 ∨ j = 1 ∨ j = 2 ∨ j = 3 ∨ j = 4 by omega) with rfl | rfl | rfl | rfl | rfl <;> exact ⟨by simp, by simp⟩
/-- Five cells of numbers. -/
structure I5 (w : World) (b : Nat) (a0 a1 a2 a3 a4 : Int) : Prop where
  lt : b < w.heap.size
  c0 : w.cell? ⟨b, 0, none⟩ = some (.int .i64 a0)
  c1 : w.cell? ⟨b, 1, none⟩ = some (.int .i64 a1)
  c2 : w.cell? ⟨b, 2, none⟩ = some (.int .i64 a2)
  c3 : w.cell? ⟨b, 3, none⟩ = some (.int .i64 a3)
  c4 : w.cell? ⟨b, 4, none⟩ = some (.int .i64 a4)
  fz : ∀ j, w.frozen? ⟨b, j, none⟩ = false
theorem I5.below {w w' : World} {b : Nat} {a0 a1 a2 a3 a4 : Int} (h : I5 w b a0 a1 a2 a3 a4) (hb : Below w.heap.size w w') : I5 w' b a0 a1 a2 a3 a4 :=
  ⟨Nat.lt_of_lt_of_le h.lt hb.size, (hb.cell (p := ⟨b, 0, none⟩) h.lt).trans h.c0, (hb.cell (p := ⟨b, 1, none⟩) h.lt).trans h.c1, (hb.cell (p := ⟨b, 2, none⟩) h.lt).trans h.c2, (hb.cell (p := ⟨b, 3, none⟩) h.lt).trans h.c3, (hb.cell (p := ⟨b, 4, none⟩) h.lt).trans h.c4, fun j => (hb.frozen (p := ⟨b, j, none⟩) h.lt).trans (h.fz j)⟩
theorem I5.new (w : World) (t : TypeId) (a0 a1 a2 a3 a4 : Int) : I5 (w.alloc (.cells #[.int .i64 a0, .int .i64 a1, .int .i64 a2, .int .i64 a3, .int .i64 a4] t)) w.heap.size a0 a1 a2 a3 a4 :=
  ⟨by simp, by simp, by simp, by simp, by simp, by simp, fun j => by simp⟩
theorem sc_same {w : World} {a : Addr} {u v : Value} (h : w.cell? a = some u) : (w.setCell a v).cell? a = some v := World.cell?_setCell_same _ _ _ h
theorem sc_other {w : World} {b i j : Nat} {v : Value} (h : i ≠ j) : (w.setCell ⟨b, i, none⟩ v).cell? ⟨b, j, none⟩ = w.cell? ⟨b, j, none⟩ := World.cell?_setCell_other _ _ _ _ (fun e => h (congrArg Addr.off e))
theorem sc_far {w : World} {b g i j : Nat} {v : Value} (h : g ≠ b) : (w.setCell ⟨b, i, none⟩ v).cell? ⟨g, j, none⟩ = w.cell? ⟨g, j, none⟩ := World.cell?_setCell_other _ _ _ _ (fun e => h (congrArg Addr.block e).symm)
theorem I5.put {w : World} {b : Nat} {a0 a1 a2 a3 a4 : Int} (h : I5 w b a0 a1 a2 a3 a4) :
    (∀ v, I5 (w.setCell ⟨b, 0, none⟩ (.int .i64 v)) b v a1 a2 a3 a4) ∧ (∀ v, I5 (w.setCell ⟨b, 1, none⟩ (.int .i64 v)) b a0 v a2 a3 a4) ∧ (∀ v, I5 (w.setCell ⟨b, 2, none⟩ (.int .i64 v)) b a0 a1 v a3 a4) ∧ (∀ v, I5 (w.setCell ⟨b, 3, none⟩ (.int .i64 v)) b a0 a1 a2 v a4) ∧ (∀ v, I5 (w.setCell ⟨b, 4, none⟩ (.int .i64 v)) b a0 a1 a2 a3 v) := by
  have hl : ∀ i v, b < (w.setCell ⟨b, i, none⟩ (.int .i64 v)).heap.size := fun i v => by have := h.lt; simpa using this
  have hf : ∀ i v j, (w.setCell ⟨b, i, none⟩ (.int .i64 v)).frozen? ⟨b, j, none⟩ = false := fun i v j => (World.frozen?_setCell _ _ _ _).trans (h.fz j)
  exact ⟨fun v => ⟨hl _ _, sc_same h.c0, (sc_other (by decide)).trans h.c1, (sc_other (by decide)).trans h.c2, (sc_other (by decide)).trans h.c3, (sc_other (by decide)).trans h.c4, hf _ _⟩,
    fun v => ⟨hl _ _, (sc_other (by decide)).trans h.c0, sc_same h.c1, (sc_other (by decide)).trans h.c2, (sc_other (by decide)).trans h.c3, (sc_other (by decide)).trans h.c4, hf _ _⟩,
    fun v => ⟨hl _ _, (sc_other (by decide)).trans h.c0, (sc_other (by decide)).trans h.c1, sc_same h.c2, (sc_other (by decide)).trans h.c3, (sc_other (by decide)).trans h.c4, hf _ _⟩,
    fun v => ⟨hl _ _, (sc_other (by decide)).trans h.c0, (sc_other (by decide)).trans h.c1, (sc_other (by decide)).trans h.c2, sc_same h.c3, (sc_other (by decide)).trans h.c4, hf _ _⟩,
    fun v => ⟨hl _ _, (sc_other (by decide)).trans h.c0, (sc_other (by decide)).trans h.c1, (sc_other (by decide)).trans h.c2, (sc_other (by decide)).trans h.c3, sc_same h.c4, hf _ _⟩⟩
theorem I5.set5 {w : World} {b : Nat} {a0 a1 a2 a3 a4 : Int} (h : I5 w b a0 a1 a2 a3 a4) (v0 v1 v2 v3 v4 : Int) : I5 (((((w.setCell ⟨b, 0, none⟩ (.int .i64 v0)).setCell ⟨b, 1, none⟩ (.int .i64 v1)).setCell ⟨b, 2, none⟩ (.int .i64 v2)).setCell ⟨b, 3, none⟩ (.int .i64 v3)).setCell ⟨b, 4, none⟩ (.int .i64 v4)) b v0 v1 v2 v3 v4 :=
  ((((h.put.1 v0).put.2.1 v1).put.2.2.1 v2).put.2.2.2.1 v3).put.2.2.2.2 v4
theorem I5.drew {w : World} {b : Nat} {a0 a1 a2 a3 a4 : Int} (h : I5 w b a0 a1 a2 a3 a4) : I5 w.drew b a0 a1 a2 a3 a4 := ⟨h.lt, h.c0, h.c1, h.c2, h.c3, h.c4, h.fz⟩
theorem far5 {w : World} {b g j : Nat} {v0 v1 v2 v3 v4 : Int} (h : g ≠ b) : (((((w.setCell ⟨b, 0, none⟩ (.int .i64 v0)).setCell ⟨b, 1, none⟩ (.int .i64 v1)).setCell ⟨b, 2, none⟩ (.int .i64 v2)).setCell ⟨b, 3, none⟩ (.int .i64 v3)).setCell ⟨b, 4, none⟩ (.int .i64 v4)).cell? ⟨g, j, none⟩ = w.cell? ⟨g, j, none⟩ := by
  rw [sc_far h, sc_far h, sc_far h, sc_far h, sc_far h]
theorem bel5 {w0 w : World} {B b : Nat} {v0 v1 v2 v3 v4 : Int} (h : Below B w0 w) (hb : B ≤ b) : Below B w0 (((((w.setCell ⟨b, 0, none⟩ (.int .i64 v0)).setCell ⟨b, 1, none⟩ (.int .i64 v1)).setCell ⟨b, 2, none⟩ (.int .i64 v2)).setCell ⟨b, 3, none⟩ (.int .i64 v3)).setCell ⟨b, 4, none⟩ (.int .i64 v4)) := ((((h.setCell hb _).setCell hb _).setCell hb _).setCell hb _).setCell hb _
theorem ret_pv {x : (Int × Int × Int × Int × Int) × Option Nat} {A : Nat → Addr} {a0 a1 a2 a3 a4 : Int} {o : Option Nat} (h : x = ((a0, a1, a2, a3, a4), o)) : Ending.returned (.tuple #[.agg #[.int .i64 a0, .int .i64 a1, .int .i64 a2, .int .i64 a3, .int .i64 a4], erV A o]) = Ending.returned (.tuple #[(.agg #[.int .i64 x.1.1, .int .i64 x.1.2.1, .int .i64 x.1.2.2.1, .int .i64 x.1.2.2.2.1, .int .i64 x.1.2.2.2.2]), erV A x.2]) := by rw [h]
set_option maxRecDepth 100000 in
set_option maxHeartbeats 4000000 in
theorem parse_zero {A : Nat → Addr} (B c n : Nat) (ws : List ByteArray) (hn : Hid (ws.length = n)) (hn1 : n ≤ 1000) (mo : Option Nat) (op : Nat) (hop : Hid (opW ws = op)) (hop13 : op ≤ 13) (vv : Nat → Int × Option Nat) (Pm : World → Prop) (hPm : ∀ W W', Pm W → Below W.heap.size W W' → Pm W')
    (hV : Hid (∀ j, j < (aWd.getD op []).length → ∀ W, AsmAt A W → Pm W → Calls Tryz.prog 56 #[.string (ws.getD (1 + j) ⟨#[]⟩), .int .i32 (((aWd.getD op []).getD j 0).toNat : Int), .map (if op = 4 ∨ op = 5 then mo else none)] W fun e w' => e = .returned (.tuple #[.int .i64 (vv j).1, erV A (vv j).2]) ∧ Below W.heap.size W w'))
    (x : (Int × Int × Int × Int × Int) × Option Nat) (hx : Hid (parseV op n vv = x)) (w : World) (hA : AsmAt A w) (hW : WsAt w B ws) (hP : Pm w)
    (h0 : op = 0) :
    Calls Tryz.prog 31 #[.slice (some ⟨B, 0, none⟩) n c, .map mo] w fun e w' => e = .returned (.tuple #[(.agg #[.int .i64 x.1.1, .int .i64 x.1.2.1, .int .i64 x.1.2.2.1, .int .i64 x.1.2.2.2.1, .int .i64 x.1.2.2.2.2]), erV A x.2]) ∧ Below w.heap.size w w' := by
  have HA := Lib.hid hA
  have HW := Lib.hid hW
  have HP := Lib.hid hP
  clear hA hW hP
  have hbz : Below w.heap.size w (w.alloc (.cells #[.int .i64 0, .int .i64 0, .int .i64 0, .int .i64 0, .int .i64 0] 62)) := (Below.refl _ _).alloc (Nat.le_refl _) _
  have HA0 := Lib.hid (HA.out.below hbz)
  have HW0 := Lib.hid (HW.out.below hbz)
  have HBZ := Lib.hid hbz
  clear hbz
  go_enter Tryz.func31, Tryz.ntmps31
  go_upto_region 2 with (first
    | (go_at_call 55; (with_reducible refine (opof_is B c n ws hn (by omega) op hop _ HA0.out HW0.out).mono ?_); rintro e w1 ⟨rfl, hb⟩; have HB1 := Lib.hid hb; clear hb))
  have HR1 := Lib.hid ((I5.new w 62 0 0 0 0 0).below HB1.out)
  have HA1 := Lib.hid (HA0.out.below HB1.out)
  have HBW := Lib.hid (HBZ.out.trans (HB1.out.mono HBZ.out.size))
  have op0 : (0 : Int) ≤ (op : Int) := by omega
  have op1 : (op : Int) < 14 := by omega
  have hwd := HA1.out.wd op (by omega)
  obtain ⟨wd, hwdA⟩ : ∃ wd, wd = wdA op := ⟨_, rfl⟩
  rw [← hwdA] at hwd
  have hsz : wd.size = (aWd.getD op []).length := by rw [← ba_len, hwdA]; rfl
  have HWd : Hid (wd.data.toList = aWd.getD op []) := Lib.hid (by rw [hwdA]; rfl)
  have HLn := Lib.hid hsz
  have hm4 : wd.size ≤ 4 := by rw [hsz]; exact aWd_len ⟨op, by omega⟩
  clear hwdA hsz
  have HX : Hid (x = ((0, 0, 0, 0, 0), some 10)) := Lib.hid (by
    rw [← hx.out]
    unfold parseV
    rw [if_pos (.inl h0)])
  have r0 := HR1.out.c0
  have r1 := HR1.out.c1
  have r2 := HR1.out.c2
  have r3 := HR1.out.c3
  have r4 := HR1.out.c4
  have c10 := HA1.out.sen.c10
  have fz := HR1.out.fz
  have e0 : ((op : Int) == 0) = true := by simp [h0]
  clear h0
  go_upto_region 3 with fail
  refine wp_region_noPanic ?_
  refine wp_region_held_drew (S := fun w' => w'.cell? ⟨4, 0, none⟩ = some (errC (sA A 10))) (by kernel_rfl) c10 (fun hHeld => ?_)
  refine wpAnyH_take (i := 0) (v := ?_) (by rfl) (by kernel_rfl) (by kernel_rfl) (by kernel_rfl) (fun _ _ _ h => h) (Or.inl ⟨by kernel_rfl, ?_⟩) (by assumption) ?_; rotate_left 1; (focus (intro w hSw; (try dsimp only at hSw); simp only [List.getElem_toArray, List.getElem_cons_succ, List.getElem_cons_zero]; all_goals go_simp; all_goals (try with_reducible rfl))); (try simp only [Act.put, List.getElem_toArray, List.getElem_cons_succ, List.getElem_cons_zero, List.setIfInBounds_toArray, List.set_cons_zero, List.set_cons_succ])
  refine wpAnyH_take (i := 1) (v := ?_) (by rfl) (by kernel_rfl) (by kernel_rfl) (by kernel_rfl) (fun _ _ _ h => h) (Or.inl ⟨by kernel_rfl, ?_⟩) (by assumption) ?_; rotate_left 1; (focus (intro w hSw; (try dsimp only at hSw); simp only [List.getElem_toArray, List.getElem_cons_succ, List.getElem_cons_zero]; all_goals go_simp; all_goals (try with_reducible rfl))); (try simp only [Act.put, List.getElem_toArray, List.getElem_cons_succ, List.getElem_cons_zero, List.setIfInBounds_toArray, List.set_cons_zero, List.set_cons_succ])
  refine wpAnyH_ready (rs := [2]) (by kernel_rfl) (by simp) ?_; refine AllReadyH.cons (by rfl) (fun K hK => ?_) AllReadyH.nil; rw [if_pos (by kernel_rfl)]; simp only [List.getElem_toArray, List.getElem_cons_succ, List.getElem_cons_zero]
  go_wp2_with fail
  refine hK.out _ _ ((far5 (w := w1.drew) (j := 0) (Nat.ne_of_lt HA.out.sen.s10)).trans c10) (fun hHeld => ?_)
  clear hK
  (try simp only [Act.put, List.getElem_toArray, List.getElem_cons_succ, List.getElem_cons_zero, List.setIfInBounds_toArray, List.set_cons_zero, List.set_cons_succ])
  refine wpAnyH_take (i := 3) (v := ?_) (by rfl) (by kernel_rfl) (by kernel_rfl) (by kernel_rfl) (fun _ _ _ h => h) (Or.inl ⟨by kernel_rfl, ?_⟩) (by assumption) ?_; rotate_left 1; (focus (intro w hSw; (try dsimp only at hSw); simp only [List.getElem_toArray, List.getElem_cons_succ, List.getElem_cons_zero]; all_goals go_simp; all_goals (try with_reducible rfl))); (try simp only [Act.put, List.getElem_toArray, List.getElem_cons_succ, List.getElem_cons_zero, List.setIfInBounds_toArray, List.set_cons_zero, List.set_cons_succ])
  refine wpAnyH_done (by kernel_rfl) ?_ _
  refine NoPanic.normal ?_
  go_wp2_with fail
  have HI := (HR1.out.set5 0 0 0 0 0).drew
  have q0 := HI.c0; have q1 := HI.c1; have q2 := HI.c2; have q3 := HI.c3; have q4 := HI.c4; refine bodyPost_ret (v := .tuple #[.agg #[.int .i64 0, .int .i64 0, .int .i64 0, .int .i64 0, .int .i64 0], erV A (some 10)]) (by simp [results, Tryz.results31, go_sem, q0, q1, q2, q3, q4, erV]) rfl ⟨ret_pv HX.out, ((bel5 HBW.out (Nat.le_refl _)).drew)⟩
set_option maxRecDepth 100000 in
set_option maxHeartbeats 4000000 in
theorem parse_cnt {A : Nat → Addr} (B c n : Nat) (ws : List ByteArray) (hn : Hid (ws.length = n)) (hn1 : n ≤ 1000) (mo : Option Nat) (op : Nat) (hop : Hid (opW ws = op)) (hop13 : op ≤ 13) (vv : Nat → Int × Option Nat) (Pm : World → Prop) (hPm : ∀ W W', Pm W → Below W.heap.size W W' → Pm W')
    (hV : Hid (∀ j, j < (aWd.getD op []).length → ∀ W, AsmAt A W → Pm W → Calls Tryz.prog 56 #[.string (ws.getD (1 + j) ⟨#[]⟩), .int .i32 (((aWd.getD op []).getD j 0).toNat : Int), .map (if op = 4 ∨ op = 5 then mo else none)] W fun e w' => e = .returned (.tuple #[.int .i64 (vv j).1, erV A (vv j).2]) ∧ Below W.heap.size W w'))
    (x : (Int × Int × Int × Int × Int) × Option Nat) (hx : Hid (parseV op n vv = x)) (w : World) (hA : AsmAt A w) (hW : WsAt w B ws) (hP : Pm w)
    (h0 : op ≠ 0) (hc : n ≠ 1 + (aWd.getD op []).length) :
    Calls Tryz.prog 31 #[.slice (some ⟨B, 0, none⟩) n c, .map mo] w fun e w' => e = .returned (.tuple #[(.agg #[.int .i64 x.1.1, .int .i64 x.1.2.1, .int .i64 x.1.2.2.1, .int .i64 x.1.2.2.2.1, .int .i64 x.1.2.2.2.2]), erV A x.2]) ∧ Below w.heap.size w w' := by
  have HA := Lib.hid hA
  have HW := Lib.hid hW
  have HP := Lib.hid hP
  clear hA hW hP
  have hbz : Below w.heap.size w (w.alloc (.cells #[.int .i64 0, .int .i64 0, .int .i64 0, .int .i64 0, .int .i64 0] 62)) := (Below.refl _ _).alloc (Nat.le_refl _) _
  have HA0 := Lib.hid (HA.out.below hbz)
  have HW0 := Lib.hid (HW.out.below hbz)
  have HBZ := Lib.hid hbz
  clear hbz
  go_enter Tryz.func31, Tryz.ntmps31
  go_upto_region 2 with (first
    | (go_at_call 55; (with_reducible refine (opof_is B c n ws hn (by omega) op hop _ HA0.out HW0.out).mono ?_); rintro e w1 ⟨rfl, hb⟩; have HB1 := Lib.hid hb; clear hb))
  have HR1 := Lib.hid ((I5.new w 62 0 0 0 0 0).below HB1.out)
  have HA1 := Lib.hid (HA0.out.below HB1.out)
  have HBW := Lib.hid (HBZ.out.trans (HB1.out.mono HBZ.out.size))
  have op0 : (0 : Int) ≤ (op : Int) := by omega
  have op1 : (op : Int) < 14 := by omega
  have hwd := HA1.out.wd op (by omega)
  obtain ⟨wd, hwdA⟩ : ∃ wd, wd = wdA op := ⟨_, rfl⟩
  rw [← hwdA] at hwd
  have hsz : wd.size = (aWd.getD op []).length := by rw [← ba_len, hwdA]; rfl
  have HWd : Hid (wd.data.toList = aWd.getD op []) := Lib.hid (by rw [hwdA]; rfl)
  have HLn := Lib.hid hsz
  have hm4 : wd.size ≤ 4 := by rw [hsz]; exact aWd_len ⟨op, by omega⟩
  clear hwdA hsz
  have HX : Hid (x = ((0, 0, 0, 0, 0), some 10)) := Lib.hid (by
    rw [← hx.out]
    unfold parseV
    rw [if_pos (.inr hc)])
  have r0 := HR1.out.c0
  have r1 := HR1.out.c1
  have r2 := HR1.out.c2
  have r3 := HR1.out.c3
  have r4 := HR1.out.c4
  have c10 := HA1.out.sen.c10
  have fz := HR1.out.fz
  have e0 : ((op : Int) == 0) = false := by simp [h0]
  have e1 : ((n : Int) == 1 + (wd.size : Int)) = false := by
    rw [HLn.out, beq_eq_false_iff_ne]
    omega
  clear h0 hc
  go_upto_region 3 with fail
  refine wp_region_noPanic ?_
  refine wp_region_held_drew (S := fun w' => w'.cell? ⟨4, 0, none⟩ = some (errC (sA A 10))) (by kernel_rfl) c10 (fun hHeld => ?_)
  refine wpAnyH_take (i := 0) (v := ?_) (by rfl) (by kernel_rfl) (by kernel_rfl) (by kernel_rfl) (fun _ _ _ h => h) (Or.inl ⟨by kernel_rfl, ?_⟩) (by assumption) ?_; rotate_left 1; (focus (intro w hSw; (try dsimp only at hSw); simp only [List.getElem_toArray, List.getElem_cons_succ, List.getElem_cons_zero]; all_goals go_simp; all_goals (try with_reducible rfl))); (try simp only [Act.put, List.getElem_toArray, List.getElem_cons_succ, List.getElem_cons_zero, List.setIfInBounds_toArray, List.set_cons_zero, List.set_cons_succ])
  refine wpAnyH_take (i := 1) (v := ?_) (by rfl) (by kernel_rfl) (by kernel_rfl) (by kernel_rfl) (fun _ _ _ h => h) (Or.inl ⟨by kernel_rfl, ?_⟩) (by assumption) ?_; rotate_left 1; (focus (intro w hSw; (try dsimp only at hSw); simp only [List.getElem_toArray, List.getElem_cons_succ, List.getElem_cons_zero]; all_goals go_simp; all_goals (try with_reducible rfl))); (try simp only [Act.put, List.getElem_toArray, List.getElem_cons_succ, List.getElem_cons_zero, List.setIfInBounds_toArray, List.set_cons_zero, List.set_cons_succ])
  refine wpAnyH_ready (rs := [2]) (by kernel_rfl) (by simp) ?_; refine AllReadyH.cons (by rfl) (fun K hK => ?_) AllReadyH.nil; rw [if_pos (by kernel_rfl)]; simp only [List.getElem_toArray, List.getElem_cons_succ, List.getElem_cons_zero]
  go_wp2_with fail
  refine hK.out _ _ ((far5 (w := w1.drew) (j := 0) (Nat.ne_of_lt HA.out.sen.s10)).trans c10) (fun hHeld => ?_)
  clear hK
  (try simp only [Act.put, List.getElem_toArray, List.getElem_cons_succ, List.getElem_cons_zero, List.setIfInBounds_toArray, List.set_cons_zero, List.set_cons_succ])
  refine wpAnyH_take (i := 3) (v := ?_) (by rfl) (by kernel_rfl) (by kernel_rfl) (by kernel_rfl) (fun _ _ _ h => h) (Or.inl ⟨by kernel_rfl, ?_⟩) (by assumption) ?_; rotate_left 1; (focus (intro w hSw; (try dsimp only at hSw); simp only [List.getElem_toArray, List.getElem_cons_succ, List.getElem_cons_zero]; all_goals go_simp; all_goals (try with_reducible rfl))); (try simp only [Act.put, List.getElem_toArray, List.getElem_cons_succ, List.getElem_cons_zero, List.setIfInBounds_toArray, List.set_cons_zero, List.set_cons_succ])
  refine wpAnyH_done (by kernel_rfl) ?_ _
  refine NoPanic.normal ?_
  go_wp2_with fail
  have HI := (HR1.out.set5 0 0 0 0 0).drew
  have q0 := HI.c0; have q1 := HI.c1; have q2 := HI.c2; have q3 := HI.c3; have q4 := HI.c4; refine bodyPost_ret (v := .tuple #[.agg #[.int .i64 0, .int .i64 0, .int .i64 0, .int .i64 0, .int .i64 0], erV A (some 10)]) (by simp [results, Tryz.results31, go_sem, q0, q1, q2, q3, q4, erV]) rfl ⟨ret_pv HX.out, ((bel5 HBW.out (Nat.le_refl _)).drew)⟩
end Go.Proofs.YtaekccgcnlepaaaGreatDoor
