/-
  Uk, Ul, Uw, Um as one.
-/
import Derived.Test.YtjkbfhojjjkgnaaDoorP12
import Derived.Test.YtjkbfhojjjkgnaaDoorArV
import Derived.Test.YtjkbfhojjjkgnaaDoorStructs
import Derived.Laws.OwnMore
namespace Go.Proofs.YtjkbfhojjjkgnaaDoor
open Go.ChangeShapes Go.WideShapes Go.ChangeAt Go.RowKit
set_option linter.unusedVariables false
set_option linter.unusedSimpArgs false
/-- Some cells of a domain anew. -/
def updL (f : Nat → Value) (o : Nat) (xs : List Value) : Nat → Value := fun i => if o ≤ i ∧ i < o + xs.length then xs.getD (i - o) (.int .i64 0) else f i
theorem updL_out (f : Nat → Value) (o : Nat) (xs : List Value) (i : Nat) (h : ¬ (o ≤ i ∧ i < o + xs.length)) : updL f o xs i = f i := if_neg h
theorem updL_in (f : Nat → Value) (o : Nat) (xs : List Value) (q : Nat) (h : q < xs.length) : some (updL f o xs (o + q)) = xs[q]? := by
  unfold updL
  rw [if_pos ⟨by omega, by omega⟩, Nat.add_sub_cancel_left]
  simp [List.getD, h]
theorem DomAt.sets {w : World} {db : Nat} {f : Nat → Value} (h : DomAt w db f) (o : Nat) (xs : List Value) (ho : o + xs.length ≤ 107) : DomAt (w.setCells db o xs) db (updL f o xs) := by
  refine ⟨by rw [size_setCells]; exact h.lt, fun j hj => ?_, fun j => (World.frozen?_setCells db xs o w ⟨db, j, none⟩).trans (h.fr j)⟩
  by_cases hin : o ≤ j ∧ j < o + xs.length
  · obtain ⟨q, hq, rfl⟩ : ∃ q, q < xs.length ∧ j = o + q := ⟨j - o, by omega, by omega⟩
    rw [World.cell?_setCells_in db xs o w (fun i hi => by rw [h.c (o + i) (by omega)]; rfl) q hq, updL_in f o xs q hq, List.getElem?_eq_getElem hq]
  · rw [World.cell?_setCells_out db xs o w ⟨db, j, none⟩ (fun _ _ => by simp only at *; omega), updL_out f o xs j hin]
    exact h.c j hj
theorem MemAt.putsD {w0 : World} {mb S : Nat} {a b : Shp} {N cb : Nat} {size : Int} {th : Nat → Bool} {vr_ : Nat → Int} {W : Nat → Nat → Value} {th2 : Nat → Bool} {vr2 : Nat → Int} {W2 : Nat → Nat → Int} {hits : Int} {v : Value} {E : List EW} {db : Nat} (ha : ApD w0 a N mb cb v E db) : ∀ (cs : List Value) (o : Nat) (w : World), (MemAt w0 w mb S a b N cb size th vr_ W th2 vr2 W2 hits v E) → MemAt w0 (w.setCells db o cs) mb S a b N cb size th vr_ W th2 vr2 W2 hits v E := by
  intro cs
  induction cs with
  | nil => intro o w h; exact h
  | cons u r ih => intro o w h; exact ih (o + 1) _ (h.putD ha o u)
theorem CQ.sets {w0 w : World} {mb S : Nat} {a b : Shp} {N cb : Nat} {th : Nat → Bool} {vr_ : Nat → Int} {W : Nat → Nat → Value} {th2 : Nat → Bool} {vr2 : Nat → Int} {W2 : Nat → Nat → Int} {lo hi : Int} {v : Value} {E : List EW} {db : Nat} {f : Nat → Value} {w1 : World} (h : CQ w0 w mb S a b N cb th vr_ W th2 vr2 W2 lo hi v E db f w1) (o : Nat) (xs : List Value) (ho : o + xs.length ≤ 107) : CQ w0 w mb S a b N cb th vr_ W th2 vr2 W2 lo hi v E db (updL f o xs) (w1.setCells db o xs) := by
  obtain ⟨hits, v', E', h1, h2, h3, h4⟩ := h
  exact ⟨hits, v', E', ⟨MemAt.putsD h1.ap xs o w1 h1.m, h1.el, h1.h0, h1.d.sets o xs ho, h1.ap⟩, h2, h3, ⟨by rw [size_setCells]; exact h4.size, fun k hN hk hc hv hd => (heap_setCells db k hd xs o w1).trans (h4.keep k hN hk hc hv hd), h4.own, h4.nn⟩⟩
/-- A key in a register. -/
structure KF (f : Nat → Value) (j : Nat) (y0 y1 y2 y3 y4 : Int) : Prop where
  k0 : f (11 + j * 5) = .int .i64 y0
  k1 : f (11 + j * 5 + 1) = .int .i64 y1
  k2 : f (11 + j * 5 + 2) = .int .i64 y2
  k3 : f (11 + j * 5 + 3) = .int .i64 y3
  k4 : f (11 + j * 5 + 4) = .int .u32 y4
theorem KF.new (f : Nat → Value) (j : Nat) (y0 y1 y2 y3 y4 : Int) : KF (updL f (11 + j * 5) (k5 y0 y1 y2 y3 y4)) j y0 y1 y2 y3 y4 :=
  ⟨Option.some.inj (updL_in f (11 + j * 5) (k5 y0 y1 y2 y3 y4) 0 (by simp [k5])), Option.some.inj (updL_in f (11 + j * 5) (k5 y0 y1 y2 y3 y4) 1 (by simp [k5])), Option.some.inj (updL_in f (11 + j * 5) (k5 y0 y1 y2 y3 y4) 2 (by simp [k5])), Option.some.inj (updL_in f (11 + j * 5) (k5 y0 y1 y2 y3 y4) 3 (by simp [k5])), Option.some.inj (updL_in f (11 + j * 5) (k5 y0 y1 y2 y3 y4) 4 (by simp [k5]))⟩
theorem KF.congr {f g : Nat → Value} {j : Nat} {y0 y1 y2 y3 y4 : Int} (h : KF f j y0 y1 y2 y3 y4) (e : ∀ q, q < 5 → g (11 + j * 5 + q) = f (11 + j * 5 + q)) : KF g j y0 y1 y2 y3 y4 :=
  ⟨(e 0 (by decide)).trans h.k0, (e 1 (by decide)).trans h.k1, (e 2 (by decide)).trans h.k2, (e 3 (by decide)).trans h.k3, (e 4 (by decide)).trans h.k4⟩
theorem KF.other {f : Nat → Value} {i j : Nat} {y0 y1 y2 y3 y4 : Int} (h : KF f j y0 y1 y2 y3 y4) (z0 z1 z2 z3 z4 : Int) (hne : i ≠ j) : KF (updL f (11 + i * 5) (k5 z0 z1 z2 z3 z4)) j y0 y1 y2 y3 y4 :=
  h.congr (fun q hq => updL_out _ _ _ _ (by simp only [k5, List.length_cons, List.length_nil]; omega))
theorem KF.reg {f : Nat → Value} {j : Nat} {y0 y1 y2 y3 y4 : Int} (h : KF f j y0 y1 y2 y3 y4) (q : Nat) (u : Value) (hq : q < 11) : KF (updD f q u) j y0 y1 y2 y3 y4 :=
  h.congr (fun i hi => updD_other _ _ _ _ (by omega))
theorem KF.after {f : Nat → Value} {q : Nat} {y0 y1 y2 y3 y4 : Int} (h : KF f q y0 y1 y2 y3 y4) (p : Nat) : KF (updL f (11 + p * 5) (k5 y0 y1 y2 y3 y4)) q y0 y1 y2 y3 y4 := by
  by_cases e : p = q
  · subst e; exact KF.new f p y0 y1 y2 y3 y4
  · exact h.other y0 y1 y2 y3 y4 e
theorem updL_reg (f : Nat → Value) (j : Nat) (z0 z1 z2 z3 z4 : Int) (q : Nat) (hq : q < 11) : updL f (11 + j * 5) (k5 z0 z1 z2 z3 z4) q = f q := updL_out _ _ _ _ (by simp only [k5, List.length_cons, List.length_nil]; omega)
theorem updL_mem (f : Nat → Value) (j : Nat) (z0 z1 z2 z3 z4 : Int) (hj : j < 16) (q : Nat) (hq : 91 ≤ q) : updL f (11 + j * 5) (k5 z0 z1 z2 z3 z4) q = f q := updL_out _ _ _ _ (by simp only [k5, List.length_cons, List.length_nil]; omega)
theorem numberOf_is (k0 k1 k2 k3 k4 v : Int) (hv : Hid ((if k0 = 1 then k4 else 0) = v)) (w : World) : Calls Tryd.prog 62 #[(Value.agg #[.int .i64 k0, .int .i64 k1, .int .i64 k2, .int .i64 k3, .int .u32 k4])] w fun e w' => e = .returned (.int .u32 v) ∧ Below w.heap.size w w' := by
  by_cases h : k0 = 1
  · subst h
    have e : k4 = v := by have := hv.out; simpa using this
    subst e
    go_enter Tryd.func62, Tryd.ntmps62
    go_wp2_with fail
    go_ret
    exact ⟨rfl, (Below.refl _ _).alloc (Nat.le_refl _) _⟩
  · have e : 0 = v := by have := hv.out; rw [if_neg h] at this; exact this
    subst e
    have b : (k0 != 1) = true := by simpa using h
    go_enter Tryd.func62, Tryd.ntmps62
    go_wp2_with fail
    go_ret
    exact ⟨rfl, (Below.refl _ _).alloc (Nat.le_refl _) _⟩
theorem dom_there {w : World} {db : Nat} {f : Nat → Value} (h : DomAt w db f) (o n : Nat) (ho : o + n ≤ 107) : World.there w db o n := fun j hj => ⟨by rw [h.c (o + j) (by omega)]; rfl, h.fr _⟩
theorem KF.cells {w : World} {db : Nat} {f : Nat → Value} {j : Nat} (y0 y1 y2 y3 y4 : Int) (h : KF f j y0 y1 y2 y3 y4) (hd : DomAt w db f) (hj : j < 16) : (World.cell? w ⟨db, 11 + j * 5, none⟩ = some (.int .i64 y0) ∧ World.cell? w ⟨db, 11 + j * 5 + 1, none⟩ = some (.int .i64 y1) ∧ World.cell? w ⟨db, 11 + j * 5 + 2, none⟩ = some (.int .i64 y2) ∧ World.cell? w ⟨db, 11 + j * 5 + 3, none⟩ = some (.int .i64 y3) ∧ World.cell? w ⟨db, 11 + j * 5 + 4, none⟩ = some (.int .u32 y4)) :=
  ⟨(hd.c _ (by omega)).trans (by rw [h.k0]), (hd.c _ (by omega)).trans (by rw [h.k1]), (hd.c _ (by omega)).trans (by rw [h.k2]), (hd.c _ (by omega)).trans (by rw [h.k3]), (hd.c _ (by omega)).trans (by rw [h.k4])⟩
set_option maxRecDepth 100000 in
set_option maxHeartbeats 4000000 in
theorem cdo_kmove {w0 : World} {mb S : Nat} {a b : Shp} {N cb : Nat} {th : Nat → Bool} {vr_ : Nat → Int} {W : Nat → Nat → Value} {th2 : Nat → Bool} {vr2 : Nat → Int} {W2 : Nat → Nat → Int} {hits : Int} {v : Value} {E : List EW} {db : Nat} {f : Nat → Value} (A B : Int) (p q : Nat) (hA : Hid (A = p ∧ B = q)) (hp : p < 16) (hq : q < 16) (y0 y1 y2 y3 y4 : Int) (hy : Hid (KF f q y0 y1 y2 y3 y4)) (w : World) (h : (CpAt w0 w mb S a b N cb th vr_ W th2 vr2 W2 hits v E db f)) :
    Calls Tryd.prog 42 #[.pointer (some ⟨mb, 0, none⟩), .pointer (some ⟨db, 0, none⟩), (Value.agg #[.int .i64 8, .int .i64 A, .int .i64 B, .int .i64 0, .int .i64 0])] w fun e w' => e = .returned (.agg (evA 0 0 0)) ∧ CQ w0 w mb S a b N cb th vr_ W th2 vr2 W2 hits hits v E db (updL f (11 + p * 5) (k5 y0 y1 y2 y3 y4)) w' := by
  obtain ⟨e1, e2⟩ := hA.out
  subst e1 e2
  have H := Lib.hid h
  have a0 : (0 : Int) ≤ p := by omega
  have a1 : (p : Int) < 16 := by omega
  have b0 : (0 : Int) ≤ q := by omega
  have b1 : (q : Int) < 16 := by omega
  clear h hA
  go_enter Tryd.func42, Tryd.ntmps42; go_upto_region 1 with fail; generalize hA : World.alloc (World.alloc w _) _ = wA; have HM : Hid (Mine w wA (w.heap.size + 1)) := Lib.hid ⟨by rw [← hA]; exact ((Below.refl _ _).alloc (Nat.le_refl _) _).alloc (by simp) _, by omega, by rw [← hA]; simp⟩; have HT : Hid (World.there wA (w.heap.size + 1) 0 28) := Lib.hid (by rw [← hA]; exact there_new2 _ _ _ _ rfl _); have HI := Lib.hid (by rw [← hA]; exact Ins.new _ _ _ _ _ _ _ _ : Ins wA w.heap.size _ _ _ _ _); clear hA; have HA := Lib.hid (H.out.below HM.out.bel); have i0 := HI.out.c0; have i1 := HI.out.c1; have i2 := HI.out.c2; have i3 := HI.out.c3; have i4 := HI.out.c4
  have HAd := Lib.hid (HA.out.cq.below (Below.refl wA.heap.size wA).drew)
  have HKC := Lib.hid (hy.out.cells y0 y1 y2 y3 y4 HAd.out.dom hq)
  have HTh := Lib.hid (dom_there HAd.out.dom (11 + p * 5) 5 (by omega))
  have HQ := Lib.hid (HAd.out.sets (11 + p * 5) (k5 y0 y1 y2 y3 y4) (by simp [k5]; omega))
  go_upto_region 18 with fail
  refine wp_region_noPanic ?_
  refine wp_region_held_drew (S := fun w' => World.cell? w' ⟨w.heap.size, 1, none⟩ = some (.int .i64 (p : Int)) ∧ World.cell? w' ⟨w.heap.size, 2, none⟩ = some (.int .i64 (q : Int)) ∧ (World.cell? w' ⟨db, 11 + q * 5, none⟩ = some (.int .i64 y0) ∧ World.cell? w' ⟨db, 11 + q * 5 + 1, none⟩ = some (.int .i64 y1) ∧ World.cell? w' ⟨db, 11 + q * 5 + 2, none⟩ = some (.int .i64 y2) ∧ World.cell? w' ⟨db, 11 + q * 5 + 3, none⟩ = some (.int .i64 y3) ∧ World.cell? w' ⟨db, 11 + q * 5 + 4, none⟩ = some (.int .u32 y4))) (by kernel_rfl) ⟨by simpa using i1, by simpa using i2, HKC.out⟩ (fun hHeld => ?_)
  refine wpAnyH_take (i := 0) (v := ?_) (by rfl) (by kernel_rfl) (by kernel_rfl) (by kernel_rfl) (fun _ _ _ h => h) (Or.inl ⟨by kernel_rfl, ?_⟩) (by assumption) ?_; rotate_left 1; (focus (intro w hSw; (try dsimp only at hSw); simp only [List.getElem_toArray, List.getElem_cons_succ, List.getElem_cons_zero]; all_goals go_simp; all_goals (try with_reducible rfl))); (try simp only [Act.put, List.getElem_toArray, List.getElem_cons_succ, List.getElem_cons_zero, List.setIfInBounds_toArray, List.set_cons_zero, List.set_cons_succ])
  refine wpAnyH_take (i := 1) (v := ?_) (by rfl) (by kernel_rfl) (by kernel_rfl) (by kernel_rfl) (fun _ _ _ h => h) (Or.inl ⟨by kernel_rfl, ?_⟩) (by assumption) ?_; rotate_left 1; (focus (intro w hSw; (try dsimp only at hSw); simp only [List.getElem_toArray, List.getElem_cons_succ, List.getElem_cons_zero]; all_goals go_simp; all_goals (try with_reducible rfl))); (try simp only [Act.put, List.getElem_toArray, List.getElem_cons_succ, List.getElem_cons_zero, List.setIfInBounds_toArray, List.set_cons_zero, List.set_cons_succ])
  refine wpAnyH_take (i := 2) (v := ?_) (by rfl) (by kernel_rfl) (by kernel_rfl) (by kernel_rfl) (fun _ _ _ h => h) (Or.inl ⟨by kernel_rfl, ?_⟩) (by assumption) ?_; rotate_left 1; (focus (intro w hSw; (try dsimp only at hSw); simp only [List.getElem_toArray, List.getElem_cons_succ, List.getElem_cons_zero]; all_goals go_simp; all_goals (try with_reducible rfl))); (try simp only [Act.put, List.getElem_toArray, List.getElem_cons_succ, List.getElem_cons_zero, List.setIfInBounds_toArray, List.set_cons_zero, List.set_cons_succ])
  refine wpAnyH_take (i := 3) (v := ?_) (by rfl) (by kernel_rfl) (by kernel_rfl) (by kernel_rfl) (fun _ _ _ h => h) (Or.inl ⟨by kernel_rfl, ?_⟩) (by assumption) ?_; rotate_left 1; (focus (intro w hSw; (try dsimp only at hSw); simp only [List.getElem_toArray, List.getElem_cons_succ, List.getElem_cons_zero]; all_goals go_simp; all_goals (try with_reducible rfl))); (try simp only [Act.put, List.getElem_toArray, List.getElem_cons_succ, List.getElem_cons_zero, List.setIfInBounds_toArray, List.set_cons_zero, List.set_cons_succ])
  refine wpAnyH_take (i := 4) (v := ?_) (by rfl) (by kernel_rfl) (by kernel_rfl) (by kernel_rfl) (fun _ _ _ h => h) (Or.inl ⟨by kernel_rfl, ?_⟩) (by assumption) ?_; rotate_left 1; (focus (intro w hSw; (try dsimp only at hSw); simp only [List.getElem_toArray, List.getElem_cons_succ, List.getElem_cons_zero]; all_goals go_simp; all_goals (try with_reducible rfl))); (try simp only [Act.put, List.getElem_toArray, List.getElem_cons_succ, List.getElem_cons_zero, List.setIfInBounds_toArray, List.set_cons_zero, List.set_cons_succ])
  refine wpAnyH_take (i := 5) (v := ?_) (by rfl) (by kernel_rfl) (by kernel_rfl) (by kernel_rfl) (fun _ _ _ h => h) (Or.inl ⟨by kernel_rfl, ?_⟩) (by assumption) ?_; rotate_left 1; (focus (intro w hSw; (try dsimp only at hSw); simp only [List.getElem_toArray, List.getElem_cons_succ, List.getElem_cons_zero]; all_goals go_simp; all_goals (try with_reducible rfl))); (try simp only [Act.put, List.getElem_toArray, List.getElem_cons_succ, List.getElem_cons_zero, List.setIfInBounds_toArray, List.set_cons_zero, List.set_cons_succ])
  refine wpAnyH_take (i := 6) (v := ?_) (by rfl) (by kernel_rfl) (by kernel_rfl) (by kernel_rfl) (fun _ _ _ h => h) (Or.inl ⟨by kernel_rfl, ?_⟩) (by assumption) ?_; rotate_left 1; (focus (intro w hSw; (try dsimp only at hSw); simp only [List.getElem_toArray, List.getElem_cons_succ, List.getElem_cons_zero]; all_goals go_simp; all_goals (try with_reducible rfl))); (try simp only [Act.put, List.getElem_toArray, List.getElem_cons_succ, List.getElem_cons_zero, List.setIfInBounds_toArray, List.set_cons_zero, List.set_cons_succ])
  refine wpAnyH_take (i := 7) (v := ?_) (by rfl) (by kernel_rfl) (by kernel_rfl) (by kernel_rfl) (fun _ _ _ h => h) (Or.inl ⟨by kernel_rfl, ?_⟩) (by assumption) ?_; rotate_left 1; (focus (intro w hSw; (try dsimp only at hSw); simp only [List.getElem_toArray, List.getElem_cons_succ, List.getElem_cons_zero]; all_goals go_simp; all_goals (try with_reducible rfl))); (try simp only [Act.put, List.getElem_toArray, List.getElem_cons_succ, List.getElem_cons_zero, List.setIfInBounds_toArray, List.set_cons_zero, List.set_cons_succ])
  refine wpAnyH_take (i := 8) (v := ?_) (by rfl) (by kernel_rfl) (by kernel_rfl) (by kernel_rfl) (fun _ _ _ h => h) (Or.inl ⟨by kernel_rfl, ?_⟩) (by assumption) ?_; rotate_left 1; (focus (intro w hSw; (try dsimp only at hSw); simp only [List.getElem_toArray, List.getElem_cons_succ, List.getElem_cons_zero]; all_goals go_simp; all_goals (try with_reducible rfl))); (try simp only [Act.put, List.getElem_toArray, List.getElem_cons_succ, List.getElem_cons_zero, List.setIfInBounds_toArray, List.set_cons_zero, List.set_cons_succ])
  refine wpAnyH_take (i := 9) (v := ?_) (by rfl) (by kernel_rfl) (by kernel_rfl) (by kernel_rfl) (fun _ _ _ h => h) (Or.inl ⟨by kernel_rfl, ?_⟩) (by assumption) ?_; rotate_left 1; (focus (intro w hSw; (try dsimp only at hSw); simp only [List.getElem_toArray, List.getElem_cons_succ, List.getElem_cons_zero]; all_goals go_simp; all_goals (try with_reducible rfl))); (try simp only [Act.put, List.getElem_toArray, List.getElem_cons_succ, List.getElem_cons_zero, List.setIfInBounds_toArray, List.set_cons_zero, List.set_cons_succ])
  refine wpAnyH_take (i := 10) (v := ?_) (by rfl) (by kernel_rfl) (by kernel_rfl) (by kernel_rfl) (fun _ _ _ h => h) (Or.inl ⟨by kernel_rfl, ?_⟩) (by assumption) ?_; rotate_left 1; (focus (intro w hSw; (try dsimp only at hSw); simp only [List.getElem_toArray, List.getElem_cons_succ, List.getElem_cons_zero]; all_goals go_simp; all_goals (try with_reducible rfl))); (try simp only [Act.put, List.getElem_toArray, List.getElem_cons_succ, List.getElem_cons_zero, List.setIfInBounds_toArray, List.set_cons_zero, List.set_cons_succ])
  refine wpAnyH_take (i := 11) (v := ?_) (by rfl) (by kernel_rfl) (by kernel_rfl) (by kernel_rfl) (fun _ _ _ h => h) (Or.inl ⟨by kernel_rfl, ?_⟩) (by assumption) ?_; rotate_left 1; (focus (intro w hSw; (try dsimp only at hSw); simp only [List.getElem_toArray, List.getElem_cons_succ, List.getElem_cons_zero]; all_goals go_simp; all_goals (try with_reducible rfl))); (try simp only [Act.put, List.getElem_toArray, List.getElem_cons_succ, List.getElem_cons_zero, List.setIfInBounds_toArray, List.set_cons_zero, List.set_cons_succ])
  refine wpAnyH_take (i := 12) (v := ?_) (by rfl) (by kernel_rfl) (by kernel_rfl) (by kernel_rfl) (fun _ _ _ h => h) (Or.inl ⟨by kernel_rfl, ?_⟩) (by assumption) ?_; rotate_left 1; (focus (intro w hSw; (try dsimp only at hSw); simp only [List.getElem_toArray, List.getElem_cons_succ, List.getElem_cons_zero]; all_goals go_simp; all_goals (try with_reducible rfl))); (try simp only [Act.put, List.getElem_toArray, List.getElem_cons_succ, List.getElem_cons_zero, List.setIfInBounds_toArray, List.set_cons_zero, List.set_cons_succ])
  refine wpAnyH_ready (rs := [13]) (by kernel_rfl) (by simp) ?_; refine AllReadyH.cons (by rfl) (fun K hK => ?_) AllReadyH.nil; rw [if_pos (by kernel_rfl)]; simp only [List.getElem_toArray, List.getElem_cons_succ, List.getElem_cons_zero]
  refine wp_store_mid _ _ _ (by rfl) db (11 + p * 5) #[.int .i64 y0, .int .i64 y1, .int .i64 y2, .int .i64 y3, .int .u32 y4] (by rfl) (by rfl) HTh.out infoKey5 (by simp [Value.oneCell']) ?_
  have HI2 := Lib.hid ((HI.out.below (Below.refl _ _).drew).same (Nat.le_of_eq (size_setCells db (k5 y0 y1 y2 y3 y4) (11 + p * 5) wA.drew).symm) (heap_setCells db w.heap.size (Nat.ne_of_gt H.out.d.lt) (k5 y0 y1 y2 y3 y4) (11 + p * 5) wA.drew))
  refine hK.out _ (World.setCells wA.drew db (11 + p * 5) (k5 y0 y1 y2 y3 y4)) ⟨HI2.out.c1, HI2.out.c2, KF.cells y0 y1 y2 y3 y4 (KF.after hy.out p) HQ.out.dom hq⟩ (fun hHeld => ?_)
  clear hK K
  (try simp only [Act.put, List.getElem_toArray, List.getElem_cons_succ, List.getElem_cons_zero, List.setIfInBounds_toArray, List.set_cons_zero, List.set_cons_succ])
  refine wpAnyH_done (by kernel_rfl) ?_ _
  refine NoPanic.normal ?_
  go_upto_region 29 with fail
  have HT1 := Lib.hid (there_same HT.out (CQ.mine H.out HM.out HQ.out)); go_wp2_with (refine wpList_store_mid (by rfl) _ _ _ (by rfl) (w.heap.size + 1) 0 (evA 0 0 0) (by rfl) (by rfl) HT1.out infoEv (evA_one _ _ _) ?_); have hld := (evA_ok 0 0 0).load ((evA_ok 0 0 0).stored HT1.out); refine bodyPost_ret (v := .agg (evA 0 0 0)) (results_ev Tryd.results42 _ _ _ _ _ (by rfl) hld) rfl ⟨rfl, ?_⟩; exact CQ.out H.out HM.out HQ.out _ _
set_option maxRecDepth 100000 in
set_option maxHeartbeats 4000000 in
theorem cdo_knum {w0 : World} {mb S : Nat} {a b : Shp} {N cb : Nat} {th : Nat → Bool} {vr_ : Nat → Int} {W : Nat → Nat → Value} {th2 : Nat → Bool} {vr2 : Nat → Int} {W2 : Nat → Nat → Int} {hits : Int} {v : Value} {E : List EW} {db : Nat} {f : Nat → Value} (A B : Int) (p q : Nat) (hA : Hid (A = p ∧ B = q)) (hp : p < 16) (hq : q < 8) (u : Int) (hu : f q = .int .u32 u) (w : World) (h : (CpAt w0 w mb S a b N cb th vr_ W th2 vr2 W2 hits v E db f)) :
    Calls Tryd.prog 42 #[.pointer (some ⟨mb, 0, none⟩), .pointer (some ⟨db, 0, none⟩), (Value.agg #[.int .i64 9, .int .i64 A, .int .i64 B, .int .i64 0, .int .i64 0])] w fun e w' => e = .returned (.agg (evA 0 0 0)) ∧ CQ w0 w mb S a b N cb th vr_ W th2 vr2 W2 hits hits v E db (updL f (11 + p * 5) (k5 1 0 0 0 u)) w' := by
  obtain ⟨e1, e2⟩ := hA.out
  subst e1 e2
  have H := Lib.hid h
  have a0 : (0 : Int) ≤ p := by omega
  have a1 : (p : Int) < 16 := by omega
  have b0 : (0 : Int) ≤ q := by omega
  have b1 : (q : Int) < 8 := by omega
  clear h hA
  go_enter Tryd.func42, Tryd.ntmps42; go_upto_region 1 with fail; generalize hA : World.alloc (World.alloc w _) _ = wA; have HM : Hid (Mine w wA (w.heap.size + 1)) := Lib.hid ⟨by rw [← hA]; exact ((Below.refl _ _).alloc (Nat.le_refl _) _).alloc (by simp) _, by omega, by rw [← hA]; simp⟩; have HT : Hid (World.there wA (w.heap.size + 1) 0 28) := Lib.hid (by rw [← hA]; exact there_new2 _ _ _ _ rfl _); have HI := Lib.hid (by rw [← hA]; exact Ins.new _ _ _ _ _ _ _ _ : Ins wA w.heap.size _ _ _ _ _); clear hA; have HA := Lib.hid (H.out.below HM.out.bel); have i0 := HI.out.c0; have i1 := HI.out.c1; have i2 := HI.out.c2; have i3 := HI.out.c3; have i4 := HI.out.c4
  have HAd := Lib.hid (HA.out.cq.below (Below.refl wA.heap.size wA).drew)
  have HR : Hid (∀ w', Below wA.heap.size wA.drew w' → World.cell? w' ⟨db, q, none⟩ = some (.int .u32 u)) := Lib.hid (fun w' hb => (HAd.out.below hb).dom.c q (by omega) |>.trans (by rw [hu]))
  have HI3 := Lib.hid (HI.out.below (Below.refl wA.heap.size wA).drew)
  clear hu
  go_upto_region 20 with fail
  refine wp_region_noPanic ?_
  refine wp_region_held_drew (S := fun w' => World.cell? w' ⟨w.heap.size, 1, none⟩ = some (.int .i64 (p : Int)) ∧ World.cell? w' ⟨w.heap.size, 2, none⟩ = some (.int .i64 (q : Int)) ∧ World.cell? w' ⟨db, q, none⟩ = some (.int .u32 u)) (by kernel_rfl) ⟨HI3.out.c1, HI3.out.c2, HR.out _ (Below.refl _ _)⟩ (fun hHeld => ?_)
  refine wpAnyH_take (i := 0) (v := ?_) (by rfl) (by kernel_rfl) (by kernel_rfl) (by kernel_rfl) (fun _ _ _ h => h) (Or.inl ⟨by kernel_rfl, ?_⟩) (by assumption) ?_; rotate_left 1; (focus (intro w hSw; (try dsimp only at hSw); simp only [List.getElem_toArray, List.getElem_cons_succ, List.getElem_cons_zero]; all_goals go_simp; all_goals (try with_reducible rfl))); (try simp only [Act.put, List.getElem_toArray, List.getElem_cons_succ, List.getElem_cons_zero, List.setIfInBounds_toArray, List.set_cons_zero, List.set_cons_succ])
  refine wpAnyH_take (i := 1) (v := ?_) (by rfl) (by kernel_rfl) (by kernel_rfl) (by kernel_rfl) (fun _ _ _ h => h) (Or.inl ⟨by kernel_rfl, ?_⟩) (by assumption) ?_; rotate_left 1; (focus (intro w hSw; (try dsimp only at hSw); simp only [List.getElem_toArray, List.getElem_cons_succ, List.getElem_cons_zero]; all_goals go_simp; all_goals (try with_reducible rfl))); (try simp only [Act.put, List.getElem_toArray, List.getElem_cons_succ, List.getElem_cons_zero, List.setIfInBounds_toArray, List.set_cons_zero, List.set_cons_succ])
  refine wpAnyH_take (i := 2) (v := ?_) (by rfl) (by kernel_rfl) (by kernel_rfl) (by kernel_rfl) (fun _ _ _ h => h) (Or.inl ⟨by kernel_rfl, ?_⟩) (by assumption) ?_; rotate_left 1; (focus (intro w hSw; (try dsimp only at hSw); simp only [List.getElem_toArray, List.getElem_cons_succ, List.getElem_cons_zero]; all_goals go_simp; all_goals (try with_reducible rfl))); (try simp only [Act.put, List.getElem_toArray, List.getElem_cons_succ, List.getElem_cons_zero, List.setIfInBounds_toArray, List.set_cons_zero, List.set_cons_succ])
  refine wpAnyH_take (i := 3) (v := ?_) (by rfl) (by kernel_rfl) (by kernel_rfl) (by kernel_rfl) (fun _ _ _ h => h) (Or.inl ⟨by kernel_rfl, ?_⟩) (by assumption) ?_; rotate_left 1; (focus (intro w hSw; (try dsimp only at hSw); simp only [List.getElem_toArray, List.getElem_cons_succ, List.getElem_cons_zero]; all_goals go_simp; all_goals (try with_reducible rfl))); (try simp only [Act.put, List.getElem_toArray, List.getElem_cons_succ, List.getElem_cons_zero, List.setIfInBounds_toArray, List.set_cons_zero, List.set_cons_succ])
  refine wpAnyH_take (i := 4) (v := ?_) (by rfl) (by kernel_rfl) (by kernel_rfl) (by kernel_rfl) (fun _ _ _ h => h) (Or.inl ⟨by kernel_rfl, ?_⟩) (by assumption) ?_; rotate_left 1; (focus (intro w hSw; (try dsimp only at hSw); simp only [List.getElem_toArray, List.getElem_cons_succ, List.getElem_cons_zero]; all_goals go_simp; all_goals (try with_reducible rfl))); (try simp only [Act.put, List.getElem_toArray, List.getElem_cons_succ, List.getElem_cons_zero, List.setIfInBounds_toArray, List.set_cons_zero, List.set_cons_succ])
  refine wpAnyH_take (i := 5) (v := ?_) (by rfl) (by kernel_rfl) (by kernel_rfl) (by kernel_rfl) (fun _ _ _ h => h) (Or.inl ⟨by kernel_rfl, ?_⟩) (by assumption) ?_; rotate_left 1; (focus (intro w hSw; (try dsimp only at hSw); simp only [List.getElem_toArray, List.getElem_cons_succ, List.getElem_cons_zero]; all_goals go_simp; all_goals (try with_reducible rfl))); (try simp only [Act.put, List.getElem_toArray, List.getElem_cons_succ, List.getElem_cons_zero, List.setIfInBounds_toArray, List.set_cons_zero, List.set_cons_succ])
  refine wpAnyH_take (i := 6) (v := ?_) (by rfl) (by kernel_rfl) (by kernel_rfl) (by kernel_rfl) (fun _ _ _ h => h) (Or.inl ⟨by kernel_rfl, ?_⟩) (by assumption) ?_; rotate_left 1; (focus (intro w hSw; (try dsimp only at hSw); simp only [List.getElem_toArray, List.getElem_cons_succ, List.getElem_cons_zero]; all_goals go_simp; all_goals (try with_reducible rfl))); (try simp only [Act.put, List.getElem_toArray, List.getElem_cons_succ, List.getElem_cons_zero, List.setIfInBounds_toArray, List.set_cons_zero, List.set_cons_succ])
  refine wpAnyH_take (i := 7) (v := ?_) (by rfl) (by kernel_rfl) (by kernel_rfl) (by kernel_rfl) (fun _ _ _ h => h) (Or.inl ⟨by kernel_rfl, ?_⟩) (by assumption) ?_; rotate_left 1; (focus (intro w hSw; (try dsimp only at hSw); simp only [List.getElem_toArray, List.getElem_cons_succ, List.getElem_cons_zero]; all_goals go_simp; all_goals (try with_reducible rfl))); (try simp only [Act.put, List.getElem_toArray, List.getElem_cons_succ, List.getElem_cons_zero, List.setIfInBounds_toArray, List.set_cons_zero, List.set_cons_succ])
  refine wpAnyH_take (i := 8) (v := ?_) (by rfl) (by kernel_rfl) (by kernel_rfl) (by kernel_rfl) (fun _ _ _ h => h) (Or.inl ⟨by kernel_rfl, ?_⟩) (by assumption) ?_; rotate_left 1; (focus (intro w hSw; (try dsimp only at hSw); simp only [List.getElem_toArray, List.getElem_cons_succ, List.getElem_cons_zero]; all_goals go_simp; all_goals (try with_reducible rfl))); (try simp only [Act.put, List.getElem_toArray, List.getElem_cons_succ, List.getElem_cons_zero, List.setIfInBounds_toArray, List.set_cons_zero, List.set_cons_succ])
  refine wpAnyH_take (i := 9) (v := ?_) (by rfl) (by kernel_rfl) (by kernel_rfl) (by kernel_rfl) (fun _ _ _ h => h) (Or.inl ⟨by kernel_rfl, ?_⟩) (by assumption) ?_; rotate_left 1; (focus (intro w hSw; (try dsimp only at hSw); simp only [List.getElem_toArray, List.getElem_cons_succ, List.getElem_cons_zero]; all_goals go_simp; all_goals (try with_reducible rfl))); (try simp only [Act.put, List.getElem_toArray, List.getElem_cons_succ, List.getElem_cons_zero, List.setIfInBounds_toArray, List.set_cons_zero, List.set_cons_succ])
  refine wpAnyH_take (i := 10) (v := ?_) (by rfl) (by kernel_rfl) (by kernel_rfl) (by kernel_rfl) (fun _ _ _ h => h) (Or.inl ⟨by kernel_rfl, ?_⟩) (by assumption) ?_; rotate_left 1; (focus (intro w hSw; (try dsimp only at hSw); simp only [List.getElem_toArray, List.getElem_cons_succ, List.getElem_cons_zero]; all_goals go_simp; all_goals (try with_reducible rfl))); (try simp only [Act.put, List.getElem_toArray, List.getElem_cons_succ, List.getElem_cons_zero, List.setIfInBounds_toArray, List.set_cons_zero, List.set_cons_succ])
  refine wpAnyH_take (i := 12) (v := ?_) (by rfl) (by kernel_rfl) (by kernel_rfl) (by kernel_rfl) (fun _ _ _ h => h) (Or.inl ⟨by kernel_rfl, ?_⟩) (by assumption) ?_; rotate_left 1; (focus (intro w hSw; (try dsimp only at hSw); simp only [List.getElem_toArray, List.getElem_cons_succ, List.getElem_cons_zero]; all_goals go_simp; all_goals (try with_reducible rfl))); (try simp only [Act.put, List.getElem_toArray, List.getElem_cons_succ, List.getElem_cons_zero, List.setIfInBounds_toArray, List.set_cons_zero, List.set_cons_succ])
  refine wpAnyH_take (i := 13) (v := ?_) (by rfl) (by kernel_rfl) (by kernel_rfl) (by kernel_rfl) (fun _ _ _ h => h) (Or.inl ⟨by kernel_rfl, ?_⟩) (by assumption) ?_; rotate_left 1; (focus (intro w hSw; (try dsimp only at hSw); simp only [List.getElem_toArray, List.getElem_cons_succ, List.getElem_cons_zero]; all_goals go_simp; all_goals (try with_reducible rfl))); (try simp only [Act.put, List.getElem_toArray, List.getElem_cons_succ, List.getElem_cons_zero, List.setIfInBounds_toArray, List.set_cons_zero, List.set_cons_succ])
  refine wpAnyH_ready (rs := [11]) (by kernel_rfl) (by simp) ?_; refine AllReadyH.cons (by rfl) (fun K hK => ?_) AllReadyH.nil; rw [if_pos (by kernel_rfl)]; simp only [List.getElem_toArray, List.getElem_cons_succ, List.getElem_cons_zero]
  go_wp2_with (first
    | (go_at_call 61; (with_reducible refine (knum_is u _).mono ?_); rintro e w2 ⟨rfl, hb⟩; have HB2 := Lib.hid hb; clear hb))
  have HQ2 := Lib.hid (HAd.out.below HB2.out)
  have HI4 := Lib.hid (HI3.out.below HB2.out)
  have HTh := Lib.hid (dom_there HQ2.out.dom (11 + p * 5) 5 (by omega))
  have HQ := Lib.hid (HQ2.out.sets (11 + p * 5) (k5 1 0 0 0 u) (by simp [k5]; omega))
  refine hK.out _ _ ⟨HI4.out.c1, HI4.out.c2, HR.out _ HB2.out⟩ (fun hHeld => ?_)
  clear hK K
  (try simp only [Act.put, List.getElem_toArray, List.getElem_cons_succ, List.getElem_cons_zero, List.setIfInBounds_toArray, List.set_cons_zero, List.set_cons_succ])
  refine wpAnyH_take (i := 14) (v := ?_) (by rfl) (by kernel_rfl) (by kernel_rfl) (by kernel_rfl) (fun _ _ _ h => h) (Or.inl ⟨by kernel_rfl, ?_⟩) (by assumption) ?_; rotate_left 1; (focus (intro w hSw; (try dsimp only at hSw); simp only [List.getElem_toArray, List.getElem_cons_succ, List.getElem_cons_zero]; all_goals go_simp; all_goals (try with_reducible rfl))); (try simp only [Act.put, List.getElem_toArray, List.getElem_cons_succ, List.getElem_cons_zero, List.setIfInBounds_toArray, List.set_cons_zero, List.set_cons_succ])
  refine wpAnyH_ready (rs := [15]) (by kernel_rfl) (by simp) ?_; refine AllReadyH.cons (by rfl) (fun K hK => ?_) AllReadyH.nil; rw [if_pos (by kernel_rfl)]; simp only [List.getElem_toArray, List.getElem_cons_succ, List.getElem_cons_zero]
  refine wp_store_mid _ _ _ (by rfl) db (11 + p * 5) #[.int .i64 1, .int .i64 0, .int .i64 0, .int .i64 0, .int .u32 u] (by rfl) (by rfl) HTh.out infoKey5 (by simp [Value.oneCell']) ?_
  have HI5 := Lib.hid (HI4.out.same (Nat.le_of_eq (size_setCells db (k5 1 0 0 0 u) (11 + p * 5) w2).symm) (heap_setCells db w.heap.size (Nat.ne_of_gt H.out.d.lt) (k5 1 0 0 0 u) (11 + p * 5) w2))
  have HRq : Hid (World.cell? (World.setCells w2 db (11 + p * 5) (k5 1 0 0 0 u)) ⟨db, q, none⟩ = some (.int .u32 u)) := Lib.hid ((HQ.out.dom.c q (by omega)).trans (by rw [updL_reg _ _ _ _ _ _ _ _ (by omega), ← HQ2.out.dom.c q (by omega)]; exact HR.out _ HB2.out))
  refine hK.out _ (World.setCells w2 db (11 + p * 5) (k5 1 0 0 0 u)) ⟨HI5.out.c1, HI5.out.c2, HRq.out⟩ (fun hHeld => ?_)
  clear hK K
  (try simp only [Act.put, List.getElem_toArray, List.getElem_cons_succ, List.getElem_cons_zero, List.setIfInBounds_toArray, List.set_cons_zero, List.set_cons_succ])
  refine wpAnyH_done (by kernel_rfl) ?_ _
  refine NoPanic.normal ?_
  go_upto_region 29 with fail
  have HT1 := Lib.hid (there_same HT.out (CQ.mine H.out HM.out HQ.out)); go_wp2_with (refine wpList_store_mid (by rfl) _ _ _ (by rfl) (w.heap.size + 1) 0 (evA 0 0 0) (by rfl) (by rfl) HT1.out infoEv (evA_one _ _ _) ?_); have hld := (evA_ok 0 0 0).load ((evA_ok 0 0 0).stored HT1.out); refine bodyPost_ret (v := .agg (evA 0 0 0)) (results_ev Tryd.results42 _ _ _ _ _ (by rfl) hld) rfl ⟨rfl, ?_⟩; exact CQ.out H.out HM.out HQ.out _ _
set_option maxRecDepth 100000 in
set_option maxHeartbeats 4000000 in
theorem cdo_kget {w0 : World} {mb S : Nat} {a b : Shp} {N cb : Nat} {th : Nat → Bool} {vr_ : Nat → Int} {W : Nat → Nat → Value} {th2 : Nat → Bool} {vr2 : Nat → Int} {W2 : Nat → Nat → Int} {hits : Int} {v : Value} {E : List EW} {db : Nat} {f : Nat → Value} (A B : Int) (p q : Nat) (hA : Hid (A = p ∧ B = q)) (hp : p < 8) (hq : q < 16) (y0 y1 y2 y3 y4 : Int) (hy : Hid (KF f q y0 y1 y2 y3 y4)) (u : Int) (hu : Hid ((if y0 = 1 then y4 else 0) = u)) (w : World) (h : (CpAt w0 w mb S a b N cb th vr_ W th2 vr2 W2 hits v E db f)) :
    Calls Tryd.prog 42 #[.pointer (some ⟨mb, 0, none⟩), .pointer (some ⟨db, 0, none⟩), (Value.agg #[.int .i64 10, .int .i64 A, .int .i64 B, .int .i64 0, .int .i64 0])] w fun e w' => e = .returned (.agg (evA 0 0 0)) ∧ CQ w0 w mb S a b N cb th vr_ W th2 vr2 W2 hits hits v E db (updD f p (.int .u32 u)) w' := by
  obtain ⟨e1, e2⟩ := hA.out
  subst e1 e2
  have H := Lib.hid h
  have a0 : (0 : Int) ≤ p := by omega
  have a1 : (p : Int) < 8 := by omega
  have b0 : (0 : Int) ≤ q := by omega
  have b1 : (q : Int) < 16 := by omega
  clear h hA
  go_enter Tryd.func42, Tryd.ntmps42; go_upto_region 1 with fail; generalize hA : World.alloc (World.alloc w _) _ = wA; have HM : Hid (Mine w wA (w.heap.size + 1)) := Lib.hid ⟨by rw [← hA]; exact ((Below.refl _ _).alloc (Nat.le_refl _) _).alloc (by simp) _, by omega, by rw [← hA]; simp⟩; have HT : Hid (World.there wA (w.heap.size + 1) 0 28) := Lib.hid (by rw [← hA]; exact there_new2 _ _ _ _ rfl _); have HI := Lib.hid (by rw [← hA]; exact Ins.new _ _ _ _ _ _ _ _ : Ins wA w.heap.size _ _ _ _ _); clear hA; have HA := Lib.hid (H.out.below HM.out.bel); have i0 := HI.out.c0; have i1 := HI.out.c1; have i2 := HI.out.c2; have i3 := HI.out.c3; have i4 := HI.out.c4
  have HAd := Lib.hid (HA.out.cq.below (Below.refl wA.heap.size wA).drew)
  have HKC : Hid (∀ w', Below wA.heap.size wA.drew w' → (World.cell? w' ⟨db, 11 + q * 5, none⟩ = some (.int .i64 y0) ∧ World.cell? w' ⟨db, 11 + q * 5 + 1, none⟩ = some (.int .i64 y1) ∧ World.cell? w' ⟨db, 11 + q * 5 + 2, none⟩ = some (.int .i64 y2) ∧ World.cell? w' ⟨db, 11 + q * 5 + 3, none⟩ = some (.int .i64 y3) ∧ World.cell? w' ⟨db, 11 + q * 5 + 4, none⟩ = some (.int .u32 y4))) := Lib.hid (fun w' hb => hy.out.cells y0 y1 y2 y3 y4 (HAd.out.below hb).dom hq)
  have HI3 := Lib.hid (HI.out.below (Below.refl wA.heap.size wA).drew)
  go_upto_region 22 with fail
  refine wp_region_noPanic ?_
  refine wp_region_held_drew (S := fun w' => World.cell? w' ⟨w.heap.size, 1, none⟩ = some (.int .i64 (p : Int)) ∧ World.cell? w' ⟨w.heap.size, 2, none⟩ = some (.int .i64 (q : Int)) ∧ (World.cell? w' ⟨db, 11 + q * 5, none⟩ = some (.int .i64 y0) ∧ World.cell? w' ⟨db, 11 + q * 5 + 1, none⟩ = some (.int .i64 y1) ∧ World.cell? w' ⟨db, 11 + q * 5 + 2, none⟩ = some (.int .i64 y2) ∧ World.cell? w' ⟨db, 11 + q * 5 + 3, none⟩ = some (.int .i64 y3) ∧ World.cell? w' ⟨db, 11 + q * 5 + 4, none⟩ = some (.int .u32 y4))) (by kernel_rfl) ⟨HI3.out.c1, HI3.out.c2, HKC.out _ (Below.refl _ _)⟩ (fun hHeld => ?_)
  refine wpAnyH_take (i := 0) (v := ?_) (by rfl) (by kernel_rfl) (by kernel_rfl) (by kernel_rfl) (fun _ _ _ h => h) (Or.inl ⟨by kernel_rfl, ?_⟩) (by assumption) ?_; rotate_left 1; (focus (intro w hSw; (try dsimp only at hSw); simp only [List.getElem_toArray, List.getElem_cons_succ, List.getElem_cons_zero]; all_goals go_simp; all_goals (try with_reducible rfl))); (try simp only [Act.put, List.getElem_toArray, List.getElem_cons_succ, List.getElem_cons_zero, List.setIfInBounds_toArray, List.set_cons_zero, List.set_cons_succ])
  refine wpAnyH_take (i := 1) (v := ?_) (by rfl) (by kernel_rfl) (by kernel_rfl) (by kernel_rfl) (fun _ _ _ h => h) (Or.inl ⟨by kernel_rfl, ?_⟩) (by assumption) ?_; rotate_left 1; (focus (intro w hSw; (try dsimp only at hSw); simp only [List.getElem_toArray, List.getElem_cons_succ, List.getElem_cons_zero]; all_goals go_simp; all_goals (try with_reducible rfl))); (try simp only [Act.put, List.getElem_toArray, List.getElem_cons_succ, List.getElem_cons_zero, List.setIfInBounds_toArray, List.set_cons_zero, List.set_cons_succ])
  refine wpAnyH_take (i := 2) (v := ?_) (by rfl) (by kernel_rfl) (by kernel_rfl) (by kernel_rfl) (fun _ _ _ h => h) (Or.inl ⟨by kernel_rfl, ?_⟩) (by assumption) ?_; rotate_left 1; (focus (intro w hSw; (try dsimp only at hSw); simp only [List.getElem_toArray, List.getElem_cons_succ, List.getElem_cons_zero]; all_goals go_simp; all_goals (try with_reducible rfl))); (try simp only [Act.put, List.getElem_toArray, List.getElem_cons_succ, List.getElem_cons_zero, List.setIfInBounds_toArray, List.set_cons_zero, List.set_cons_succ])
  refine wpAnyH_take (i := 3) (v := ?_) (by rfl) (by kernel_rfl) (by kernel_rfl) (by kernel_rfl) (fun _ _ _ h => h) (Or.inl ⟨by kernel_rfl, ?_⟩) (by assumption) ?_; rotate_left 1; (focus (intro w hSw; (try dsimp only at hSw); simp only [List.getElem_toArray, List.getElem_cons_succ, List.getElem_cons_zero]; all_goals go_simp; all_goals (try with_reducible rfl))); (try simp only [Act.put, List.getElem_toArray, List.getElem_cons_succ, List.getElem_cons_zero, List.setIfInBounds_toArray, List.set_cons_zero, List.set_cons_succ])
  refine wpAnyH_take (i := 4) (v := ?_) (by rfl) (by kernel_rfl) (by kernel_rfl) (by kernel_rfl) (fun _ _ _ h => h) (Or.inl ⟨by kernel_rfl, ?_⟩) (by assumption) ?_; rotate_left 1; (focus (intro w hSw; (try dsimp only at hSw); simp only [List.getElem_toArray, List.getElem_cons_succ, List.getElem_cons_zero]; all_goals go_simp; all_goals (try with_reducible rfl))); (try simp only [Act.put, List.getElem_toArray, List.getElem_cons_succ, List.getElem_cons_zero, List.setIfInBounds_toArray, List.set_cons_zero, List.set_cons_succ])
  refine wpAnyH_take (i := 5) (v := ?_) (by rfl) (by kernel_rfl) (by kernel_rfl) (by kernel_rfl) (fun _ _ _ h => h) (Or.inl ⟨by kernel_rfl, ?_⟩) (by assumption) ?_; rotate_left 1; (focus (intro w hSw; (try dsimp only at hSw); simp only [List.getElem_toArray, List.getElem_cons_succ, List.getElem_cons_zero]; all_goals go_simp; all_goals (try with_reducible rfl))); (try simp only [Act.put, List.getElem_toArray, List.getElem_cons_succ, List.getElem_cons_zero, List.setIfInBounds_toArray, List.set_cons_zero, List.set_cons_succ])
  refine wpAnyH_take (i := 6) (v := ?_) (by rfl) (by kernel_rfl) (by kernel_rfl) (by kernel_rfl) (fun _ _ _ h => h) (Or.inl ⟨by kernel_rfl, ?_⟩) (by assumption) ?_; rotate_left 1; (focus (intro w hSw; (try dsimp only at hSw); simp only [List.getElem_toArray, List.getElem_cons_succ, List.getElem_cons_zero]; all_goals go_simp; all_goals (try with_reducible rfl))); (try simp only [Act.put, List.getElem_toArray, List.getElem_cons_succ, List.getElem_cons_zero, List.setIfInBounds_toArray, List.set_cons_zero, List.set_cons_succ])
  refine wpAnyH_take (i := 7) (v := ?_) (by rfl) (by kernel_rfl) (by kernel_rfl) (by kernel_rfl) (fun _ _ _ h => h) (Or.inl ⟨by kernel_rfl, ?_⟩) (by assumption) ?_; rotate_left 1; (focus (intro w hSw; (try dsimp only at hSw); simp only [List.getElem_toArray, List.getElem_cons_succ, List.getElem_cons_zero]; all_goals go_simp; all_goals (try with_reducible rfl))); (try simp only [Act.put, List.getElem_toArray, List.getElem_cons_succ, List.getElem_cons_zero, List.setIfInBounds_toArray, List.set_cons_zero, List.set_cons_succ])
  refine wpAnyH_take (i := 8) (v := ?_) (by rfl) (by kernel_rfl) (by kernel_rfl) (by kernel_rfl) (fun _ _ _ h => h) (Or.inl ⟨by kernel_rfl, ?_⟩) (by assumption) ?_; rotate_left 1; (focus (intro w hSw; (try dsimp only at hSw); simp only [List.getElem_toArray, List.getElem_cons_succ, List.getElem_cons_zero]; all_goals go_simp; all_goals (try with_reducible rfl))); (try simp only [Act.put, List.getElem_toArray, List.getElem_cons_succ, List.getElem_cons_zero, List.setIfInBounds_toArray, List.set_cons_zero, List.set_cons_succ])
  refine wpAnyH_take (i := 9) (v := ?_) (by rfl) (by kernel_rfl) (by kernel_rfl) (by kernel_rfl) (fun _ _ _ h => h) (Or.inl ⟨by kernel_rfl, ?_⟩) (by assumption) ?_; rotate_left 1; (focus (intro w hSw; (try dsimp only at hSw); simp only [List.getElem_toArray, List.getElem_cons_succ, List.getElem_cons_zero]; all_goals go_simp; all_goals (try with_reducible rfl))); (try simp only [Act.put, List.getElem_toArray, List.getElem_cons_succ, List.getElem_cons_zero, List.setIfInBounds_toArray, List.set_cons_zero, List.set_cons_succ])
  refine wpAnyH_take (i := 11) (v := ?_) (by rfl) (by kernel_rfl) (by kernel_rfl) (by kernel_rfl) (fun _ _ _ h => h) (Or.inl ⟨by kernel_rfl, ?_⟩) (by assumption) ?_; rotate_left 1; (focus (intro w hSw; (try dsimp only at hSw); simp only [List.getElem_toArray, List.getElem_cons_succ, List.getElem_cons_zero]; all_goals go_simp; all_goals (try with_reducible rfl))); (try simp only [Act.put, List.getElem_toArray, List.getElem_cons_succ, List.getElem_cons_zero, List.setIfInBounds_toArray, List.set_cons_zero, List.set_cons_succ])
  refine wpAnyH_take (i := 12) (v := ?_) (by rfl) (by kernel_rfl) (by kernel_rfl) (by kernel_rfl) (fun _ _ _ h => h) (Or.inl ⟨by kernel_rfl, ?_⟩) (by assumption) ?_; rotate_left 1; (focus (intro w hSw; (try dsimp only at hSw); simp only [List.getElem_toArray, List.getElem_cons_succ, List.getElem_cons_zero]; all_goals go_simp; all_goals (try with_reducible rfl))); (try simp only [Act.put, List.getElem_toArray, List.getElem_cons_succ, List.getElem_cons_zero, List.setIfInBounds_toArray, List.set_cons_zero, List.set_cons_succ])
  refine wpAnyH_take (i := 13) (v := ?_) (by rfl) (by kernel_rfl) (by kernel_rfl) (by kernel_rfl) (fun _ _ _ h => h) (Or.inl ⟨by kernel_rfl, ?_⟩) (by assumption) ?_; rotate_left 1; (focus (intro w hSw; (try dsimp only at hSw); simp only [List.getElem_toArray, List.getElem_cons_succ, List.getElem_cons_zero]; all_goals go_simp; all_goals (try with_reducible rfl))); (try simp only [Act.put, List.getElem_toArray, List.getElem_cons_succ, List.getElem_cons_zero, List.setIfInBounds_toArray, List.set_cons_zero, List.set_cons_succ])
  refine wpAnyH_ready (rs := [10]) (by kernel_rfl) (by simp) ?_; refine AllReadyH.cons (by rfl) (fun K hK => ?_) AllReadyH.nil; rw [if_pos (by kernel_rfl)]; simp only [List.getElem_toArray, List.getElem_cons_succ, List.getElem_cons_zero]
  go_wp2_with (first
    | (go_at_call 62; (with_reducible refine (numberOf_is y0 y1 y2 y3 y4 u hu _).mono ?_); rintro e w2 ⟨rfl, hb⟩; have HB2 := Lib.hid hb; clear hb))
  have HQ2 := Lib.hid (HAd.out.below HB2.out)
  have HI4 := Lib.hid (HI3.out.below HB2.out)
  refine hK.out _ _ ⟨HI4.out.c1, HI4.out.c2, HKC.out _ HB2.out⟩ (fun hHeld => ?_)
  clear hK K
  (try simp only [Act.put, List.getElem_toArray, List.getElem_cons_succ, List.getElem_cons_zero, List.setIfInBounds_toArray, List.set_cons_zero, List.set_cons_succ])
  refine wpAnyH_take (i := 14) (v := ?_) (by rfl) (by kernel_rfl) (by kernel_rfl) (by kernel_rfl) (fun _ _ _ h => h) (Or.inl ⟨by kernel_rfl, ?_⟩) (by assumption) ?_; rotate_left 1; (focus (intro w hSw; (try dsimp only at hSw); simp only [List.getElem_toArray, List.getElem_cons_succ, List.getElem_cons_zero]; all_goals go_simp; all_goals (try with_reducible rfl))); (try simp only [Act.put, List.getElem_toArray, List.getElem_cons_succ, List.getElem_cons_zero, List.setIfInBounds_toArray, List.set_cons_zero, List.set_cons_succ])
  refine wpAnyH_ready (rs := [15]) (by kernel_rfl) (by simp) ?_; refine AllReadyH.cons (by rfl) (fun K hK => ?_) AllReadyH.nil; rw [if_pos (by kernel_rfl)]; simp only [List.getElem_toArray, List.getElem_cons_succ, List.getElem_cons_zero]
  have c8 := HQ2.out.dom.c p (by omega)
  have z8 := HQ2.out.dom.fr p
  have HQ := Lib.hid (HQ2.out.set p (.int .u32 u) (by omega))
  have HI5 := Lib.hid (HI4.out.same (by simp) (set_heap w2 db w.heap.size p (.int .u32 u) (Nat.ne_of_gt H.out.d.lt)))
  have HK5 := Lib.hid ((hy.out.reg p (.int .u32 u) (by omega)).cells y0 y1 y2 y3 y4 HQ.out.dom hq)
  go_wp2_with fail
  refine hK.out _ _ ⟨HI5.out.c1, HI5.out.c2, HK5.out⟩ (fun hHeld => ?_)
  clear hK K c8 z8
  (try simp only [Act.put, List.getElem_toArray, List.getElem_cons_succ, List.getElem_cons_zero, List.setIfInBounds_toArray, List.set_cons_zero, List.set_cons_succ])
  refine wpAnyH_done (by kernel_rfl) ?_ _
  refine NoPanic.normal ?_
  go_upto_region 29 with fail
  have HT1 := Lib.hid (there_same HT.out (CQ.mine H.out HM.out HQ.out)); go_wp2_with (refine wpList_store_mid (by rfl) _ _ _ (by rfl) (w.heap.size + 1) 0 (evA 0 0 0) (by rfl) (by rfl) HT1.out infoEv (evA_one _ _ _) ?_); have hld := (evA_ok 0 0 0).load ((evA_ok 0 0 0).stored HT1.out); refine bodyPost_ret (v := .agg (evA 0 0 0)) (results_ev Tryd.results42 _ _ _ _ _ (by rfl) hld) rfl ⟨rfl, ?_⟩; exact CQ.out H.out HM.out HQ.out _ _
end Go.Proofs.YtjkbfhojjjkgnaaDoor
namespace Go.Proofs.YtjkbfhojjjkgnaaDoor
open Go.ChangeShapes Go.WideShapes Go.ChangeAt Go.RowKit
set_option linter.unusedVariables false
set_option linter.unusedSimpArgs false
theorem wdo_add (a b : Int) (w : World) : Calls Tryd.prog 59 #[.int .i64 0, .int .u32 a, .int .u32 b] w fun e w' => e = .returned (.tuple #[.int .u32 ((a + b) % 4294967296), .bool true]) ∧ w = w' := by
  go_enter Tryd.func59, Tryd.ntmps59
  go_wp2_with fail
  go_ret2
  exact ⟨rfl, rfl⟩
theorem wdo_sub (a b : Int) (w : World) : Calls Tryd.prog 59 #[.int .i64 1, .int .u32 a, .int .u32 b] w fun e w' => e = .returned (.tuple #[.int .u32 ((a - b) % 4294967296), .bool true]) ∧ w = w' := by
  go_enter Tryd.func59, Tryd.ntmps59
  go_wp2_with fail
  go_ret2
  exact ⟨rfl, rfl⟩
set_option maxRecDepth 100000 in
set_option maxHeartbeats 4000000 in
theorem cdo_alu {w0 : World} {mb S : Nat} {a b : Shp} {N cb : Nat} {th : Nat → Bool} {vr_ : Nat → Int} {W : Nat → Nat → Value} {th2 : Nat → Bool} {vr2 : Nat → Int} {W2 : Nat → Nat → Int} {hits : Int} {v : Value} {E : List EW} {db : Nat} {f : Nat → Value} (A C op : Int) (p r : Nat) (hA : Hid (A = p ∧ C = r)) (hp : p < 8) (hr : r < 8) (hpr : Hid (p ≠ r)) (x y u : Int) (hx : f p = .int .u32 x) (hy : f r = .int .u32 y) (t : Bool) (hdo : Hid (∀ w, Calls Tryd.prog 59 #[.int .i64 op, .int .u32 x, .int .u32 y] w fun e w' => e = .returned (.tuple #[.int .u32 u, .bool t]) ∧ w = w')) (w : World) (h : (CpAt w0 w mb S a b N cb th vr_ W th2 vr2 W2 hits v E db f)) :
    Calls Tryd.prog 42 #[.pointer (some ⟨mb, 0, none⟩), .pointer (some ⟨db, 0, none⟩), (Value.agg #[.int .i64 3, .int .i64 A, .int .i64 A, .int .i64 C, .int .i64 op])] w fun e w' => e = .returned (.agg (evA 0 0 0)) ∧ CQ w0 w mb S a b N cb th vr_ W th2 vr2 W2 hits hits v E db (updD f p (.int .u32 u)) w' := by
  obtain ⟨e1, e2⟩ := hA.out
  subst e1 e2
  have H := Lib.hid h
  have a0 : (0 : Int) ≤ p := by omega
  have a1 : (p : Int) < 8 := by omega
  have g0 : (0 : Int) ≤ r := by omega
  have g1 : (r : Int) < 8 := by omega
  clear h hA
  go_enter Tryd.func42, Tryd.ntmps42; go_upto_region 1 with fail; generalize hA : World.alloc (World.alloc w _) _ = wA; have HM : Hid (Mine w wA (w.heap.size + 1)) := Lib.hid ⟨by rw [← hA]; exact ((Below.refl _ _).alloc (Nat.le_refl _) _).alloc (by simp) _, by omega, by rw [← hA]; simp⟩; have HT : Hid (World.there wA (w.heap.size + 1) 0 28) := Lib.hid (by rw [← hA]; exact there_new2 _ _ _ _ rfl _); have HI := Lib.hid (by rw [← hA]; exact Ins.new _ _ _ _ _ _ _ _ : Ins wA w.heap.size _ _ _ _ _); clear hA; have HA := Lib.hid (H.out.below HM.out.bel); have i0 := HI.out.c0; have i1 := HI.out.c1; have i2 := HI.out.c2; have i3 := HI.out.c3; have i4 := HI.out.c4
  have HAd := Lib.hid (HA.out.cq.below (Below.refl wA.heap.size wA).drew)
  have HI3 := Lib.hid (HI.out.below (Below.refl wA.heap.size wA).drew)
  have HX : Hid (World.cell? wA.drew ⟨db, p, none⟩ = some (.int .u32 x)) := Lib.hid ((HAd.out.dom.c p (by omega)).trans (by rw [hx]))
  have HY : Hid (World.cell? wA.drew ⟨db, r, none⟩ = some (.int .u32 y)) := Lib.hid ((HAd.out.dom.c r (by omega)).trans (by rw [hy]))
  clear hx hy
  go_upto_region 8 with fail
  refine wp_region_noPanic ?_
  refine wp_region_held_drew (S := fun w' => World.cell? w' ⟨w.heap.size, 1, none⟩ = some (.int .i64 (p : Int)) ∧ World.cell? w' ⟨w.heap.size, 2, none⟩ = some (.int .i64 (p : Int)) ∧ World.cell? w' ⟨w.heap.size, 3, none⟩ = some (.int .i64 (r : Int)) ∧ World.cell? w' ⟨w.heap.size, 4, none⟩ = some (.int .i64 op) ∧ World.cell? w' ⟨db, r, none⟩ = some (.int .u32 y)) (by kernel_rfl) ⟨HI3.out.c1, HI3.out.c2, HI3.out.c3, HI3.out.c4, HY.out⟩ (fun hHeld => ?_)
  refine wpAnyH_take (i := 0) (v := ?_) (by rfl) (by kernel_rfl) (by kernel_rfl) (by kernel_rfl) (fun _ _ _ h => h) (Or.inl ⟨by kernel_rfl, ?_⟩) (by assumption) ?_; rotate_left 1; (focus (intro w hSw; (try dsimp only at hSw); simp only [List.getElem_toArray, List.getElem_cons_succ, List.getElem_cons_zero]; all_goals go_simp; all_goals (try with_reducible rfl))); (try simp only [Act.put, List.getElem_toArray, List.getElem_cons_succ, List.getElem_cons_zero, List.setIfInBounds_toArray, List.set_cons_zero, List.set_cons_succ])
  refine wpAnyH_take (i := 1) (v := ?_) (by rfl) (by kernel_rfl) (by kernel_rfl) (by kernel_rfl) (fun _ _ _ h => h) (Or.inl ⟨by kernel_rfl, ?_⟩) (by assumption) ?_; rotate_left 1; (focus (intro w hSw; (try dsimp only at hSw); simp only [List.getElem_toArray, List.getElem_cons_succ, List.getElem_cons_zero]; all_goals go_simp; all_goals (try with_reducible rfl))); (try simp only [Act.put, List.getElem_toArray, List.getElem_cons_succ, List.getElem_cons_zero, List.setIfInBounds_toArray, List.set_cons_zero, List.set_cons_succ])
  refine wpAnyH_take (i := 2) (v := ?_) (by rfl) (by kernel_rfl) (by kernel_rfl) (by kernel_rfl) (fun _ _ _ h => h) (Or.inl ⟨by kernel_rfl, ?_⟩) (by assumption) ?_; rotate_left 1; (focus (intro w hSw; (try dsimp only at hSw); simp only [List.getElem_toArray, List.getElem_cons_succ, List.getElem_cons_zero]; all_goals go_simp; all_goals (try with_reducible rfl))); (try simp only [Act.put, List.getElem_toArray, List.getElem_cons_succ, List.getElem_cons_zero, List.setIfInBounds_toArray, List.set_cons_zero, List.set_cons_succ])
  refine wpAnyH_take (i := 3) (v := ?_) (by rfl) (by kernel_rfl) (by kernel_rfl) (by kernel_rfl) (fun _ _ _ h => h) (Or.inl ⟨by kernel_rfl, ?_⟩) (by assumption) ?_; rotate_left 1; (focus (intro w hSw; (try dsimp only at hSw); simp only [List.getElem_toArray, List.getElem_cons_succ, List.getElem_cons_zero]; all_goals go_simp; all_goals (try with_reducible rfl))); (try simp only [Act.put, List.getElem_toArray, List.getElem_cons_succ, List.getElem_cons_zero, List.setIfInBounds_toArray, List.set_cons_zero, List.set_cons_succ])
  refine wpAnyH_take (i := 4) (v := ?_) (by rfl) (by kernel_rfl) (by kernel_rfl) (by kernel_rfl) (fun _ _ _ h => h) (Or.inl ⟨by kernel_rfl, ?_⟩) (by assumption) ?_; rotate_left 1; (focus (intro w hSw; (try dsimp only at hSw); simp only [List.getElem_toArray, List.getElem_cons_succ, List.getElem_cons_zero]; all_goals go_simp; all_goals (try with_reducible rfl))); (try simp only [Act.put, List.getElem_toArray, List.getElem_cons_succ, List.getElem_cons_zero, List.setIfInBounds_toArray, List.set_cons_zero, List.set_cons_succ])
  refine wpAnyH_take (i := 5) (v := ?_) (by rfl) (by kernel_rfl) (by kernel_rfl) (by kernel_rfl) (fun _ _ _ h => h) (Or.inl ⟨by kernel_rfl, ?_⟩) (by assumption) ?_; rotate_left 1; (focus (intro w hSw; (try dsimp only at hSw); simp only [List.getElem_toArray, List.getElem_cons_succ, List.getElem_cons_zero]; all_goals go_simp; all_goals (try with_reducible rfl))); (try simp only [Act.put, List.getElem_toArray, List.getElem_cons_succ, List.getElem_cons_zero, List.setIfInBounds_toArray, List.set_cons_zero, List.set_cons_succ])
  refine wpAnyH_take (i := 6) (v := ?_) (by rfl) (by kernel_rfl) (by kernel_rfl) (by kernel_rfl) (fun _ _ _ h => h) (Or.inl ⟨by kernel_rfl, ?_⟩) (by assumption) ?_; rotate_left 1; (focus (intro w hSw; (try dsimp only at hSw); simp only [List.getElem_toArray, List.getElem_cons_succ, List.getElem_cons_zero]; all_goals go_simp; all_goals (try with_reducible rfl))); (try simp only [Act.put, List.getElem_toArray, List.getElem_cons_succ, List.getElem_cons_zero, List.setIfInBounds_toArray, List.set_cons_zero, List.set_cons_succ])
  refine wpAnyH_take (i := 7) (v := ?_) (by rfl) (by kernel_rfl) (by kernel_rfl) (by kernel_rfl) (fun _ _ _ h => h) (Or.inl ⟨by kernel_rfl, ?_⟩) (by assumption) ?_; rotate_left 1; (focus (intro w hSw; (try dsimp only at hSw); simp only [List.getElem_toArray, List.getElem_cons_succ, List.getElem_cons_zero]; all_goals go_simp; all_goals (try with_reducible rfl))); (try simp only [Act.put, List.getElem_toArray, List.getElem_cons_succ, List.getElem_cons_zero, List.setIfInBounds_toArray, List.set_cons_zero, List.set_cons_succ])
  refine wpAnyH_take (i := 8) (v := ?_) (by rfl) (by kernel_rfl) (by kernel_rfl) (by kernel_rfl) (fun _ _ _ h => h) (Or.inl ⟨by kernel_rfl, ?_⟩) (by assumption) ?_; rotate_left 1; (focus (intro w hSw; (try dsimp only at hSw); simp only [List.getElem_toArray, List.getElem_cons_succ, List.getElem_cons_zero]; all_goals go_simp; all_goals (try with_reducible rfl))); (try simp only [Act.put, List.getElem_toArray, List.getElem_cons_succ, List.getElem_cons_zero, List.setIfInBounds_toArray, List.set_cons_zero, List.set_cons_succ])
  refine wpAnyH_take (i := 9) (v := ?_) (by rfl) (by kernel_rfl) (by kernel_rfl) (by kernel_rfl) (fun _ _ _ h => h) (Or.inl ⟨by kernel_rfl, ?_⟩) (by assumption) ?_; rotate_left 1; (focus (intro w hSw; (try dsimp only at hSw); simp only [List.getElem_toArray, List.getElem_cons_succ, List.getElem_cons_zero]; all_goals go_simp; all_goals (try with_reducible rfl))); (try simp only [Act.put, List.getElem_toArray, List.getElem_cons_succ, List.getElem_cons_zero, List.setIfInBounds_toArray, List.set_cons_zero, List.set_cons_succ])
  refine wpAnyH_take (i := 10) (v := ?_) (by rfl) (by kernel_rfl) (by kernel_rfl) (by kernel_rfl) (fun _ _ _ h => h) (Or.inl ⟨by kernel_rfl, ?_⟩) (by assumption) ?_; rotate_left 1; (focus (intro w hSw; (try dsimp only at hSw); simp only [List.getElem_toArray, List.getElem_cons_succ, List.getElem_cons_zero]; all_goals go_simp; all_goals (try with_reducible rfl))); (try simp only [Act.put, List.getElem_toArray, List.getElem_cons_succ, List.getElem_cons_zero, List.setIfInBounds_toArray, List.set_cons_zero, List.set_cons_succ])
  refine wpAnyH_take (i := 11) (v := ?_) (by rfl) (by kernel_rfl) (by kernel_rfl) (by kernel_rfl) (fun _ _ _ h => h) (Or.inl ⟨by kernel_rfl, ?_⟩) (by assumption) ?_; rotate_left 1; (focus (intro w hSw; (try dsimp only at hSw); simp only [List.getElem_toArray, List.getElem_cons_succ, List.getElem_cons_zero]; all_goals go_simp; all_goals (try with_reducible rfl))); (try simp only [Act.put, List.getElem_toArray, List.getElem_cons_succ, List.getElem_cons_zero, List.setIfInBounds_toArray, List.set_cons_zero, List.set_cons_succ])
  refine wpAnyH_take (i := 13) (v := ?_) (by rfl) (by kernel_rfl) (by kernel_rfl) (by kernel_rfl) (fun _ _ _ h => h) (Or.inl ⟨by kernel_rfl, ?_⟩) (by assumption) ?_; rotate_left 1; (focus (intro w hSw; (try dsimp only at hSw); simp only [List.getElem_toArray, List.getElem_cons_succ, List.getElem_cons_zero]; all_goals go_simp; all_goals (try with_reducible rfl))); (try simp only [Act.put, List.getElem_toArray, List.getElem_cons_succ, List.getElem_cons_zero, List.setIfInBounds_toArray, List.set_cons_zero, List.set_cons_succ])
  refine wpAnyH_take (i := 14) (v := ?_) (by rfl) (by kernel_rfl) (by kernel_rfl) (by kernel_rfl) (fun _ _ _ h => h) (Or.inl ⟨by kernel_rfl, ?_⟩) (by assumption) ?_; rotate_left 1; (focus (intro w hSw; (try dsimp only at hSw); simp only [List.getElem_toArray, List.getElem_cons_succ, List.getElem_cons_zero]; all_goals go_simp; all_goals (try with_reducible rfl))); (try simp only [Act.put, List.getElem_toArray, List.getElem_cons_succ, List.getElem_cons_zero, List.setIfInBounds_toArray, List.set_cons_zero, List.set_cons_succ])
  refine wpAnyH_take (i := 15) (v := ?_) (by rfl) (by kernel_rfl) (by kernel_rfl) (by kernel_rfl) (fun _ _ _ h => h) (Or.inl ⟨by kernel_rfl, ?_⟩) (by assumption) ?_; rotate_left 1; (focus (intro w hSw; (try dsimp only at hSw); simp only [List.getElem_toArray, List.getElem_cons_succ, List.getElem_cons_zero]; all_goals go_simp; all_goals (try with_reducible rfl))); (try simp only [Act.put, List.getElem_toArray, List.getElem_cons_succ, List.getElem_cons_zero, List.setIfInBounds_toArray, List.set_cons_zero, List.set_cons_succ])
  refine wpAnyH_take (i := 16) (v := ?_) (by rfl) (by kernel_rfl) (by kernel_rfl) (by kernel_rfl) (fun _ _ _ h => h) (Or.inl ⟨by kernel_rfl, ?_⟩) (by assumption) ?_; rotate_left 1; (focus (intro w hSw; (try dsimp only at hSw); simp only [List.getElem_toArray, List.getElem_cons_succ, List.getElem_cons_zero]; all_goals go_simp; all_goals (try with_reducible rfl))); (try simp only [Act.put, List.getElem_toArray, List.getElem_cons_succ, List.getElem_cons_zero, List.setIfInBounds_toArray, List.set_cons_zero, List.set_cons_succ])
  refine wpAnyH_take (i := 17) (v := ?_) (by rfl) (by kernel_rfl) (by kernel_rfl) (by kernel_rfl) (fun _ _ _ h => h) (Or.inl ⟨by kernel_rfl, ?_⟩) (by assumption) ?_; rotate_left 1; (focus (intro w hSw; (try dsimp only at hSw); simp only [List.getElem_toArray, List.getElem_cons_succ, List.getElem_cons_zero]; all_goals go_simp; all_goals (try with_reducible rfl))); (try simp only [Act.put, List.getElem_toArray, List.getElem_cons_succ, List.getElem_cons_zero, List.setIfInBounds_toArray, List.set_cons_zero, List.set_cons_succ])
  refine wpAnyH_take (i := 18) (v := ?_) (by rfl) (by kernel_rfl) (by kernel_rfl) (by kernel_rfl) (fun _ _ _ h => h) (Or.inl ⟨by kernel_rfl, ?_⟩) (by assumption) ?_; rotate_left 1; (focus (intro w hSw; (try dsimp only at hSw); simp only [List.getElem_toArray, List.getElem_cons_succ, List.getElem_cons_zero]; all_goals go_simp; all_goals (try with_reducible rfl))); (try simp only [Act.put, List.getElem_toArray, List.getElem_cons_succ, List.getElem_cons_zero, List.setIfInBounds_toArray, List.set_cons_zero, List.set_cons_succ])
  refine wpAnyH_take (i := 19) (v := ?_) (by rfl) (by kernel_rfl) (by kernel_rfl) (by kernel_rfl) (fun _ _ _ h => h) (Or.inl ⟨by kernel_rfl, ?_⟩) (by assumption) ?_; rotate_left 1; (focus (intro w hSw; (try dsimp only at hSw); simp only [List.getElem_toArray, List.getElem_cons_succ, List.getElem_cons_zero]; all_goals go_simp; all_goals (try with_reducible rfl))); (try simp only [Act.put, List.getElem_toArray, List.getElem_cons_succ, List.getElem_cons_zero, List.setIfInBounds_toArray, List.set_cons_zero, List.set_cons_succ])
  refine wpAnyH_take (i := 20) (v := ?_) (by rfl) (by kernel_rfl) (by kernel_rfl) (by kernel_rfl) (fun _ _ _ h => h) (Or.inl ⟨by kernel_rfl, ?_⟩) (by assumption) ?_; rotate_left 1; (focus (intro w hSw; (try dsimp only at hSw); simp only [List.getElem_toArray, List.getElem_cons_succ, List.getElem_cons_zero]; all_goals go_simp; all_goals (try with_reducible rfl))); (try simp only [Act.put, List.getElem_toArray, List.getElem_cons_succ, List.getElem_cons_zero, List.setIfInBounds_toArray, List.set_cons_zero, List.set_cons_succ])
  refine wpAnyH_take (i := 25) (v := ?_) (by rfl) (by kernel_rfl) (by kernel_rfl) (by kernel_rfl) (fun _ _ _ h => h) (Or.inl ⟨by kernel_rfl, ?_⟩) (by assumption) ?_; rotate_left 1; (focus (intro w hSw; (try dsimp only at hSw); simp only [List.getElem_toArray, List.getElem_cons_succ, List.getElem_cons_zero]; all_goals go_simp; all_goals (try with_reducible rfl))); (try simp only [Act.put, List.getElem_toArray, List.getElem_cons_succ, List.getElem_cons_zero, List.setIfInBounds_toArray, List.set_cons_zero, List.set_cons_succ])
  refine wpAnyH_take (i := 26) (v := ?_) (by rfl) (by kernel_rfl) (by kernel_rfl) (by kernel_rfl) (fun _ _ _ h => h) (Or.inl ⟨by kernel_rfl, ?_⟩) (by assumption) ?_; rotate_left 1; (focus (intro w hSw; (try dsimp only at hSw); simp only [List.getElem_toArray, List.getElem_cons_succ, List.getElem_cons_zero]; all_goals go_simp; all_goals (try with_reducible rfl))); (try simp only [Act.put, List.getElem_toArray, List.getElem_cons_succ, List.getElem_cons_zero, List.setIfInBounds_toArray, List.set_cons_zero, List.set_cons_succ])
  refine wpAnyH_take (i := 27) (v := ?_) (by rfl) (by kernel_rfl) (by kernel_rfl) (by kernel_rfl) (fun _ _ _ h => h) (Or.inl ⟨by kernel_rfl, ?_⟩) (by assumption) ?_; rotate_left 1; (focus (intro w hSw; (try dsimp only at hSw); simp only [List.getElem_toArray, List.getElem_cons_succ, List.getElem_cons_zero]; all_goals go_simp; all_goals (try with_reducible rfl))); (try simp only [Act.put, List.getElem_toArray, List.getElem_cons_succ, List.getElem_cons_zero, List.setIfInBounds_toArray, List.set_cons_zero, List.set_cons_succ])
  refine wpAnyH_ready (rs := [12]) (by kernel_rfl) (by simp) ?_; refine AllReadyH.cons (by rfl) (fun K hK => ?_) AllReadyH.nil; rw [if_pos (by kernel_rfl)]; simp only [List.getElem_toArray, List.getElem_cons_succ, List.getElem_cons_zero]
  have hxq := HX.out
  go_wp2_with fail
  refine hK.out _ _ ⟨HI3.out.c1, HI3.out.c2, HI3.out.c3, HI3.out.c4, HY.out⟩ (fun hHeld => ?_)
  clear hK K
  (try simp only [Act.put, List.getElem_toArray, List.getElem_cons_succ, List.getElem_cons_zero, List.setIfInBounds_toArray, List.set_cons_zero, List.set_cons_succ])
  refine wpAnyH_ready (rs := [21]) (by kernel_rfl) (by simp) ?_; refine AllReadyH.cons (by rfl) (fun K hK => ?_) AllReadyH.nil; rw [if_pos (by kernel_rfl)]; simp only [List.getElem_toArray, List.getElem_cons_succ, List.getElem_cons_zero]
  go_wp2_with (first
    | (go_at_call 59; (with_reducible refine (hdo.out _).mono ?_); rintro e w2 ⟨rfl, rfl⟩))
  refine hK.out _ _ ⟨HI3.out.c1, HI3.out.c2, HI3.out.c3, HI3.out.c4, HY.out⟩ (fun hHeld => ?_)
  clear hK K
  (try simp only [Act.put, List.getElem_toArray, List.getElem_cons_succ, List.getElem_cons_zero, List.setIfInBounds_toArray, List.set_cons_zero, List.set_cons_succ])
  refine wpAnyH_take (i := 22) (v := ?_) (by rfl) (by kernel_rfl) (by kernel_rfl) (by kernel_rfl) (fun _ _ _ h => h) (Or.inl ⟨by kernel_rfl, ?_⟩) (by assumption) ?_; rotate_left 1; (focus (intro w hSw; (try dsimp only at hSw); simp only [List.getElem_toArray, List.getElem_cons_succ, List.getElem_cons_zero]; all_goals go_simp; all_goals (try with_reducible rfl))); (try simp only [Act.put, List.getElem_toArray, List.getElem_cons_succ, List.getElem_cons_zero, List.setIfInBounds_toArray, List.set_cons_zero, List.set_cons_succ])
  refine wpAnyH_take (i := 23) (v := ?_) (by rfl) (by kernel_rfl) (by kernel_rfl) (by kernel_rfl) (fun _ _ _ h => h) (Or.inl ⟨by kernel_rfl, ?_⟩) (by assumption) ?_; rotate_left 1; (focus (intro w hSw; (try dsimp only at hSw); simp only [List.getElem_toArray, List.getElem_cons_succ, List.getElem_cons_zero]; all_goals go_simp; all_goals (try with_reducible rfl))); (try simp only [Act.put, List.getElem_toArray, List.getElem_cons_succ, List.getElem_cons_zero, List.setIfInBounds_toArray, List.set_cons_zero, List.set_cons_succ])
  refine wpAnyH_take (i := 24) (v := ?_) (by rfl) (by kernel_rfl) (by kernel_rfl) (by kernel_rfl) (fun _ _ _ h => h) (Or.inl ⟨by kernel_rfl, ?_⟩) (by assumption) ?_; rotate_left 1; (focus (intro w hSw; (try dsimp only at hSw); simp only [List.getElem_toArray, List.getElem_cons_succ, List.getElem_cons_zero]; all_goals go_simp; all_goals (try with_reducible rfl))); (try simp only [Act.put, List.getElem_toArray, List.getElem_cons_succ, List.getElem_cons_zero, List.setIfInBounds_toArray, List.set_cons_zero, List.set_cons_succ])
  refine wpAnyH_take (i := 28) (v := ?_) (by rfl) (by kernel_rfl) (by kernel_rfl) (by kernel_rfl) (fun _ _ _ h => h) (Or.inl ⟨by kernel_rfl, ?_⟩) (by assumption) ?_; rotate_left 1; (focus (intro w hSw; (try dsimp only at hSw); simp only [List.getElem_toArray, List.getElem_cons_succ, List.getElem_cons_zero]; all_goals go_simp; all_goals (try with_reducible rfl))); (try simp only [Act.put, List.getElem_toArray, List.getElem_cons_succ, List.getElem_cons_zero, List.setIfInBounds_toArray, List.set_cons_zero, List.set_cons_succ])
  refine wpAnyH_ready (rs := [29]) (by kernel_rfl) (by simp) ?_; refine AllReadyH.cons (by rfl) (fun K hK => ?_) AllReadyH.nil; rw [if_pos (by kernel_rfl)]; simp only [List.getElem_toArray, List.getElem_cons_succ, List.getElem_cons_zero]
  have c8 := HAd.out.dom.c p (by omega)
  have z8 := HAd.out.dom.fr p
  have HQ := Lib.hid (HAd.out.set p (.int .u32 u) (by omega))
  have HI5 := Lib.hid (HI3.out.same (by simp) (set_heap wA.drew db w.heap.size p (.int .u32 u) (Nat.ne_of_gt H.out.d.lt)))
  have HY5 : Hid (World.cell? (World.setCell wA.drew ⟨db, p, none⟩ (.int .u32 u)) ⟨db, r, none⟩ = some (.int .u32 y)) := Lib.hid ((World.cell?_setCell_other _ _ _ _ (by have := hpr.out; simp; try omega)).trans HY.out)
  clear hxq
  go_wp2_with fail
  refine hK.out _ _ ⟨HI5.out.c1, HI5.out.c2, HI5.out.c3, HI5.out.c4, HY5.out⟩ (fun hHeld => ?_)
  clear hK K c8 z8
  (try simp only [Act.put, List.getElem_toArray, List.getElem_cons_succ, List.getElem_cons_zero, List.setIfInBounds_toArray, List.set_cons_zero, List.set_cons_succ])
  refine wpAnyH_done (by kernel_rfl) ?_ _
  refine NoPanic.normal ?_
  go_upto_region 29 with fail
  have HT1 := Lib.hid (there_same HT.out (CQ.mine H.out HM.out HQ.out)); go_wp2_with (refine wpList_store_mid (by rfl) _ _ _ (by rfl) (w.heap.size + 1) 0 (evA 0 0 0) (by rfl) (by rfl) HT1.out infoEv (evA_one _ _ _) ?_); have hld := (evA_ok 0 0 0).load ((evA_ok 0 0 0).stored HT1.out); refine bodyPost_ret (v := .agg (evA 0 0 0)) (results_ev Tryd.results42 _ _ _ _ _ (by rfl) hld) rfl ⟨rfl, ?_⟩; exact CQ.out H.out HM.out HQ.out _ _
end Go.Proofs.YtjkbfhojjjkgnaaDoor
namespace Go.Proofs.YtjkbfhojjjkgnaaDoor
open Go.ChangeShapes Go.WideShapes Go.ChangeAt Go.RowKit
set_option linter.unusedVariables false
/-- Below the start all is as it was; the forms, the errors. -/
def VW (x y : Addr) (W w : World) : Prop := Below W.heap.size W w ∧ CodeAt (errC x) (errC y) w
theorem VW.step {x y : Addr} {W w w' : World} (h : VW x y W w) (hb : Below w.heap.size w w') : VW x y W w' := ⟨h.1.trans (hb.mono h.1.size), h.2.below hb⟩
theorem VW.alloc {x y : Addr} {W w : World} (h : VW x y W w) (o : Obj) : VW x y W (w.alloc o) := h.step ((Below.refl _ _).alloc (Nat.le_refl _) o)
theorem VW.code {x y : Addr} {W w : World} (h : VW x y W w) : CodeAt (errC x) (errC y) w := h.2
theorem VW.bel {x y : Addr} {W w : World} (h : VW x y W w) : Below W.heap.size W w := h.1
theorem infoWordU : (Tryd.prog.info? 22).map (fun i => (i.zero, i.size, i.bytes)) = some (some (.int .u32 0), 1, 4) := by kernel_rfl
def zf (zs : List (List Int)) (i j : Nat) : Int := (zs.getD i []).getD j 0
def zok (zs : List (List Int)) (i : Nat) : Bool := okB (zf zs i 0) (zf zs i 1) (zf zs i 2) (zf zs i 3) (zf zs i 4)
def zw (zs : List (List Int)) (i : Nat) : Int := wordC (zf zs i 0) (zf zs i 1) (zf zs i 2) (zf zs i 3) (zf zs i 4)
def zws (zs : List (List Int)) (k : Nat) : List Value := (List.range k).map fun i => Value.int .u32 (zw zs i)
theorem zws_succ (zs : List (List Int)) (k : Nat) : zws zs (k + 1) = zws zs k ++ [.int .u32 (zw zs k)] := by simp [zws, List.range_succ]
theorem zws_at (zs : List (List Int)) (n k : Nat) (h : k < n) : (zws zs n)[k]? = some (.int .u32 (zw zs k)) := by simp [zws, h]
/-- Instructions that lie in memory from an address on. -/
def InsAt (w : World) (ad : Addr) (n : Nat) (zs : List (List Int)) : Prop := ad.block < w.heap.size ∧ ∀ i, i < n → w.cell? (ad.add (i * 5)) = some (.int .i64 (zf zs i 0)) ∧ w.cell? (ad.add (i * 5 + 1)) = some (.int .i64 (zf zs i 1)) ∧ w.cell? (ad.add (i * 5 + 2)) = some (.int .i64 (zf zs i 2)) ∧ w.cell? (ad.add (i * 5 + 3)) = some (.int .i64 (zf zs i 3)) ∧ w.cell? (ad.add (i * 5 + 4)) = some (.int .i64 (zf zs i 4))
theorem add_block (ad : Addr) (n : Nat) : (ad.add n).block = ad.block := by unfold Addr.add; split <;> rfl
theorem InsAt.below {w w' : World} {ad : Addr} {n : Nat} {zs : List (List Int)} (h : InsAt w ad n zs) (hb : Below w.heap.size w w') : InsAt w' ad n zs := by
  have e : ∀ k, w'.cell? (ad.add k) = w.cell? (ad.add k) := fun k => hb.cell (p := ad.add k) (by rw [add_block]; exact h.1)
  refine ⟨Nat.lt_of_lt_of_le h.1 hb.size, fun i hi => ?_⟩
  obtain ⟨h0, h1, h2, h3, h4⟩ := h.2 i hi
  exact ⟨(e _).trans h0, (e _).trans h1, (e _).trans h2, (e _).trans h3, (e _).trans h4⟩
/-- One of them, with letters. -/
def InAt (w : World) (e : Addr) (y0 y1 y2 y3 y4 : Int) : Prop := w.cell? e = some (.int .i64 y0) ∧ w.cell? ⟨e.block, e.off + 1, none⟩ = some (.int .i64 y1) ∧ w.cell? ⟨e.block, e.off + 2, none⟩ = some (.int .i64 y2) ∧ w.cell? ⟨e.block, e.off + 3, none⟩ = some (.int .i64 y3) ∧ w.cell? ⟨e.block, e.off + 4, none⟩ = some (.int .i64 y4)
theorem add_moreC (ad : Addr) (i j : Nat) : ad.add (i + (j + 1)) = ⟨(ad.add i).block, (ad.add i).off + (j + 1), none⟩ := by
  rw [← Go.Deep.add_add]
  rfl
theorem InsAt.in {w : World} {ad : Addr} {n : Nat} {zs : List (List Int)} (h : InsAt w ad n zs) (i : Nat) (hi : i < n) : InAt w (ad.add (i * 5)) (zf zs i 0) (zf zs i 1) (zf zs i 2) (zf zs i 3) (zf zs i 4) := by
  obtain ⟨h0, h1, h2, h3, h4⟩ := h.2 i hi
  rw [add_moreC ad (i * 5) 0] at h1
  rw [add_moreC ad (i * 5) 1] at h2
  rw [add_moreC ad (i * 5) 2] at h3
  rw [add_moreC ad (i * 5) 3] at h4
  exact ⟨h0, h1, h2, h3, h4⟩
theorem InsAt.one {w : World} {ad : Addr} {n : Nat} {zs : List (List Int)} (h : InsAt w ad n zs) (i : Nat) (hi : i < n) : ∃ y0 y1 y2 y3 y4, InAt w (ad.add (i * 5)) y0 y1 y2 y3 y4 ∧ Hid (okB y0 y1 y2 y3 y4 = zok zs i) ∧ Hid (wordC y0 y1 y2 y3 y4 = zw zs i) := ⟨_, _, _, _, _, h.in i hi, Lib.hid rfl, Lib.hid rfl⟩
theorem own_belowX {w w' : World} {B E s n : Nat} {v : Value} {xs : List Value} (h : w.ownsRow B E s v n xs) (hb : Below w.heap.size w w') : w'.ownsRow B E s v n xs := by
  refine ⟨h.1, ?_⟩
  rcases h.2 with hn | ⟨g, cap, cur, rfl, hB, hg, rest⟩
  · exact .inl hn
  · refine .inr ⟨g, cap, cur, rfl, hB, ?_, rest⟩
    rw [hb.block g ?_]
    · exact hg
    · rcases Nat.lt_or_ge g w.heap.size with h' | h'
      · exact h'
      · simp [Array.getElem?_eq_none h'] at hg
theorem own_grown {B : Nat} {w wr w1 : World} {row : Option Nat} {v : Value} {n : Nat} {xs : List Value} {E : TypeId} (hb : Below B w wr) (hB : B ≤ wr.heap.size) (hown : wr.ownsRow B E 1 v n xs) (hg : wr.grownBy w1 row) (hr : row = v.ownBlock ∨ row = none) : Below B w w1 := by
  refine hb.grown hg hB fun k hk => ?_
  rcases hr with rfl | rfl
  · rcases hown.2 with ⟨rfl, _⟩ | ⟨g, cap, cur, rfl, h1, _⟩
    · simp [Value.ownBlock] at hk
    · simp [Value.ownBlock] at hk; omega
  · cases hk
/-- VW below a block, not below the whole heap: what a growing row leaves. -/
theorem VW.grown {x y : Addr} {W w w' : World} (h : VW x y W w) (hb : Below W.heap.size W w') (hA : VW x y W W) : VW x y W w' := ⟨hb, hA.2.below hb⟩
set_option maxRecDepth 100000 in
set_option maxHeartbeats 2000000 in
theorem words_ok (ad : Addr) (n cap : Nat) (zs : List (List Int)) (x y : Addr) (w : World) (hA : VW x y w w) (hI : InsAt w ad n zs) (hn : n ≤ 1000) (hok : Hid (∀ i, i < n → zok zs i = true)) :
    Calls Tryd.prog 19 #[.slice (some ad) n cap] w fun e w' => ∃ v', e = .returned (.tuple #[v', .nilIface]) ∧ w'.ownsRow w.heap.size 22 1 v' n (zws zs n) ∧ Below w.heap.size w w' := by
  obtain ⟨i0, hi, hz0, hz1, hz2⟩ := info_parts infoWordU
  have HI := Lib.hid (⟨hi, hz0, hz1, hz2⟩ : Tryd.prog.info? 22 = some i0 ∧ i0.zero = some (.int .u32 0) ∧ i0.size = 1 ∧ i0.bytes = 4)
  clear hi hz0 hz1 hz2
  have HII := Lib.hid hI
  have HA := Lib.hid hA
  clear hI hA
  go_enter Tryd.func19, Tryd.ntmps19
  go_wp2_with fail
  go_loopw [4, 11] (fun v i wr => ∃ k : Nat, k ≤ n ∧ i = .int .i64 k ∧ wr.ownsRow w.heap.size 22 1 v k (zws zs k) ∧ VW x y w wr ∧ w.heap.size ≤ wr.heap.size) (fun _ i _ => n - (intOf i).toNat)
  case atStart => exact ⟨0, by omega, rfl, World.ownsRow_nil _ _ _ _, HA.out, Nat.le_refl _⟩
  case round =>
    obtain ⟨k, hk, rfl, hown, hV, hBr⟩ := hrel
    by_cases hlt : k < n
    · have hI' := HII.out.below hV.bel
      obtain ⟨y0, y1, y2, y3, y4, hin, hyo, hyw⟩ := hI'.one k hlt
      obtain ⟨c0, c1, c2, c3, c4⟩ := hin
      have HK : Hid (okB y0 y1 y2 y3 y4 = true) := Lib.hid (hyo.out.trans (hok.out k hlt))
      obtain ⟨l, hl⟩ : ∃ l, Hid (wordC y0 y1 y2 y3 y4 = l) := ⟨_, Lib.hid rfl⟩
      have HL := Lib.hid (hyw.out.symm.trans hl.out)
      have HO := Lib.hid hown
      have HV := Lib.hid hV
      clear hown hV hI' hyo hyw
      go_wp2_with (first | (go_at_call 25; (with_reducible refine (cword_ok y0 y1 y2 y3 y4 x y _ (HV.out.alloc _).code HK l hl).mono ?_); rintro e w2 ⟨rfl, hb⟩; have HV2 := Lib.hid ((HV.out.alloc _).step hb); have HO2 := Lib.hid (own_below (HO.out.alloc _) hb); have hz : w.heap.size ≤ w2.heap.size := Nat.le_trans hBr (by have := hb.size; simp at this; omega); clear hb) | (at_builtin; refine wpList_append_own _ rfl _ _ 51 rfl w.heap.size 22 i0 (.int .u32 0) 1 4 Tryd.underlying51 HI.out.1 HI.out.2.1 HI.out.2.2.1 HI.out.2.2.2 rfl (by decide) _ _ _ rfl (HO2.out.alloc _) ⟨w2.heap.size, 0, none⟩ 1 1 [.int .u32 l] rfl rfl ?c1 ?c2 ?c3 ?c4 ?c5 ?_))
      case c1 =>
        intro j u hj
        match j, hj with
        | 0, hj => simp at hj; subst hj; simp [Addr.add]
        | (j + 1), hj => simp at hj
      case c2 => intro u hu; simp at hu; subst hu; rfl
      case c3 => unfold maxLen; omega
      case c4 => omega
      case c5 => simp; omega
      intro v' w3 hown' hgrow' _
      have HB3 := Lib.hid (own_grown (HV2.out.bel.alloc hz _) (by simp; omega) (HO2.out.alloc _) hgrow' (.inl rfl))
      have hz3 : w.heap.size ≤ w3.heap.size := HB3.out.size
      have HO3 : Hid (w3.ownsRow w.heap.size 22 1 v' (k + 1) (zws zs (k + 1))) := Lib.hid (by rw [zws_succ, HL.out]; exact hown')
      have HV3 := Lib.hid (HV2.out.grown HB3.out HA.out)
      clear hown' hgrow' c0 c1 c2 c3 c4
      go_wp2
      go_roundw
      case rel => exact ⟨k + 1, by omega, by go_num, HO3.out, HV3.out, hz3⟩
      case measure => simp [intOf]; omega
    · obtain rfl : n = k := by omega
      have hdd : decide (n < n) = false := by simp
      have HO := Lib.hid hown
      have HV := Lib.hid hV
      clear hown hV
      go_wp2
      go_ret2
      exact ⟨_, rfl, HO.out, HV.out.bel⟩
end Go.Proofs.YtjkbfhojjjkgnaaDoor
namespace Go.Proofs.YtjkbfhojjjkgnaaDoor
open Go.ChangeShapes Go.WideShapes Go.ChangeAt Go.RowKit
set_option linter.unusedVariables false
set_option linter.unusedSimpArgs false
/-- A domain at a place, with the memory that made leaves. -/
structure Fm (f : Nat → Value) (pc : Int) : Prop where
  pc : f 8 = .int .u32 pc
  m0 : f 91 = .int .i64 2
  m1 : f 92 = .int .i64 0
  m2 : f 93 = .int .i64 0
  m3 : f 94 = .int .i64 0
  m4 : f 95 = .int .u32 1
theorem Fm.start : Fm fM 0 := ⟨rfl, rfl, rfl, rfl, rfl, rfl⟩
theorem Fm.reg {f : Nat → Value} {pc : Int} (h : Fm f pc) (q : Nat) (u : Value) (hq : q < 8) : Fm (updD f q u) pc :=
  ⟨(updD_other _ _ _ _ (by omega)).trans h.pc, (updD_other _ _ _ _ (by omega)).trans h.m0, (updD_other _ _ _ _ (by omega)).trans h.m1, (updD_other _ _ _ _ (by omega)).trans h.m2, (updD_other _ _ _ _ (by omega)).trans h.m3, (updD_other _ _ _ _ (by omega)).trans h.m4⟩
theorem Fm.to {f : Nat → Value} {pc : Int} (h : Fm f pc) (p : Int) : Fm (updD f 8 (.int .u32 p)) p :=
  ⟨updD_at _ _ _, (updD_other _ _ _ _ (by decide)).trans h.m0, (updD_other _ _ _ _ (by decide)).trans h.m1, (updD_other _ _ _ _ (by decide)).trans h.m2, (updD_other _ _ _ _ (by decide)).trans h.m3, (updD_other _ _ _ _ (by decide)).trans h.m4⟩
theorem Fm.key {f : Nat → Value} {pc : Int} (h : Fm f pc) (j : Nat) (hj : j < 16) (z0 z1 z2 z3 z4 : Int) : Fm (updL f (11 + j * 5) (k5 z0 z1 z2 z3 z4)) pc :=
  ⟨(updL_reg _ _ _ _ _ _ _ _ (by decide)).trans h.pc, (updL_mem _ _ _ _ _ _ _ hj _ (by decide)).trans h.m0, (updL_mem _ _ _ _ _ _ _ hj _ (by decide)).trans h.m1, (updL_mem _ _ _ _ _ _ _ hj _ (by decide)).trans h.m2, (updL_mem _ _ _ _ _ _ _ hj _ (by decide)).trans h.m3, (updL_mem _ _ _ _ _ _ _ hj _ (by decide)).trans h.m4⟩
theorem cstep17 {w0 : World} {mb S : Nat} {a b : Shp} {N cb : Nat} {W : Nat → Nat → Value} {W2 : Nat → Nat → Int} {hits : Int} {v : Value} {E : List EW} {db : Nat} {f : Nat → Value} {ws : List Int} (hm : Hid (M17 a b W W2 ws)) (pc : Nat) (hpc : pc < 32) (hf : Hid (Fm f pc)) (z : Int) (hz : Hid (ws.getD pc 0 = z)) (p0 p1 p2 p3 p4 : Int) (hok : Hid (okB p0 p1 p2 p3 p4 = true)) (hw : Hid (wordC p0 p1 p2 p3 p4 = z)) (hh : Hid (hits ≤ 1000000)) (xa ya : Addr) (hC : CodeAt (errC xa) (errC ya) w0) (ev : Array Value) (kd : Int) (hk4 : (kd == 4) = false) (hev : Hid (EvOk ev kd)) (g : Nat → Value)
    (hdo : Hid (∀ w1 hits1 v1 E1, (CpAt w0 w1 mb S a b N cb (upd (fun _ => false) 0 true) (fun _ => 0) W (upd (upd (fun _ => false) 0 true) 1 true) (fun _ => 0) W2 hits1 v1 E1 db (updD f 8 (.int .u32 ((pc : Int) + 1)))) → Calls Tryd.prog 42 #[.pointer (some ⟨mb, 0, none⟩), .pointer (some ⟨db, 0, none⟩), (Value.agg #[.int .i64 p0, .int .i64 p1, .int .i64 p2, .int .i64 p3, .int .i64 p4])] w1 fun e w' => e = .returned (.agg ev) ∧ CQ w0 w1 mb S a b N cb (upd (fun _ => false) 0 true) (fun _ => 0) W (upd (upd (fun _ => false) 0 true) 1 true) (fun _ => 0) W2 hits1 hits1 v1 E1 db g w')) (w : World) (h : (CpAt w0 w mb S a b N cb (upd (fun _ => false) 0 true) (fun _ => 0) W (upd (upd (fun _ => false) 0 true) 1 true) (fun _ => 0) W2 hits v E db f)) :
    Calls Tryd.prog 21 #[.pointer (some ⟨mb, 0, none⟩), .pointer (some ⟨db, 0, none⟩)] w fun e w' => e = .returned (.agg ev) ∧ CQ w0 w mb S a b N cb (upd (fun _ => false) 0 true) (fun _ => 0) W (upd (upd (fun _ => false) 0 true) 1 true) (fun _ => 0) W2 hits (hits + 2) v E db g w' := by
  have hp := partsC_of hok.out
  rw [hw.out] at hp
  have h1 := hm.out.p0 pc hpc
  rw [hz.out] at h1
  exact cstep_do 2 0 0 0 1 (pc : Int) pc (Lib.hid rfl) (by omega) [0] ((0 : Nat) : Int) ((pc : Nat) : Int) false 0 pc (Lib.hid ⟨rfl, rfl⟩) (by rw [hm.out.bn]; decide) hpc (Lib.hid (live_to 0 (by decide))) z (Lib.hid h1) hp.2.1 hp.2.2 p0 p1 p2 p3 p4 (Lib.hid hp.1) hok hf.out.pc hf.out.m0 hf.out.m1 hf.out.m2 hf.out.m3 hf.out.m4 hh (Lib.hid (way_to hm.out 0 pc pc (by decide) hpc (by omega))) xa ya hC ((pc : Int) + 1) (Lib.hid (by omega)) ev kd hk4 hev W2 g (Lib.hid (fun w1 hits1 v1 E1 hc _ _ => (hdo.out w1 hits1 v1 E1 hc).mono fun e w' ⟨h1, h2⟩ => ⟨h1, h2.more (by omega)⟩)) w h
end Go.Proofs.YtjkbfhojjjkgnaaDoor
