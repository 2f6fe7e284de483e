/-
  package store: mayRead, mayWrite; Fetch, Swap, Peek, Poke that are refused; Peek that answers.
-/
import Derived.Test.YtedidopkemjgeaaDoorSt
import Derived.Test.YtedidopkemjgeaaDoorRightFns
namespace Go.Proofs.YtedidopkemjgeaaDoor
open Go.ChangeShapes Go.WideShapes Go.ChangeAt Go.RowKit
set_option linter.unusedVariables false
/-- Is the object there that a key names? -/
def liveB (a b : Shp) (th : Nat → Bool) (vr_ : Nat → Int) (th2 : Nat → Bool) (vr2 : Nat → Int) (k0 k1 k2 : Int) : Bool := if k0 = 2 then (thereB a.n th k1 && (vr_ k1.toNat == k2)) else if k0 = 3 then (thereB b.n th2 k1 && (vr2 k1.toNat == k2)) else false
theorem slive_at {S : Nat} {a b : Shp} {th : Nat → Bool} {vr_ : Nat → Int} {W : Nat → Nat → Value} {th2 : Nat → Bool} {vr2 : Nat → Int} {W2 : Nat → Nat → Int} (k0 k1 k2 k3 k4 : Int) (t : Bool) (ht : Hid (liveB a b th vr_ th2 vr2 k0 k1 k2 = t)) (w : World) (h : (StAt w S a b th vr_ W th2 vr2 W2)) :
    Calls Tryd.prog 96 #[.pointer (some ⟨S, 0, none⟩), (Value.agg #[.int .i64 k0, .int .i64 k1, .int .i64 k2, .int .i64 k3, .int .u32 k4])] w fun e w' => e = .returned (.bool t) ∧ Below w.heap.size w w' := slive_is k0 k1 k2 k3 k4 t (Lib.hid ht.out) w h
theorem sread_none {S : Nat} {a b : Shp} {th : Nat → Bool} {vr_ : Nat → Int} {W : Nat → Nat → Value} {th2 : Nat → Bool} {vr2 : Nat → Int} {W2 : Nat → Nat → Int} (k0 k1 k2 k3 k4 : Int) (ht : Hid (liveB a b th vr_ th2 vr2 k0 k1 k2 = false)) (z : Addr) (w : World) (h : (StAt w S a b th vr_ W th2 vr2 W2)) (hE : w.cell? ⟨1, 0, none⟩ = some (eV z)) (hl : 1 < w.heap.size) :
    Calls Tryd.prog 100 #[.pointer (some ⟨S, 0, none⟩), (Value.agg #[.int .i64 k0, .int .i64 k1, .int .i64 k2, .int .i64 k3, .int .u32 k4]), .int .i64 k0] w fun e w' => e = .returned (eV z) ∧ Below w.heap.size w w' := by
  have H := Lib.hid (h.below ((Below.refl _ _).alloc (Nat.le_refl _) _ : Below w.heap.size w (w.alloc (.cells #[.int .i64 k0, .int .i64 k1, .int .i64 k2, .int .i64 k3, .int .u32 k4] 29))))
  have HE := Lib.hid hE
  have HL := Lib.hid hl
  clear h hE hl
  go_enter Tryd.func100, Tryd.ntmps100
  go_wp2_with (first
    | (go_at_call 96; (with_reducible refine (slive_at k0 k1 k2 k3 k4 false ht _ H.out).mono ?_); rintro e w1 ⟨rfl, hb⟩; have HB := Lib.hid (((Below.refl _ _).alloc (Nat.le_refl _) _ : Below w.heap.size w _).trans (hb.mono (by simp))); have e1 := (HB.out.cell (p := ⟨1, 0, none⟩) HL.out).trans HE.out; clear hb))
  go_ret
  exact ⟨rfl, HB.out⟩
theorem sread_ok {S : Nat} {a b : Shp} {th : Nat → Bool} {vr_ : Nat → Int} {W : Nat → Nat → Value} {th2 : Nat → Bool} {vr2 : Nat → Int} {W2 : Nat → Nat → Int} (k0 k1 k2 k3 k4 : Int) (ht : Hid (liveB a b th vr_ th2 vr2 k0 k1 k2 = true)) (hb : bits BinOp.and IntKind.i64 k3 2 = 0) (w : World) (h : (StAt w S a b th vr_ W th2 vr2 W2)) :
    Calls Tryd.prog 100 #[.pointer (some ⟨S, 0, none⟩), (Value.agg #[.int .i64 k0, .int .i64 k1, .int .i64 k2, .int .i64 k3, .int .u32 k4]), .int .i64 k0] w fun e w' => e = .returned .nilIface ∧ Below w.heap.size w w' := by
  have H := Lib.hid (h.below ((Below.refl _ _).alloc (Nat.le_refl _) _ : Below w.heap.size w (w.alloc (.cells #[.int .i64 k0, .int .i64 k1, .int .i64 k2, .int .i64 k3, .int .u32 k4] 29))))
  clear h
  go_enter Tryd.func100, Tryd.ntmps100
  go_wp2_with (first
    | (go_at_call 96; (with_reducible refine (slive_at k0 k1 k2 k3 k4 true ht _ H.out).mono ?_); rintro e w1 ⟨rfl, hb⟩; have HB := Lib.hid (((Below.refl _ _).alloc (Nat.le_refl _) _ : Below w.heap.size w _).trans (hb.mono (by simp))); have e3 := hb.cell (p := ⟨w.heap.size, 3, none⟩) (by simp); simp at e3; clear hb))
  go_ret
  exact ⟨rfl, HB.out⟩
theorem new1 (X : World) (cs : Array Value) (T : TypeId) (j : Nat) : (X.alloc (.cells cs T (0, 0))).cell? ⟨X.heap.size, j, none⟩ = cs[j]? ∧ (X.alloc (.cells cs T (0, 0))).frozen? ⟨X.heap.size, j, none⟩ = false ∧ X.heap.size < (X.alloc (.cells cs T (0, 0))).heap.size := ⟨by simp, by simp, by simp⟩
theorem new3 (w : World) (o o' : Obj) (cs : Array Value) (T : TypeId) (j : Nat) : (((w.alloc o).alloc o').alloc (.cells cs T (0, 0))).cell? ⟨w.heap.size + 1 + 1, j, none⟩ = cs[j]? ∧ (((w.alloc o).alloc o').alloc (.cells cs T (0, 0))).frozen? ⟨w.heap.size + 1 + 1, j, none⟩ = false ∧ w.heap.size + 1 + 1 < (((w.alloc o).alloc o').alloc (.cells cs T (0, 0))).heap.size := by
  have e : w.heap.size + 1 + 1 = ((w.alloc o).alloc o').heap.size := by simp
  have h := new1 ((w.alloc o).alloc o') cs T j
  rw [← e] at h
  exact h
theorem kcell5 {W : World} {b : Nat} (z0 z1 z2 z3 z4 : Int) (c0 : ∃ v, W.cell? ⟨b, 0, none⟩ = some v) (c1 : ∃ v, W.cell? ⟨b, 1, none⟩ = some v) (c2 : ∃ v, W.cell? ⟨b, 2, none⟩ = some v) (c3 : ∃ v, W.cell? ⟨b, 3, none⟩ = some v) (c4 : ∃ v, W.cell? ⟨b, 4, none⟩ = some v) :
    let X := (((((W.setCell ⟨b, 0, none⟩ (.int .i64 z0)).setCell ⟨b, 1, none⟩ (.int .i64 z1)).setCell ⟨b, 2, none⟩ (.int .i64 z2)).setCell ⟨b, 3, none⟩ (.int .i64 z3)).setCell ⟨b, 4, none⟩ (.int .u32 z4))
    X.cell? ⟨b, 0, none⟩ = some (.int .i64 z0) ∧ X.cell? ⟨b, 1, none⟩ = some (.int .i64 z1) ∧ X.cell? ⟨b, 2, none⟩ = some (.int .i64 z2) ∧ X.cell? ⟨b, 3, none⟩ = some (.int .i64 z3) ∧ X.cell? ⟨b, 4, none⟩ = some (.int .u32 z4) := by
  have hs : ∀ j, j < (k5 z0 z1 z2 z3 z4).length → (W.cell? ⟨b, 0 + j, none⟩).isSome = true := by
    intro j hj
    rw [Nat.zero_add]
    rcases five j hj with rfl | rfl | rfl | rfl | rfl
    · obtain ⟨v, h⟩ := c0; rw [h]; rfl
    · obtain ⟨v, h⟩ := c1; rw [h]; rfl
    · obtain ⟨v, h⟩ := c2; rw [h]; rfl
    · obtain ⟨v, h⟩ := c3; rw [h]; rfl
    · obtain ⟨v, h⟩ := c4; rw [h]; rfl
  have all := World.cell?_setCells_in b (k5 z0 z1 z2 z3 z4) 0 W hs
  exact ⟨all 0 (by simp [k5]), all 1 (by simp [k5]), all 2 (by simp [k5]), all 3 (by simp [k5]), all 4 (by simp [k5])⟩
theorem swrite_none {S : Nat} {a b : Shp} {th : Nat → Bool} {vr_ : Nat → Int} {W : Nat → Nat → Value} {th2 : Nat → Bool} {vr2 : Nat → Int} {W2 : Nat → Nat → Int} (k0 k1 k2 k3 k4 : Int) (ht : Hid (liveB a b th vr_ th2 vr2 k0 k1 k2 = false)) (z : Addr) (w : World) (h : (StAt w S a b th vr_ W th2 vr2 W2)) (hE : w.cell? ⟨1, 0, none⟩ = some (eV z)) (hl : 1 < w.heap.size) :
    Calls Tryd.prog 89 #[.pointer (some ⟨S, 0, none⟩), (Value.agg #[.int .i64 k0, .int .i64 k1, .int .i64 k2, .int .i64 k3, .int .u32 k4]), .int .i64 k0] w fun e w' => e = .returned (eV z) ∧ Below w.heap.size w w' := by
  have hb1 : Below w.heap.size w (w.alloc (.cells #[.int .i64 k0, .int .i64 k1, .int .i64 k2, .int .i64 k3, .int .u32 k4] 29)) := (Below.refl _ _).alloc (Nat.le_refl _) _
  have H := Lib.hid (h.below hb1)
  have HE := Lib.hid ((hb1.cell (p := ⟨1, 0, none⟩) hl).trans hE)
  have HL := Lib.hid (Nat.lt_of_lt_of_le hl hb1.size)
  clear h hE hl hb1
  go_enter Tryd.func89, Tryd.ntmps89
  go_wp2_with (first
    | (go_at_call 100; (with_reducible refine (sread_none k0 k1 k2 k3 k4 ht z _ H.out HE.out HL.out).mono ?_); rintro e w1 ⟨rfl, hb⟩; have HB := Lib.hid (((Below.refl _ _).alloc (Nat.le_refl _) _ : Below w.heap.size w _).trans (hb.mono (by simp))); clear hb))
  go_ret
  exact ⟨rfl, HB.out⟩
set_option maxHeartbeats 1000000 in
theorem sswap_none {S : Nat} {a b : Shp} {th : Nat → Bool} {vr_ : Nat → Int} {W : Nat → Nat → Value} {th2 : Nat → Bool} {vr2 : Nat → Int} {W2 : Nat → Nat → Int} (k1 k2 k3 k4 s x0 x1 x2 x3 x4 : Int) (ht : Hid (liveB a b th vr_ th2 vr2 2 k1 k2 = false)) (z : Addr) (w : World) (h : (StAt w S a b th vr_ W th2 vr2 W2)) (hE : w.cell? ⟨1, 0, none⟩ = some (eV z)) (hl : 1 < w.heap.size) :
    Calls Tryd.prog 69 #[.pointer (some ⟨S, 0, none⟩), .agg #[.int .i64 2, .int .i64 k1, .int .i64 k2, .int .i64 k3, .int .u32 k4], .int .i64 s, (Value.agg #[.int .i64 x0, .int .i64 x1, .int .i64 x2, .int .i64 x3, .int .u32 x4])] w fun e w' => e = .returned (.tuple #[.agg #[.int .i64 0, .int .i64 0, .int .i64 0, .int .i64 0, .int .u32 0], eV z]) ∧ Below w.heap.size w w' := by
  have hb1 : ∀ o o' o2, Below w.heap.size w (((w.alloc o).alloc o').alloc o2) := fun o o' o2 => (((Below.refl _ _).alloc (Nat.le_refl _) _ : Below w.heap.size w (w.alloc o)).alloc (by simp) o').alloc (by simp; omega) o2
  have H := Lib.hid (fun o o' o2 => h.below (hb1 o o' o2))
  have HE := Lib.hid (fun o o' o2 => ((hb1 o o' o2).cell (p := ⟨1, 0, none⟩) hl).trans hE)
  have HL := Lib.hid (fun o o' o2 => Nat.lt_of_lt_of_le hl (hb1 o o' o2).size)
  have HB1 := Lib.hid hb1
  clear h hE hl hb1
  go_enter Tryd.func69, Tryd.ntmps69
  go_wp2_with (first
    | (go_at_call 89; (with_reducible refine (swrite_none 2 k1 k2 k3 k4 ht z _ (H.out _ _ _) (HE.out _ _ _) (HL.out _ _ _)).mono ?_); rintro e w1 ⟨rfl, hb⟩; have HB := Lib.hid ((HB1.out _ _ _).trans (hb.mono (HB1.out _ _ _).size)); have c0 := (hb.cell (p := ⟨w.heap.size + 1 + 1, 0, none⟩) (new3 w _ _ _ _ 0).2.2).trans (new3 w _ _ _ _ 0).1; have c1 := (hb.cell (p := ⟨w.heap.size + 1 + 1, 1, none⟩) (new3 w _ _ _ _ 1).2.2).trans (new3 w _ _ _ _ 1).1; have c2 := (hb.cell (p := ⟨w.heap.size + 1 + 1, 2, none⟩) (new3 w _ _ _ _ 2).2.2).trans (new3 w _ _ _ _ 2).1; have c3 := (hb.cell (p := ⟨w.heap.size + 1 + 1, 3, none⟩) (new3 w _ _ _ _ 3).2.2).trans (new3 w _ _ _ _ 3).1; have c4 := (hb.cell (p := ⟨w.heap.size + 1 + 1, 4, none⟩) (new3 w _ _ _ _ 4).2.2).trans (new3 w _ _ _ _ 4).1; have z0 := (hb.frozen (p := ⟨w.heap.size + 1 + 1, 0, none⟩) (new3 w _ _ _ _ 0).2.2).trans (new3 w _ _ _ _ 0).2.1; have z1 := (hb.frozen (p := ⟨w.heap.size + 1 + 1, 1, none⟩) (new3 w _ _ _ _ 1).2.2).trans (new3 w _ _ _ _ 1).2.1; have z2 := (hb.frozen (p := ⟨w.heap.size + 1 + 1, 2, none⟩) (new3 w _ _ _ _ 2).2.2).trans (new3 w _ _ _ _ 2).2.1; have z3 := (hb.frozen (p := ⟨w.heap.size + 1 + 1, 3, none⟩) (new3 w _ _ _ _ 3).2.2).trans (new3 w _ _ _ _ 3).2.1; have z4 := (hb.frozen (p := ⟨w.heap.size + 1 + 1, 4, none⟩) (new3 w _ _ _ _ 4).2.2).trans (new3 w _ _ _ _ 4).2.1; simp at c0 c1 c2 c3 c4; clear hb))
  have hX := kcell5 (W := w1) (b := w.heap.size + 1 + 1) 0 0 0 0 0 ⟨_, c0⟩ ⟨_, c1⟩ ⟨_, c2⟩ ⟨_, c3⟩ ⟨_, c4⟩
  obtain ⟨d0, d1, d2, d3, d4⟩ := hX
  refine bodyPost_ret (v := .tuple #[.agg #[.int .i64 0, .int .i64 0, .int .i64 0, .int .i64 0, .int .u32 0], eV z]) (by simp [results, Tryd.results69, go_sem, d0, d1, d2, d3, d4]) rfl ⟨rfl, below_set5 HB.out (by omega) _ _ _ _ _⟩
theorem swrite_right {S : Nat} {a b : Shp} {th : Nat → Bool} {vr_ : Nat → Int} {W : Nat → Nat → Value} {th2 : Nat → Bool} {vr2 : Nat → Int} {W2 : Nat → Nat → Int} (k0 k1 k2 k3 k4 : Int) (hm : k0 = 2 ∨ k0 = 3) (ht : Hid (liveB a b th vr_ th2 vr2 k0 k1 k2 = true)) (hb0 : bits BinOp.and IntKind.i64 k3 2 = 0) (hb5 : (bits BinOp.and IntKind.i64 k3 5 == 0) = false) (z : Addr) (w : World) (h : (StAt w S a b th vr_ W th2 vr2 W2)) (hE : w.cell? ⟨5, 0, none⟩ = some (eV z)) (hl : 5 < w.heap.size) :
    Calls Tryd.prog 89 #[.pointer (some ⟨S, 0, none⟩), (Value.agg #[.int .i64 k0, .int .i64 k1, .int .i64 k2, .int .i64 k3, .int .u32 k4]), .int .i64 k0] w fun e w' => e = .returned (eV z) ∧ Below w.heap.size w w' := by
  have hb1 : Below w.heap.size w (w.alloc (.cells #[.int .i64 k0, .int .i64 k1, .int .i64 k2, .int .i64 k3, .int .u32 k4] 29)) := (Below.refl _ _).alloc (Nat.le_refl _) _
  have H := Lib.hid (h.below hb1)
  have HE := Lib.hid ((hb1.cell (p := ⟨5, 0, none⟩) hl).trans hE)
  have HL := Lib.hid (Nat.lt_of_lt_of_le hl hb1.size)
  have HM := Lib.hid hm
  clear h hE hl hb1 hm
  go_enter Tryd.func89, Tryd.ntmps89
  go_wp2_with (first
    | (go_at_call 100; (with_reducible refine (sread_ok k0 k1 k2 k3 k4 ht hb0 _ H.out).mono ?_); rintro e w1 ⟨rfl, hb⟩; have HB := Lib.hid (((Below.refl _ _).alloc (Nat.le_refl _) _ : Below w.heap.size w _).trans (hb.mono (by simp))); have c0 := hb.cell (p := ⟨w.heap.size, 0, none⟩) (by simp); have c1 := hb.cell (p := ⟨w.heap.size, 1, none⟩) (by simp); have c2 := hb.cell (p := ⟨w.heap.size, 2, none⟩) (by simp); have c3 := hb.cell (p := ⟨w.heap.size, 3, none⟩) (by simp); have c4 := hb.cell (p := ⟨w.heap.size, 4, none⟩) (by simp); simp at c0 c1 c2 c3 c4; have HE1 := Lib.hid ((hb.cell (p := ⟨5, 0, none⟩) HL.out).trans HE.out); have HL1 := Lib.hid (Nat.lt_of_lt_of_le HL.out hb.size); clear hb)
    | (go_at_call 101; (with_reducible refine (writes_mem k0 k1 k2 k3 k4 HM.out _).mono ?_); rintro e w2 ⟨rfl, hb⟩; have HB2 := Lib.hid (HB.out.trans (hb.mono HB.out.size)); have e2 := (hb.cell (p := ⟨5, 0, none⟩) HL1.out).trans HE1.out; clear hb))
  go_ret
  exact ⟨rfl, HB2.out⟩
end Go.Proofs.YtedidopkemjgeaaDoor
