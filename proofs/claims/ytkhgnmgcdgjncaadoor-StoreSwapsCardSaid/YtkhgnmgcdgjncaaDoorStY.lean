/-
  NdK, St2, St3, StV, StW, StX as one.
-/
import Derived.Test.YtkhgnmgcdgjncaaDoorNd4
import Derived.Test.YtkhgnmgcdgjncaaDoorStR
import Derived.StillTailTactics
import Derived.Test.YtkhgnmgcdgjncaaDoorStG
import Derived.Test.YtkhgnmgcdgjncaaDoorValidZ
import Derived.Test.YtkhgnmgcdgjncaaDoorRefM
import Derived.Test.YtkhgnmgcdgjncaaDoorStructs
import Derived.Deep.DeepCutAuto
namespace Go.Proofs.YtkhgnmgcdgjncaaDoor
open Go.ChangeShapes Go.WideShapes Go.ChangeAt Go.RowKit
set_option linter.unusedVariables false
/-- A key lies in a slot. -/
def KAt (f : Nat → Value) (j : Nat) (y0 y1 y2 y3 y4 : Int) : Prop := f (j * 5) = .int .i64 y0 ∧ f (j * 5 + 1) = .int .i64 y1 ∧ f (j * 5 + 2) = .int .i64 y2 ∧ f (j * 5 + 3) = .int .i64 y3 ∧ f (j * 5 + 4) = .int .u32 y4
theorem freshV_q (W : Nat → Nat → Value) (i : Nat) (kk : Nat → Nat → Int) (m j q : Nat) (hj : j < m) (hq : q < 5) : freshV W i (kcs kk m) i (j * 5 + q) = kval q (kk j q) := by
  have h1 := freshV_in W i (kcs kk m) (j * 5 + q) (by rw [kcs_len]; omega)
  rw [kcs_at kk m j q hj hq] at h1
  exact Option.some.inj h1
theorem freshV_key (W : Nat → Nat → Value) (i : Nat) (kk : Nat → Nat → Int) (m j : Nat) (hj : j < m) : KAt (freshV W i (kcs kk m) i) j (kk j 0) (kk j 1) (kk j 2) (kk j 3) (kk j 4) :=
  ⟨freshV_q W i kk m j 0 hj (by decide), freshV_q W i kk m j 1 hj (by decide), freshV_q W i kk m j 2 hj (by decide), freshV_q W i kk m j 3 hj (by decide), freshV_q W i kk m j 4 hj (by decide)⟩
theorem zc_q (j q : Nat) (hq : q < 5) : zc (j * 5 + q) = kval q 0 := by
  have e : (j * 5 + q) % 5 = q := by omega
  unfold zc kval
  rw [e]
theorem freshV_nokey (W : Nat → Nat → Value) (i : Nat) (kk : Nat → Nat → Int) (m j : Nat) (hj : m ≤ j) (h16 : j < 16) : KAt (freshV W i (kcs kk m) i) j 0 0 0 0 0 := by
  have h : ∀ q, q < 5 → freshV W i (kcs kk m) i (j * 5 + q) = kval q 0 := fun q hq => (freshV_out W i _ _ (by rw [kcs_len]; omega) (by omega)).trans (zc_q j q hq)
  exact ⟨h 0 (by decide), h 1 (by decide), h 2 (by decide), h 3 (by decide), h 4 (by decide)⟩
theorem freshV_rest (W : Nat → Nat → Value) (i : Nat) (xs : List Value) (a j : Nat) (h : a ≠ i) {y0 y1 y2 y3 y4 : Int} (hk : KAt (W a) j y0 y1 y2 y3 y4) : KAt (freshV W i xs a) j y0 y1 y2 y3 y4 := by
  unfold KAt at hk ⊢
  simp only [freshV_other W i xs a _ h]
  exact hk
theorem updV_q (W : Nat → Nat → Value) (i s : Nat) (y0 y1 y2 y3 y4 : Int) (q : Nat) (hq : q < 5) : some (updV W i (s * 5) (k5 y0 y1 y2 y3 y4) i (s * 5 + q)) = (k5 y0 y1 y2 y3 y4)[q]? := by
  have hl : (k5 y0 y1 y2 y3 y4).length = 5 := rfl
  unfold updV
  rw [if_pos ⟨rfl, by omega, by rw [hl]; omega⟩, show s * 5 + q - s * 5 = q by omega]
  rcases five q hq with rfl | rfl | rfl | rfl | rfl <;> rfl
theorem updV_key (W : Nat → Nat → Value) (i s : Nat) (y0 y1 y2 y3 y4 : Int) : KAt (updV W i (s * 5) (k5 y0 y1 y2 y3 y4) i) s y0 y1 y2 y3 y4 :=
  ⟨Option.some.inj (updV_q W i s y0 y1 y2 y3 y4 0 (by decide)), Option.some.inj (updV_q W i s y0 y1 y2 y3 y4 1 (by decide)), Option.some.inj (updV_q W i s y0 y1 y2 y3 y4 2 (by decide)), Option.some.inj (updV_q W i s y0 y1 y2 y3 y4 3 (by decide)), Option.some.inj (updV_q W i s y0 y1 y2 y3 y4 4 (by decide))⟩
theorem updV_rest (W : Nat → Nat → Value) (i s a j : Nat) (z0 z1 z2 z3 z4 : Int) (h : ¬ (a = i ∧ j = s)) {y0 y1 y2 y3 y4 : Int} (hk : KAt (W a) j y0 y1 y2 y3 y4) : KAt (updV W i (s * 5) (k5 z0 z1 z2 z3 z4) a) j y0 y1 y2 y3 y4 := by
  have hl : (k5 z0 z1 z2 z3 z4).length = 5 := rfl
  have e : ∀ q, q < 5 → updV W i (s * 5) (k5 z0 z1 z2 z3 z4) a (j * 5 + q) = W a (j * 5 + q) := fun q hq => by
    unfold updV
    rw [if_neg (by rw [hl]; omega)]
  have e0 := e 0 (by decide)
  rw [Nat.add_zero] at e0
  unfold KAt at hk ⊢
  rw [e0, e 1 (by decide), e 2 (by decide), e 3 (by decide), e 4 (by decide)]
  exact hk
theorem KAt.one {f : Nat → Value} (h : ∀ j, j < 16 → ∃ y0 y1 y2 y3 y4, KAt f j y0 y1 y2 y3 y4) : ∀ b, b < 80 → (f b).oneCell' = true := by
  intro b hb
  obtain ⟨y0, y1, y2, y3, y4, h0, h1, h2, h3, h4⟩ := h (b / 5) (by omega)
  have e : b = b / 5 * 5 + b % 5 := by omega
  rcases five (b % 5) (by omega) with hq | hq | hq | hq | hq
  · rw [e, hq, Nat.add_zero, h0]; rfl
  · rw [e, hq, h1]; rfl
  · rw [e, hq, h2]; rfl
  · rw [e, hq, h3]; rfl
  · rw [e, hq, h4]; rfl
end Go.Proofs.YtkhgnmgcdgjncaaDoor
namespace Go.Proofs.YtkhgnmgcdgjncaaDoor
open Go.ChangeShapes Go.WideShapes Go.ChangeAt Go.RowKit
set_option linter.unusedVariables false
theorem sread_right {S : Nat} {a b : Shp} {th : Nat → Bool} {vr_ : Nat → Int} {W : Nat → Nat → Value} {th2 : Nat → Bool} {vr2 : Nat → Int} {W2 : Nat → Nat → Int} (k0 k1 k2 k3 k4 : Int) (ht : Hid (liveB a b th vr_ th2 vr2 k0 k1 k2 = true)) (hb : (bits BinOp.and IntKind.i64 k3 2 == 0) = false) (z : Addr) (w : World) (h : (StAt w S a b th vr_ W th2 vr2 W2)) (hE : w.cell? ⟨4, 0, none⟩ = some (eV z)) (hl : 4 < w.heap.size) :
    Calls Tryd.prog 60 #[.pointer (some ⟨S, 0, none⟩), (Value.agg #[.int .i64 k0, .int .i64 k1, .int .i64 k2, .int .i64 k3, .int .u32 k4]), .int .i64 k0] w fun e w' => e = .returned (eV z) ∧ Below w.heap.size w w' := by
  have hb1 : Below w.heap.size w (w.alloc (.cells #[.int .i64 k0, .int .i64 k1, .int .i64 k2, .int .i64 k3, .int .u32 k4] 25)) := (Below.refl _ _).alloc (Nat.le_refl _) _
  have H := Lib.hid (h.below hb1)
  have HE := Lib.hid ((hb1.cell (p := ⟨4, 0, none⟩) hl).trans hE)
  have HL := Lib.hid (Nat.lt_of_lt_of_le hl hb1.size)
  clear h hE hl hb1
  go_enter Tryd.func60, Tryd.ntmps60
  go_wp2_with (first
    | (go_at_call 16; (with_reducible refine (slive_at k0 k1 k2 k3 k4 true ht _ H.out).mono ?_); rintro e w1 ⟨rfl, hb⟩; have HB := Lib.hid (((Below.refl _ _).alloc (Nat.le_refl _) _ : Below w.heap.size w _).trans (hb.mono (by simp))); have e3 := hb.cell (p := ⟨w.heap.size, 3, none⟩) (by simp); simp at e3; have e1 := (hb.cell (p := ⟨4, 0, none⟩) HL.out).trans HE.out; clear hb))
  go_ret
  exact ⟨rfl, HB.out⟩
theorem swrite_noread {S : Nat} {a b : Shp} {th : Nat → Bool} {vr_ : Nat → Int} {W : Nat → Nat → Value} {th2 : Nat → Bool} {vr2 : Nat → Int} {W2 : Nat → Nat → Int} (k0 k1 k2 k3 k4 : Int) (ht : Hid (liveB a b th vr_ th2 vr2 k0 k1 k2 = true)) (hb0 : (bits BinOp.and IntKind.i64 k3 2 == 0) = false) (z : Addr) (w : World) (h : (StAt w S a b th vr_ W th2 vr2 W2)) (hE : w.cell? ⟨4, 0, none⟩ = some (eV z)) (hl : 4 < w.heap.size) :
    Calls Tryd.prog 63 #[.pointer (some ⟨S, 0, none⟩), (Value.agg #[.int .i64 k0, .int .i64 k1, .int .i64 k2, .int .i64 k3, .int .u32 k4]), .int .i64 k0] w fun e w' => e = .returned (eV z) ∧ Below w.heap.size w w' := by
  have hb1 : Below w.heap.size w (w.alloc (.cells #[.int .i64 k0, .int .i64 k1, .int .i64 k2, .int .i64 k3, .int .u32 k4] 25)) := (Below.refl _ _).alloc (Nat.le_refl _) _
  have H := Lib.hid (h.below hb1)
  have HE := Lib.hid ((hb1.cell (p := ⟨4, 0, none⟩) hl).trans hE)
  have HL := Lib.hid (Nat.lt_of_lt_of_le hl hb1.size)
  have HB0 := Lib.hid hb0
  clear h hE hl hb1 hb0
  go_enter Tryd.func63, Tryd.ntmps63
  go_wp2_with (first
    | (go_at_call 60; (with_reducible refine (sread_right k0 k1 k2 k3 k4 ht HB0.out z _ H.out HE.out HL.out).mono ?_); rintro e w1 ⟨rfl, hb⟩; have HB := Lib.hid (((Below.refl _ _).alloc (Nat.le_refl _) _ : Below w.heap.size w _).trans (hb.mono (by simp))); clear hb))
  go_ret
  exact ⟨rfl, HB.out⟩
theorem swrite_ok {S : Nat} {a b : Shp} {th : Nat → Bool} {vr_ : Nat → Int} {W : Nat → Nat → Value} {th2 : Nat → Bool} {vr2 : Nat → Int} {W2 : Nat → Nat → Int} (k0 k1 k2 k3 k4 : Int) (hm : k0 = 2 ∨ k0 = 3) (ht : Hid (liveB a b th vr_ th2 vr2 k0 k1 k2 = true)) (hb0 : bits BinOp.and IntKind.i64 k3 2 = 0) (hb5 : (bits BinOp.and IntKind.i64 k3 5 == 0) = true) (w : World) (h : (StAt w S a b th vr_ W th2 vr2 W2)) :
    Calls Tryd.prog 63 #[.pointer (some ⟨S, 0, none⟩), (Value.agg #[.int .i64 k0, .int .i64 k1, .int .i64 k2, .int .i64 k3, .int .u32 k4]), .int .i64 k0] w fun e w' => e = .returned .nilIface ∧ Below w.heap.size w w' := by
  have hb1 : Below w.heap.size w (w.alloc (.cells #[.int .i64 k0, .int .i64 k1, .int .i64 k2, .int .i64 k3, .int .u32 k4] 25)) := (Below.refl _ _).alloc (Nat.le_refl _) _
  have H := Lib.hid (h.below hb1)
  have HM := Lib.hid hm
  clear h hb1 hm
  go_enter Tryd.func63, Tryd.ntmps63
  go_wp2_with (first
    | (go_at_call 60; (with_reducible refine (sread_ok k0 k1 k2 k3 k4 ht hb0 _ H.out).mono ?_); rintro e w1 ⟨rfl, hb⟩; have HB := Lib.hid (((Below.refl _ _).alloc (Nat.le_refl _) _ : Below w.heap.size w _).trans (hb.mono (by simp))); have c0 := hb.cell (p := ⟨w.heap.size, 0, none⟩) (by simp); have c1 := hb.cell (p := ⟨w.heap.size, 1, none⟩) (by simp); have c2 := hb.cell (p := ⟨w.heap.size, 2, none⟩) (by simp); have c3 := hb.cell (p := ⟨w.heap.size, 3, none⟩) (by simp); have c4 := hb.cell (p := ⟨w.heap.size, 4, none⟩) (by simp); simp at c0 c1 c2 c3 c4; clear hb)
    | (go_at_call 92; (with_reducible refine (writes_mem k0 k1 k2 k3 k4 HM.out _).mono ?_); rintro e w2 ⟨rfl, hb⟩; have HB2 := Lib.hid (HB.out.trans (hb.mono HB.out.size)); clear hb))
  go_ret
  exact ⟨rfl, HB2.out⟩
theorem swrite_nowrite {S : Nat} {a b : Shp} {th : Nat → Bool} {vr_ : Nat → Int} {W : Nat → Nat → Value} {th2 : Nat → Bool} {vr2 : Nat → Int} {W2 : Nat → Nat → Int} (k0 k1 k2 k3 k4 : Int) (hm : k0 = 2 ∨ k0 = 3) (ht : Hid (liveB a b th vr_ th2 vr2 k0 k1 k2 = true)) (hb0 : bits BinOp.and IntKind.i64 k3 2 = 0) (hb5 : (bits BinOp.and IntKind.i64 k3 5 == 0) = false) (z : Addr) (w : World) (h : (StAt w S a b th vr_ W th2 vr2 W2)) (hE : w.cell? ⟨4, 0, none⟩ = some (eV z)) (hl : 4 < w.heap.size) :
    Calls Tryd.prog 63 #[.pointer (some ⟨S, 0, none⟩), (Value.agg #[.int .i64 k0, .int .i64 k1, .int .i64 k2, .int .i64 k3, .int .u32 k4]), .int .i64 k0] w fun e w' => e = .returned (eV z) ∧ Below w.heap.size w w' := by
  have hb1 : Below w.heap.size w (w.alloc (.cells #[.int .i64 k0, .int .i64 k1, .int .i64 k2, .int .i64 k3, .int .u32 k4] 25)) := (Below.refl _ _).alloc (Nat.le_refl _) _
  have H := Lib.hid (h.below hb1)
  have HM := Lib.hid hm
  have HE := Lib.hid ((hb1.cell (p := ⟨4, 0, none⟩) hl).trans hE)
  have HL := Lib.hid (Nat.lt_of_lt_of_le hl hb1.size)
  clear h hb1 hm hE hl
  go_enter Tryd.func63, Tryd.ntmps63
  go_wp2_with (first
    | (go_at_call 60; (with_reducible refine (sread_ok k0 k1 k2 k3 k4 ht hb0 _ H.out).mono ?_); rintro e w1 ⟨rfl, hb⟩; have HB := Lib.hid (((Below.refl _ _).alloc (Nat.le_refl _) _ : Below w.heap.size w _).trans (hb.mono (by simp))); have HE1 := Lib.hid ((hb.cell (p := ⟨4, 0, none⟩) HL.out).trans HE.out); have HL1 := Lib.hid (Nat.lt_of_lt_of_le HL.out hb.size); have c0 := hb.cell (p := ⟨w.heap.size, 0, none⟩) (by simp); have c1 := hb.cell (p := ⟨w.heap.size, 1, none⟩) (by simp); have c2 := hb.cell (p := ⟨w.heap.size, 2, none⟩) (by simp); have c3 := hb.cell (p := ⟨w.heap.size, 3, none⟩) (by simp); have c4 := hb.cell (p := ⟨w.heap.size, 4, none⟩) (by simp); simp at c0 c1 c2 c3 c4; clear hb)
    | (go_at_call 92; (with_reducible refine (writes_mem k0 k1 k2 k3 k4 HM.out _).mono ?_); rintro e w2 ⟨rfl, hb⟩; have HB2 := Lib.hid (HB.out.trans (hb.mono HB.out.size)); have e2 := (hb.cell (p := ⟨4, 0, none⟩) HL1.out).trans HE1.out; clear hb))
  go_ret
  exact ⟨rfl, HB2.out⟩
/-- A key's cells. -/
structure KeyC (w : World) (b : Nat) (k0 k1 k2 k3 k4 : Int) : Prop where
  lt : b < w.heap.size
  c0 : w.cell? ⟨b, 0, none⟩ = some (.int .i64 k0)
  c1 : w.cell? ⟨b, 1, none⟩ = some (.int .i64 k1)
  c2 : w.cell? ⟨b, 2, none⟩ = some (.int .i64 k2)
  c3 : w.cell? ⟨b, 3, none⟩ = some (.int .i64 k3)
  c4 : w.cell? ⟨b, 4, none⟩ = some (.int .u32 k4)
  fr : ∀ j, w.frozen? ⟨b, j, none⟩ = false
theorem KeyC.below {w w' : World} {b : Nat} {k0 k1 k2 k3 k4 : Int} (h : KeyC w b k0 k1 k2 k3 k4) (hb : Below w.heap.size w w') : KeyC w' b k0 k1 k2 k3 k4 :=
  ⟨Nat.lt_of_lt_of_le h.lt hb.size, (hb.cell (p := ⟨b, 0, none⟩) h.lt).trans h.c0, (hb.cell (p := ⟨b, 1, none⟩) h.lt).trans h.c1, (hb.cell (p := ⟨b, 2, none⟩) h.lt).trans h.c2, (hb.cell (p := ⟨b, 3, none⟩) h.lt).trans h.c3, (hb.cell (p := ⟨b, 4, none⟩) h.lt).trans h.c4, fun j => (hb.frozen (p := ⟨b, j, none⟩) h.lt).trans (h.fr j)⟩
theorem KeyC.new (w : World) (k0 k1 k2 k3 k4 : Int) (T : TypeId) : KeyC (w.alloc (.cells #[.int .i64 k0, .int .i64 k1, .int .i64 k2, .int .i64 k3, .int .u32 k4] T (0, 0))) w.heap.size k0 k1 k2 k3 k4 := ⟨by simp, by simp, by simp, by simp, by simp, by simp, fun j => by simp⟩
theorem KeyC.of {w w' : World} {k0 k1 k2 k3 k4 : Int} {T : TypeId} {o : Obj} (hb : Below ((w.alloc (.cells #[.int .i64 k0, .int .i64 k1, .int .i64 k2, .int .i64 k3, .int .u32 k4] T (0, 0))).alloc o).heap.size ((w.alloc (.cells #[.int .i64 k0, .int .i64 k1, .int .i64 k2, .int .i64 k3, .int .u32 k4] T (0, 0))).alloc o) w') : KeyC w' w.heap.size k0 k1 k2 k3 k4 :=
  (((KeyC.new w k0 k1 k2 k3 k4 T).below ((Below.refl _ _).alloc (Nat.le_refl _) o))).below hb
theorem KeyC.of2 {w w' : World} {k0 k1 k2 k3 k4 : Int} {T : TypeId} {o : Obj} (hb : Below ((w.alloc o).alloc (.cells #[.int .i64 k0, .int .i64 k1, .int .i64 k2, .int .i64 k3, .int .u32 k4] T (0, 0))).heap.size ((w.alloc o).alloc (.cells #[.int .i64 k0, .int .i64 k1, .int .i64 k2, .int .i64 k3, .int .u32 k4] T (0, 0))) w') : KeyC w' (w.heap.size + 1) k0 k1 k2 k3 k4 := by
  have h := (KeyC.new (w.alloc o) k0 k1 k2 k3 k4 T).below hb
  have e : (w.alloc o).heap.size = w.heap.size + 1 := by simp
  rw [e] at h
  exact h
theorem KeyC.set {w : World} {b : Nat} {y0 y1 y2 y3 y4 : Int} (h : KeyC w b y0 y1 y2 y3 y4) (z0 z1 z2 z3 z4 : Int) :
    KeyC (((((w.setCell ⟨b, 0, none⟩ (.int .i64 z0)).setCell ⟨b, 1, none⟩ (.int .i64 z1)).setCell ⟨b, 2, none⟩ (.int .i64 z2)).setCell ⟨b, 3, none⟩ (.int .i64 z3)).setCell ⟨b, 4, none⟩ (.int .u32 z4)) b z0 z1 z2 z3 z4 := by
  have hs : ∀ j, j < (k5 z0 z1 z2 z3 z4).length → (w.cell? ⟨b, 0 + j, none⟩).isSome = true := by
    intro j hj
    have hj' : j = 0 ∨ j = 1 ∨ j = 2 ∨ j = 3 ∨ j = 4 := by simp [k5] at hj; omega
    rw [Nat.zero_add]
    rcases hj' with rfl | rfl | rfl | rfl | rfl
    · rw [h.c0]; rfl
    · rw [h.c1]; rfl
    · rw [h.c2]; rfl
    · rw [h.c3]; rfl
    · rw [h.c4]; rfl
  have all := World.cell?_setCells_in b (k5 z0 z1 z2 z3 z4) 0 w hs
  have hz : (w.setCells b 0 (k5 z0 z1 z2 z3 z4)).heap.size = w.heap.size := by simp [k5, World.setCells]
  exact ⟨Nat.lt_of_lt_of_le h.lt (Nat.le_of_eq hz.symm), all 0 (by simp [k5]), all 1 (by simp [k5]), all 2 (by simp [k5]), all 3 (by simp [k5]), all 4 (by simp [k5]), fun j => (World.frozen?_setCells b (k5 z0 z1 z2 z3 z4) 0 w ⟨b, j, none⟩).trans (h.fr j)⟩
section
variable {w X Y : World} {S P : Nat} {k1 : Int}
theorem fskeep (h : Below w.heap.size w X ∧ World.cell? X ⟨S, 0, none⟩ = some (.pointer (some ⟨P, 0, none⟩)) ∧ World.cell? X ⟨w.heap.size, 1, none⟩ = some (.int .i64 k1)) (hb : Below X.heap.size X Y) : Below w.heap.size w Y ∧ World.cell? Y ⟨S, 0, none⟩ = some (.pointer (some ⟨P, 0, none⟩)) ∧ World.cell? Y ⟨w.heap.size, 1, none⟩ = some (.int .i64 k1) := by
  have l1 : S < X.heap.size := by
    rcases Nat.lt_or_ge S X.heap.size with h' | h'
    · exact h'
    · have := h.2.1; simp [World.cell?, Array.getElem?_eq_none h'] at this
  have l2 : w.heap.size < X.heap.size := by
    rcases Nat.lt_or_ge w.heap.size X.heap.size with h' | h'
    · exact h'
    · have := h.2.2; simp [World.cell?, Array.getElem?_eq_none h'] at this
  exact ⟨h.1.trans (hb.mono h.1.size), (hb.cell (p := ⟨S, 0, none⟩) l1).trans h.2.1, (hb.cell (p := ⟨w.heap.size, 1, none⟩) l2).trans h.2.2⟩
end
set_option maxRecDepth 100000 in
set_option maxHeartbeats 2000000 in
theorem sfetch_ok {S : Nat} {a b : Shp} {th : Nat → Bool} {vr_ : Nat → Int} {W : Nat → Nat → Value} {th2 : Nat → Bool} {vr2 : Nat → Int} {W2 : Nat → Nat → Int} (k1 : Int) (k : Nat) (k2 k3 k4 s : Int) (j : Nat) (hk1 : k1 = k) (hs : s = j) (hk : k < a.n) (hj : j < 16) (hth : Hid (th k = true)) (ht : Hid (liveB a b th vr_ th2 vr2 2 k1 k2 = true)) (hb0 : bits BinOp.and IntKind.i64 k3 2 = 0) (y0 y1 y2 y3 y4 r0 r1 r2 r3 r4 : Int) (hy : Hid (KAt (W k) j y0 y1 y2 y3 y4))
    (hT : Hid (∀ w, Calls Tryd.prog 61 #[.int .i64 k3, (Value.agg #[.int .i64 y0, .int .i64 y1, .int .i64 y2, .int .i64 y3, .int .u32 y4])] w fun e w' => e = .returned (Value.agg #[.int .i64 r0, .int .i64 r1, .int .i64 r2, .int .i64 r3, .int .u32 r4]) ∧ Below w.heap.size w w')) (w : World) (h : (StAt w S a b th vr_ W th2 vr2 W2)) :
    Calls Tryd.prog 22 #[.pointer (some ⟨S, 0, none⟩), (.agg #[.int .i64 2, .int .i64 k1, .int .i64 k2, .int .i64 k3, .int .u32 k4]), .int .i64 s] w fun e w' => e = .returned (.tuple #[(Value.agg #[.int .i64 r0, .int .i64 r1, .int .i64 r2, .int .i64 r3, .int .u32 r4]), .nilIface]) ∧ Below w.heap.size w w' := by
  have hb1 : ∀ o o', Below w.heap.size w ((w.alloc o).alloc o') := fun o o' => ((Below.refl _ _).alloc (Nat.le_refl _) _ : Below w.heap.size w (w.alloc o)).alloc (by simp) o'
  have H := Lib.hid (fun o o' => h.below (hb1 o o'))
  have HB1 := Lib.hid hb1
  have HB0 := Lib.hid hb0
  have HK1 := Lib.hid hk1
  have HSj := Lib.hid hs
  have g0 : Hid (W k (j * 5) = .int .i64 y0) := Lib.hid hy.out.1
  have g1 : Hid (W k (j * 5 + 1) = .int .i64 y1) := Lib.hid hy.out.2.1
  have g2 : Hid (W k (j * 5 + 2) = .int .i64 y2) := Lib.hid hy.out.2.2.1
  have g3 : Hid (W k (j * 5 + 3) = .int .i64 y3) := Lib.hid hy.out.2.2.2.1
  have g4 : Hid (W k (j * 5 + 4) = .int .u32 y4) := Lib.hid hy.out.2.2.2.2
  clear h hb1 hb0 hk1 hs
  go_enter Tryd.func22, Tryd.ntmps22
  go_upto_region 4 with (first
    | (go_at_call 60; (with_reducible refine (sread_ok 2 k1 k2 k3 k4 ht HB0.out _ (H.out _ _)).mono ?_); rintro e w1 ⟨rfl, hb⟩; have HB := Lib.hid ((HB1.out _ _).trans (hb.mono (by simp; omega))); have H1 := Lib.hid ((H.out _ _).below hb); have HK0 : Hid (KeyC w1 w.heap.size 2 k1 k2 k3 k4) := Lib.hid (KeyC.of hb); have HZ0 : Hid (KeyC w1 (w.heap.size + 1) 0 0 0 0 0) := Lib.hid (KeyC.of2 hb); clear hb))
  go_cut [9, 10] (fun u o wx => ∃ bx : Nat, u = .pointer (some ⟨bx, 0, none⟩) ∧ o = .bool true ∧ Below w.heap.size w wx ∧ (StAt wx S a b th vr_ W th2 vr2 W2) ∧ KeyC wx bx y0 y1 y2 y3 y4 ∧ KeyC wx w.heap.size 2 k1 k2 k3 k4 ∧ KeyC wx (w.heap.size + 1) 0 0 0 0 0 ∧ w.heap.size + 2 ≤ bx)
  case first =>
    have Hs := Lib.hid H1.out.s0
    have Hk := Lib.hid HK0.out.c1
    have hs := Hs.out
    have hk1' := Hk.out
    have hA : ∀ o, World.cell? (w1.alloc o) ⟨S, 0, none⟩ = some (.pointer (some ⟨a.P, 0, none⟩)) := fun o => (H1.out.below ((Below.refl w1.heap.size w1).alloc (Nat.le_refl _) o)).s0
    have hA' : ∀ o, World.cell? (w1.alloc o) ⟨w.heap.size, 1, none⟩ = some (.int .i64 k1) := fun o => (HK0.out.below ((Below.refl w1.heap.size w1).alloc (Nat.le_refl _) o)).c1
    have hs1 := hA (.cells #[.int .i64 0, .int .i64 0, .int .i64 0, .int .i64 0, .int .u32 0] 25 (0, 0))
    have hs2 := hA' (.cells #[.int .i64 0, .int .i64 0, .int .i64 0, .int .i64 0, .int .u32 0] 25 (0, 0))
    clear hA hA'
    have hl1 := HK0.out.lt
    go_region_with (first | (go_at_call 40; (with_reducible refine (nget_at k1 s k j HK1 HSj hk hj hth y0 y1 y2 y3 y4 g0 g1 g2 g3 g4 _ (H1.out.below (Below.refl w1.heap.size w1).drew).nd).mono ?_); rintro e w2 ⟨rfl, hb⟩; have HBB := Lib.hid hb; clear hb) | (go_at_call 40; (with_reducible refine (nget_at k1 s k j HK1 HSj hk hj hth y0 y1 y2 y3 y4 g0 g1 g2 g3 g4 _ (H1.out.below ((Below.refl w1.heap.size w1).alloc (Nat.le_refl _) _).drew).nd).mono ?_); rintro e w2 ⟨rfl, hb⟩; have HBA := Lib.hid hb; have hKB := ((KeyC.new w1 0 0 0 0 0 25).below (Below.refl _ _).drew).below hb; have kc0 := hKB.c0; have kc1 := hKB.c1; have kc2 := hKB.c2; have kc3 := hKB.c3; have kc4 := hKB.c4; have kf0 := hKB.fr 0; have kf1 := hKB.fr 1; have kf2 := hKB.fr 2; have kf3 := hKB.fr 3; have kf4 := hKB.fr 4; have HKB := Lib.hid hKB; clear hb hKB))
    all_goals (go_wp2_with fail; go_meet; clear hs1 hs2 hs hk1'; have hz := HB.out.size; have hz2 : w.heap.size + 2 ≤ w1.heap.size := Nat.succ_le_of_lt HZ0.out.lt)
    all_goals (first
      | (have hb := ((Below.refl w1.heap.size w1).drew.trans (HBB.out.mono (by simp))).alloc (Nat.le_trans HBB.out.size (Nat.le_refl _)) (.cells #[.int .i64 y0, .int .i64 y1, .int .i64 y2, .int .i64 y3, .int .u32 y4] 25 (0, 0)); exact ⟨_, rfl, rfl, HB.out.trans (hb.mono hz), H1.out.below hb, KeyC.new _ y0 y1 y2 y3 y4 _, HK0.out.below hb, HZ0.out.below hb, Nat.le_trans hz2 HBB.out.size⟩)
      | (have hb := below_set5 ((((Below.refl w1.heap.size w1).alloc (Nat.le_refl _) _).drew).trans (HBA.out.mono (by simp))) (Nat.le_refl _) y0 y1 y2 y3 y4; exact ⟨_, rfl, rfl, HB.out.trans (hb.mono hz), H1.out.below hb, HKB.out.set y0 y1 y2 y3 y4, HK0.out.below hb, HZ0.out.below hb, hz2⟩))
  case rest =>
    obtain ⟨bx, rfl, rfl, hb, h, ky, kk, kz, hl⟩ := hcut
    have q0 := ky.c0
    have q1 := ky.c1
    have q2 := ky.c2
    have q3 := ky.c3
    have q4 := ky.c4
    have kk3 := kk.c3
    have HC := Lib.hid hb
    have HZ := Lib.hid kz
    clear hb h ky kk kz hl
    go_wp2_with (first
      | (go_at_call 61; (with_reducible refine (hT.out _).mono ?_); rintro e w3 ⟨rfl, hb3⟩; have z := HZ.out.below hb3; have z0 := z.c0; have z1 := z.c1; have z2 := z.c2; have z3 := z.c3; have z4 := z.c4; have f0 := z.fr 0; have f1 := z.fr 1; have f2 := z.fr 2; have f3 := z.fr 3; have f4 := z.fr 4; have HC3 := Lib.hid (HC.out.trans (hb3.mono HC.out.size)); have HZ3 := Lib.hid z; clear z hb3))
    have t := HZ3.out.set r0 r1 r2 r3 r4
    have t0 := t.c0
    have t1 := t.c1
    have t2 := t.c2
    have t3 := t.c3
    have t4 := t.c4
    (try simp only [Exit.inBlock, Exit.then])
    refine bodyPost_ret (v := .tuple #[(Value.agg #[.int .i64 r0, .int .i64 r1, .int .i64 r2, .int .i64 r3, .int .u32 r4]), .nilIface]) ?_ rfl ?_
    · simp [results, go_sem, t0, t1, t2, t3, t4]
    · exact ⟨rfl, below_set5 HC3.out (Nat.le_succ _) r0 r1 r2 r3 r4⟩
set_option maxHeartbeats 1000000 in
theorem sfetch_right {S : Nat} {a b : Shp} {th : Nat → Bool} {vr_ : Nat → Int} {W : Nat → Nat → Value} {th2 : Nat → Bool} {vr2 : Nat → Int} {W2 : Nat → Nat → Int} (k1 k2 k3 k4 s : Int) (ht : Hid (liveB a b th vr_ th2 vr2 2 k1 k2 = true)) (hb0 : Hid ((bits BinOp.and IntKind.i64 k3 2 == 0) = false)) (z : Addr) (w : World) (h : (StAt w S a b th vr_ W th2 vr2 W2)) (hE : w.cell? ⟨4, 0, none⟩ = some (eV z)) (hl : 4 < w.heap.size) :
    Calls Tryd.prog 22 #[.pointer (some ⟨S, 0, none⟩), .agg #[.int .i64 2, .int .i64 k1, .int .i64 k2, .int .i64 k3, .int .u32 k4], .int .i64 s] w fun e w' => e = .returned (.tuple #[.agg #[.int .i64 0, .int .i64 0, .int .i64 0, .int .i64 0, .int .u32 0], eV z]) ∧ Below w.heap.size w w' := by
  have hb1 : ∀ o o', Below w.heap.size w ((w.alloc o).alloc o') := fun o o' => ((Below.refl _ _).alloc (Nat.le_refl _) _ : Below w.heap.size w (w.alloc o)).alloc (by simp) o'
  have H := Lib.hid (fun o o' => h.below (hb1 o o'))
  have HE := Lib.hid (fun o o' => ((hb1 o o').cell (p := ⟨4, 0, none⟩) hl).trans hE)
  have HL := Lib.hid (fun o o' => Nat.lt_of_lt_of_le hl (hb1 o o').size)
  have HB1 := Lib.hid hb1
  clear h hE hl hb1
  go_enter Tryd.func22, Tryd.ntmps22
  go_wp2_with (first
    | (go_at_call 60; (with_reducible refine (sread_right 2 k1 k2 k3 k4 ht hb0.out z _ (H.out _ _) (HE.out _ _) (HL.out _ _)).mono ?_); rintro e w1 ⟨rfl, hb⟩; have HB := Lib.hid ((HB1.out _ _).trans (hb.mono (by simp; omega))); have c0 := hb.cell (p := ⟨w.heap.size + 1, 0, none⟩) (by simp); have c1 := hb.cell (p := ⟨w.heap.size + 1, 1, none⟩) (by simp); have c2 := hb.cell (p := ⟨w.heap.size + 1, 2, none⟩) (by simp); have c3 := hb.cell (p := ⟨w.heap.size + 1, 3, none⟩) (by simp); have c4 := hb.cell (p := ⟨w.heap.size + 1, 4, none⟩) (by simp); have z0 := hb.frozen (p := ⟨w.heap.size + 1, 0, none⟩) (by simp); have z1 := hb.frozen (p := ⟨w.heap.size + 1, 1, none⟩) (by simp); have z2 := hb.frozen (p := ⟨w.heap.size + 1, 2, none⟩) (by simp); have z3 := hb.frozen (p := ⟨w.heap.size + 1, 3, none⟩) (by simp); have z4 := hb.frozen (p := ⟨w.heap.size + 1, 4, none⟩) (by simp); simp at c0 c1 c2 c3 c4 z0 z1 z2 z3 z4; clear hb))
  have hX := kcell5 (W := w1) (b := w.heap.size + 1) 0 0 0 0 0 ⟨_, c0⟩ ⟨_, c1⟩ ⟨_, c2⟩ ⟨_, c3⟩ ⟨_, c4⟩
  obtain ⟨d0, d1, d2, d3, d4⟩ := hX
  refine bodyPost_ret (v := .tuple #[.agg #[.int .i64 0, .int .i64 0, .int .i64 0, .int .i64 0, .int .u32 0], eV z]) (by simp [results, Tryd.results22, go_sem, d0, d1, d2, d3, d4]) rfl ⟨rfl, below_set5 HB.out (by omega) _ _ _ _ _⟩
set_option maxHeartbeats 1000000 in
theorem sswap_right {S : Nat} {a b : Shp} {th : Nat → Bool} {vr_ : Nat → Int} {W : Nat → Nat → Value} {th2 : Nat → Bool} {vr2 : Nat → Int} {W2 : Nat → Nat → Int} (k1 k2 k3 k4 s x0 x1 x2 x3 x4 : Int) (ht : Hid (liveB a b th vr_ th2 vr2 2 k1 k2 = true)) (hb0 : Hid ((bits BinOp.and IntKind.i64 k3 2 == 0) = false)) (z : Addr) (w : World) (h : (StAt w S a b th vr_ W th2 vr2 W2)) (hE : w.cell? ⟨4, 0, none⟩ = some (eV z)) (hl : 4 < w.heap.size) :
    Calls Tryd.prog 25 #[.pointer (some ⟨S, 0, none⟩), .agg #[.int .i64 2, .int .i64 k1, .int .i64 k2, .int .i64 k3, .int .u32 k4], .int .i64 s, (Value.agg #[.int .i64 x0, .int .i64 x1, .int .i64 x2, .int .i64 x3, .int .u32 x4])] w fun e w' => e = .returned (.tuple #[.agg #[.int .i64 0, .int .i64 0, .int .i64 0, .int .i64 0, .int .u32 0], eV z]) ∧ Below w.heap.size w w' := by
  have hb1 : ∀ o o' o2, Below w.heap.size w (((w.alloc o).alloc o').alloc o2) := fun o o' o2 => (((Below.refl _ _).alloc (Nat.le_refl _) _ : Below w.heap.size w (w.alloc o)).alloc (by simp) o').alloc (by simp; omega) o2
  have H := Lib.hid (fun o o' o2 => h.below (hb1 o o' o2))
  have HE := Lib.hid (fun o o' o2 => ((hb1 o o' o2).cell (p := ⟨4, 0, none⟩) hl).trans hE)
  have HL := Lib.hid (fun o o' o2 => Nat.lt_of_lt_of_le hl (hb1 o o' o2).size)
  have HB1 := Lib.hid hb1
  clear h hE hl hb1
  go_enter Tryd.func25, Tryd.ntmps25
  go_wp2_with (first
    | (go_at_call 63; (with_reducible refine (swrite_noread 2 k1 k2 k3 k4 ht hb0.out z _ (H.out _ _ _) (HE.out _ _ _) (HL.out _ _ _)).mono ?_); rintro e w1 ⟨rfl, hb⟩; have HB := Lib.hid ((HB1.out _ _ _).trans (hb.mono (HB1.out _ _ _).size)); have c0 := (hb.cell (p := ⟨w.heap.size + 1 + 1, 0, none⟩) (new3 w _ _ _ _ 0).2.2).trans (new3 w _ _ _ _ 0).1; have c1 := (hb.cell (p := ⟨w.heap.size + 1 + 1, 1, none⟩) (new3 w _ _ _ _ 1).2.2).trans (new3 w _ _ _ _ 1).1; have c2 := (hb.cell (p := ⟨w.heap.size + 1 + 1, 2, none⟩) (new3 w _ _ _ _ 2).2.2).trans (new3 w _ _ _ _ 2).1; have c3 := (hb.cell (p := ⟨w.heap.size + 1 + 1, 3, none⟩) (new3 w _ _ _ _ 3).2.2).trans (new3 w _ _ _ _ 3).1; have c4 := (hb.cell (p := ⟨w.heap.size + 1 + 1, 4, none⟩) (new3 w _ _ _ _ 4).2.2).trans (new3 w _ _ _ _ 4).1; have z0 := (hb.frozen (p := ⟨w.heap.size + 1 + 1, 0, none⟩) (new3 w _ _ _ _ 0).2.2).trans (new3 w _ _ _ _ 0).2.1; have z1 := (hb.frozen (p := ⟨w.heap.size + 1 + 1, 1, none⟩) (new3 w _ _ _ _ 1).2.2).trans (new3 w _ _ _ _ 1).2.1; have z2 := (hb.frozen (p := ⟨w.heap.size + 1 + 1, 2, none⟩) (new3 w _ _ _ _ 2).2.2).trans (new3 w _ _ _ _ 2).2.1; have z3 := (hb.frozen (p := ⟨w.heap.size + 1 + 1, 3, none⟩) (new3 w _ _ _ _ 3).2.2).trans (new3 w _ _ _ _ 3).2.1; have z4 := (hb.frozen (p := ⟨w.heap.size + 1 + 1, 4, none⟩) (new3 w _ _ _ _ 4).2.2).trans (new3 w _ _ _ _ 4).2.1; simp at c0 c1 c2 c3 c4; clear hb))
  have hX := kcell5 (W := w1) (b := w.heap.size + 1 + 1) 0 0 0 0 0 ⟨_, c0⟩ ⟨_, c1⟩ ⟨_, c2⟩ ⟨_, c3⟩ ⟨_, c4⟩
  obtain ⟨d0, d1, d2, d3, d4⟩ := hX
  refine bodyPost_ret (v := .tuple #[.agg #[.int .i64 0, .int .i64 0, .int .i64 0, .int .i64 0, .int .u32 0], eV z]) (by simp [results, Tryd.results25, go_sem, d0, d1, d2, d3, d4]) rfl ⟨rfl, below_set5 HB.out (by omega) _ _ _ _ _⟩
set_option maxHeartbeats 1000000 in
theorem sswap_nowrite {S : Nat} {a b : Shp} {th : Nat → Bool} {vr_ : Nat → Int} {W : Nat → Nat → Value} {th2 : Nat → Bool} {vr2 : Nat → Int} {W2 : Nat → Nat → Int} (k1 k2 k3 k4 s x0 x1 x2 x3 x4 : Int) (ht : Hid (liveB a b th vr_ th2 vr2 2 k1 k2 = true)) (hb0 : Hid (bits BinOp.and IntKind.i64 k3 2 = 0)) (hb5 : Hid ((bits BinOp.and IntKind.i64 k3 5 == 0) = false)) (z : Addr) (w : World) (h : (StAt w S a b th vr_ W th2 vr2 W2)) (hE : w.cell? ⟨4, 0, none⟩ = some (eV z)) (hl : 4 < w.heap.size) :
    Calls Tryd.prog 25 #[.pointer (some ⟨S, 0, none⟩), .agg #[.int .i64 2, .int .i64 k1, .int .i64 k2, .int .i64 k3, .int .u32 k4], .int .i64 s, (Value.agg #[.int .i64 x0, .int .i64 x1, .int .i64 x2, .int .i64 x3, .int .u32 x4])] w fun e w' => e = .returned (.tuple #[.agg #[.int .i64 0, .int .i64 0, .int .i64 0, .int .i64 0, .int .u32 0], eV z]) ∧ Below w.heap.size w w' := by
  have hb1 : ∀ o o' o2, Below w.heap.size w (((w.alloc o).alloc o').alloc o2) := fun o o' o2 => (((Below.refl _ _).alloc (Nat.le_refl _) _ : Below w.heap.size w (w.alloc o)).alloc (by simp) o').alloc (by simp; omega) o2
  have H := Lib.hid (fun o o' o2 => h.below (hb1 o o' o2))
  have HE := Lib.hid (fun o o' o2 => ((hb1 o o' o2).cell (p := ⟨4, 0, none⟩) hl).trans hE)
  have HL := Lib.hid (fun o o' o2 => Nat.lt_of_lt_of_le hl (hb1 o o' o2).size)
  have HB1 := Lib.hid hb1
  clear h hE hl hb1
  go_enter Tryd.func25, Tryd.ntmps25
  go_wp2_with (first
    | (go_at_call 63; (with_reducible refine (swrite_nowrite 2 k1 k2 k3 k4 (Or.inl rfl) ht hb0.out hb5.out z _ (H.out _ _ _) (HE.out _ _ _) (HL.out _ _ _)).mono ?_); rintro e w1 ⟨rfl, hb⟩; have HB := Lib.hid ((HB1.out _ _ _).trans (hb.mono (HB1.out _ _ _).size)); have c0 := (hb.cell (p := ⟨w.heap.size + 1 + 1, 0, none⟩) (new3 w _ _ _ _ 0).2.2).trans (new3 w _ _ _ _ 0).1; have c1 := (hb.cell (p := ⟨w.heap.size + 1 + 1, 1, none⟩) (new3 w _ _ _ _ 1).2.2).trans (new3 w _ _ _ _ 1).1; have c2 := (hb.cell (p := ⟨w.heap.size + 1 + 1, 2, none⟩) (new3 w _ _ _ _ 2).2.2).trans (new3 w _ _ _ _ 2).1; have c3 := (hb.cell (p := ⟨w.heap.size + 1 + 1, 3, none⟩) (new3 w _ _ _ _ 3).2.2).trans (new3 w _ _ _ _ 3).1; have c4 := (hb.cell (p := ⟨w.heap.size + 1 + 1, 4, none⟩) (new3 w _ _ _ _ 4).2.2).trans (new3 w _ _ _ _ 4).1; have z0 := (hb.frozen (p := ⟨w.heap.size + 1 + 1, 0, none⟩) (new3 w _ _ _ _ 0).2.2).trans (new3 w _ _ _ _ 0).2.1; have z1 := (hb.frozen (p := ⟨w.heap.size + 1 + 1, 1, none⟩) (new3 w _ _ _ _ 1).2.2).trans (new3 w _ _ _ _ 1).2.1; have z2 := (hb.frozen (p := ⟨w.heap.size + 1 + 1, 2, none⟩) (new3 w _ _ _ _ 2).2.2).trans (new3 w _ _ _ _ 2).2.1; have z3 := (hb.frozen (p := ⟨w.heap.size + 1 + 1, 3, none⟩) (new3 w _ _ _ _ 3).2.2).trans (new3 w _ _ _ _ 3).2.1; have z4 := (hb.frozen (p := ⟨w.heap.size + 1 + 1, 4, none⟩) (new3 w _ _ _ _ 4).2.2).trans (new3 w _ _ _ _ 4).2.1; simp at c0 c1 c2 c3 c4; clear hb))
  have hX := kcell5 (W := w1) (b := w.heap.size + 1 + 1) 0 0 0 0 0 ⟨_, c0⟩ ⟨_, c1⟩ ⟨_, c2⟩ ⟨_, c3⟩ ⟨_, c4⟩
  obtain ⟨d0, d1, d2, d3, d4⟩ := hX
  refine bodyPost_ret (v := .tuple #[.agg #[.int .i64 0, .int .i64 0, .int .i64 0, .int .i64 0, .int .u32 0], eV z]) (by simp [results, Tryd.results25, go_sem, d0, d1, d2, d3, d4]) rfl ⟨rfl, below_set5 HB.out (by omega) _ _ _ _ _⟩
end Go.Proofs.YtkhgnmgcdgjncaaDoor
namespace Go.Proofs.YtkhgnmgcdgjncaaDoor
open Go.ChangeShapes Go.WideShapes Go.ChangeAt Go.RowKit
set_option linter.unusedVariables false
theorem PBelow.low {w w' w'' : World} {B G : Nat} (h : PBelow w w' B G) (h2 : Below w.heap.size w' w'') : PBelow w w'' B G :=
  ⟨h2.os.trans h.1, h2.tape.trans h.2.1, h2.output.trans h.2.2.1, Nat.le_trans h.2.2.2.1 h2.size, fun k hk h3 h4 => (h2.block k hk).trans (h.2.2.2.2 k hk h3 h4)⟩
theorem KeyC.pbelow {w w' : World} {b : Nat} {k0 k1 k2 k3 k4 : Int} {B G : Nat} (h : KeyC w b k0 k1 k2 k3 k4) (hb : PBelow w w' B G) (h1 : b ≠ B) (h2 : b ≠ G) : KeyC w' b k0 k1 k2 k3 k4 := by
  have e := hb.2.2.2.2 b h.lt h1 h2
  have c : ∀ j, w'.cell? ⟨b, j, none⟩ = w.cell? ⟨b, j, none⟩ := fun j => World.cell?_of_block (a := ⟨b, j, none⟩) e
  exact ⟨Nat.lt_of_lt_of_le h.lt hb.2.2.2.1, (c 0).trans h.c0, (c 1).trans h.c1, (c 2).trans h.c2, (c 3).trans h.c3, (c 4).trans h.c4, fun j => by have := h.fr j; simp only [World.frozen?] at this ⊢; rw [e]; exact this⟩
section
variable {w w' : World} {k0 k1 k2 k3 k4 x0 x1 x2 x3 x4 z0 z1 z2 z3 z4 : Int} {T : TypeId}
theorem KeyC.three (hb : Below (((w.alloc (.cells #[.int .i64 k0, .int .i64 k1, .int .i64 k2, .int .i64 k3, .int .u32 k4] T (0, 0))).alloc (.cells #[.int .i64 x0, .int .i64 x1, .int .i64 x2, .int .i64 x3, .int .u32 x4] T (0, 0))).alloc (.cells #[.int .i64 z0, .int .i64 z1, .int .i64 z2, .int .i64 z3, .int .u32 z4] T (0, 0))).heap.size (((w.alloc (.cells #[.int .i64 k0, .int .i64 k1, .int .i64 k2, .int .i64 k3, .int .u32 k4] T (0, 0))).alloc (.cells #[.int .i64 x0, .int .i64 x1, .int .i64 x2, .int .i64 x3, .int .u32 x4] T (0, 0))).alloc (.cells #[.int .i64 z0, .int .i64 z1, .int .i64 z2, .int .i64 z3, .int .u32 z4] T (0, 0))) w') :
    KeyC w' w.heap.size k0 k1 k2 k3 k4 ∧ KeyC w' (w.heap.size + 1) x0 x1 x2 x3 x4 ∧ KeyC w' (w.heap.size + 1 + 1) z0 z1 z2 z3 z4 := by
  have a1 := ((KeyC.new w k0 k1 k2 k3 k4 T).below ((Below.refl _ _).alloc (Nat.le_refl _) (.cells #[.int .i64 x0, .int .i64 x1, .int .i64 x2, .int .i64 x3, .int .u32 x4] T (0, 0)))).below ((Below.refl _ _).alloc (Nat.le_refl _) (.cells #[.int .i64 z0, .int .i64 z1, .int .i64 z2, .int .i64 z3, .int .u32 z4] T (0, 0)))
  have a2 := (KeyC.new (w.alloc (.cells #[.int .i64 k0, .int .i64 k1, .int .i64 k2, .int .i64 k3, .int .u32 k4] T (0, 0))) x0 x1 x2 x3 x4 T).below ((Below.refl _ _).alloc (Nat.le_refl _) (.cells #[.int .i64 z0, .int .i64 z1, .int .i64 z2, .int .i64 z3, .int .u32 z4] T (0, 0)))
  have a3 := KeyC.new ((w.alloc (.cells #[.int .i64 k0, .int .i64 k1, .int .i64 k2, .int .i64 k3, .int .u32 k4] T (0, 0))).alloc (.cells #[.int .i64 x0, .int .i64 x1, .int .i64 x2, .int .i64 x3, .int .u32 x4] T (0, 0))) z0 z1 z2 z3 z4 T
  have b1 := a1.below hb
  have b2 := a2.below hb
  have b3 := a3.below hb
  have e2 : (w.alloc (.cells #[.int .i64 k0, .int .i64 k1, .int .i64 k2, .int .i64 k3, .int .u32 k4] T (0, 0))).heap.size = w.heap.size + 1 := by simp
  have e3 : ((w.alloc (.cells #[.int .i64 k0, .int .i64 k1, .int .i64 k2, .int .i64 k3, .int .u32 k4] T (0, 0))).alloc (.cells #[.int .i64 x0, .int .i64 x1, .int .i64 x2, .int .i64 x3, .int .u32 x4] T (0, 0))).heap.size = w.heap.size + 1 + 1 := by simp
  rw [e2] at b2
  rw [e3] at b3
  exact ⟨b1, b2, b3⟩
end
set_option maxRecDepth 100000 in
set_option maxHeartbeats 2000000 in
theorem sswap_ok {S : Nat} {a b : Shp} {th : Nat → Bool} {vr_ : Nat → Int} {W : Nat → Nat → Value} {th2 : Nat → Bool} {vr2 : Nat → Int} {W2 : Nat → Nat → Int} (vs vr : Value) (k : Nat) (k2 k3 k4 : Int) (j : Nat) (hk : k < a.n) (hj : j < 16) (hth : Hid (th k = true)) (ht : Hid (liveB a b th vr_ th2 vr2 2 k k2 = true)) (hb0 : Hid (bits BinOp.and IntKind.i64 k3 2 = 0)) (hb5 : Hid ((bits BinOp.and IntKind.i64 k3 5 == 0) = true)) (y0 y1 y2 y3 y4 x0 x1 x2 x3 x4 : Int) (hy : Hid (KAt (W k) j y0 y1 y2 y3 y4)) (hx : Hid (rightB x0 x1 x2 x3 x4 = true)) (hcell : Hid (∀ j, j < 80 → (W k j).oneCell' = true)) (w : World) (hE : ErrsAt vs vr w) (h : (StAt w S a b th vr_ W th2 vr2 W2)) :
    Calls Tryd.prog 25 #[.pointer (some ⟨S, 0, none⟩), .agg #[.int .i64 2, .int .i64 k, .int .i64 k2, .int .i64 k3, .int .u32 k4], .int .i64 j, (Value.agg #[.int .i64 x0, .int .i64 x1, .int .i64 x2, .int .i64 x3, .int .u32 x4])] w fun e w' => e = .returned (.tuple #[(Value.agg #[.int .i64 y0, .int .i64 y1, .int .i64 y2, .int .i64 y3, .int .u32 y4]), .nilIface]) ∧ StAt w' S a b th vr_ (updV W k (j * 5) (k5 x0 x1 x2 x3 x4)) th2 vr2 W2 ∧ PBelow w w' a.B a.G := by
  have hb1 : ∀ o o' o2, Below w.heap.size w (((w.alloc o).alloc o').alloc o2) := fun o o' o2 => (((Below.refl _ _).alloc (Nat.le_refl _) _ : Below w.heap.size w (w.alloc o)).alloc (by simp) o').alloc (by simp; omega) o2
  have H := Lib.hid (fun o o' o2 => h.below (hb1 o o' o2))
  have HE := Lib.hid (fun o o' o2 => hE.below (hb1 o o' o2))
  have HB1 := Lib.hid hb1
  have H0 := Lib.hid h
  have g0 : Hid (W k (j * 5) = .int .i64 y0) := Lib.hid hy.out.1
  have g1 : Hid (W k (j * 5 + 1) = .int .i64 y1) := Lib.hid hy.out.2.1
  have g2 : Hid (W k (j * 5 + 2) = .int .i64 y2) := Lib.hid hy.out.2.2.1
  have g3 : Hid (W k (j * 5 + 3) = .int .i64 y3) := Lib.hid hy.out.2.2.2.1
  have g4 : Hid (W k (j * 5 + 4) = .int .u32 y4) := Lib.hid hy.out.2.2.2.2
  clear h hb1 hE
  go_enter Tryd.func25, Tryd.ntmps25
  go_upto_region 4 with (first
    | (go_at_call 63; (with_reducible refine (swrite_ok 2 k k2 k3 k4 (Or.inl rfl) ht hb0.out hb5.out _ (H.out _ _ _)).mono ?_); rintro e w1 ⟨rfl, hb⟩; have HB := Lib.hid ((HB1.out _ _ _).trans (hb.mono (HB1.out _ _ _).size)); have H1 := Lib.hid ((H.out _ _ _).below hb); have HE1 := Lib.hid ((HE.out _ _ _).below hb); have HT := Lib.hid (KeyC.three hb); clear hb))
  go_cut [11] (fun u wx => ∃ bx : Nat, u = .pointer (some ⟨bx, 0, none⟩) ∧ Below w.heap.size w wx ∧ (StAt wx S a b th vr_ W th2 vr2 W2) ∧ ErrsAt vs vr wx ∧ KeyC wx bx y0 y1 y2 y3 y4 ∧ KeyC wx w.heap.size 2 k k2 k3 k4 ∧ KeyC wx (w.heap.size + 1) x0 x1 x2 x3 x4 ∧ KeyC wx (w.heap.size + 1 + 1) 0 0 0 0 0 ∧ w.heap.size + 1 + 1 < bx)
  case first =>
    have HK0 := Lib.hid HT.out.1
    have HX0 := Lib.hid HT.out.2.1
    have HZ0 := Lib.hid HT.out.2.2
    have hs := H1.out.s0
    have hk1' := HK0.out.c1
    have hA : ∀ o, World.cell? (w1.alloc o) ⟨S, 0, none⟩ = some (.pointer (some ⟨a.P, 0, none⟩)) := fun o => (H1.out.below ((Below.refl w1.heap.size w1).alloc (Nat.le_refl _) o)).s0
    have hA' : ∀ o, World.cell? (w1.alloc o) ⟨w.heap.size, 1, none⟩ = some (.int .i64 k) := fun o => (HK0.out.below ((Below.refl w1.heap.size w1).alloc (Nat.le_refl _) o)).c1
    have hs1 := hA (.cells #[.int .i64 0, .int .i64 0, .int .i64 0, .int .i64 0, .int .u32 0] 25 (0, 0))
    have hs2 := hA' (.cells #[.int .i64 0, .int .i64 0, .int .i64 0, .int .i64 0, .int .u32 0] 25 (0, 0))
    clear hA hA'
    have hl1 := HK0.out.lt
    go_region_with (first | (go_at_call 40; (with_reducible refine (nget_at k j k j (Lib.hid rfl) (Lib.hid rfl) hk hj hth y0 y1 y2 y3 y4 g0 g1 g2 g3 g4 _ (H1.out.below (Below.refl w1.heap.size w1).drew).nd).mono ?_); rintro e w2 ⟨rfl, hb⟩; have HBB := Lib.hid hb; clear hb) | (go_at_call 40; (with_reducible refine (nget_at k j k j (Lib.hid rfl) (Lib.hid rfl) hk hj hth y0 y1 y2 y3 y4 g0 g1 g2 g3 g4 _ (H1.out.below ((Below.refl w1.heap.size w1).alloc (Nat.le_refl _) _).drew).nd).mono ?_); rintro e w2 ⟨rfl, hb⟩; have HBA := Lib.hid hb; have hKB := ((KeyC.new w1 0 0 0 0 0 25).below (Below.refl _ _).drew).below hb; have kc0 := hKB.c0; have kc1 := hKB.c1; have kc2 := hKB.c2; have kc3 := hKB.c3; have kc4 := hKB.c4; have kf0 := hKB.fr 0; have kf1 := hKB.fr 1; have kf2 := hKB.fr 2; have kf3 := hKB.fr 3; have kf4 := hKB.fr 4; have HKB := Lib.hid hKB; clear hb hKB))
    all_goals (go_wp2_with fail; go_meet; clear hs1 hs2 hs hk1'; have hz := HB.out.size; have hz2 : w.heap.size + 1 + 1 < w1.heap.size := HZ0.out.lt)
    all_goals (first
      | (have hb := ((Below.refl w1.heap.size w1).drew.trans (HBB.out.mono (by simp))).alloc (Nat.le_trans HBB.out.size (Nat.le_refl _)) (.cells #[.int .i64 y0, .int .i64 y1, .int .i64 y2, .int .i64 y3, .int .u32 y4] 25 (0, 0)); exact ⟨_, rfl, HB.out.trans (hb.mono hz), H1.out.below hb, HE1.out.below hb, KeyC.new _ y0 y1 y2 y3 y4 _, HK0.out.below hb, HX0.out.below hb, HZ0.out.below hb, Nat.lt_of_lt_of_le hz2 HBB.out.size⟩)
      | (have hb := below_set5 ((((Below.refl w1.heap.size w1).alloc (Nat.le_refl _) _).drew).trans (HBA.out.mono (by simp))) (Nat.le_refl _) y0 y1 y2 y3 y4; exact ⟨_, rfl, HB.out.trans (hb.mono hz), H1.out.below hb, HE1.out.below hb, HKB.out.set y0 y1 y2 y3 y4, HK0.out.below hb, HX0.out.below hb, HZ0.out.below hb, hz2⟩))
  case rest =>
    obtain ⟨bx, rfl, hb, h, hE, ky, kk, kx, kz, hl⟩ := hcut
    go_upto_region 5 with fail
    have hB : a.B < w.heap.size := H0.out.nd.ar.lt.2
    have hG : a.G < w.heap.size := (H0.out.nd.row.lt a.G rfl).2
    have hs := h.s0
    have kk1 := kk.c1
    have q0 := kx.c0
    have q1 := kx.c1
    have q2 := kx.c2
    have q3 := kx.c3
    have q4 := kx.c4
    have HC := Lib.hid (hb.drew)
    have HS := Lib.hid (h.below (Below.refl _ _).drew)
    have HEc := Lib.hid (hE.below (Below.refl _ _).drew)
    have HY := Lib.hid (ky.below (Below.refl _ _).drew)
    have HZ := Lib.hid (kz.below (Below.refl _ _).drew)
    have HN := Lib.hid (show bx ≠ a.B ∧ bx ≠ a.G ∧ w.heap.size + 1 + 1 ≠ a.B ∧ w.heap.size + 1 + 1 ≠ a.G by omega)
    clear hb h hE ky kk kx kz hl hB hG
    go_still_tail 8, (by kernel_rfl)
    change wpList _ _ _ _ _ wc.drew
    clear hs kk1 q0 q1 q2 q3 q4
    go_wp2_with (first
      | (go_at_call 43; (with_reducible refine (nset_ok vs vr k j hk hj hth x0 x1 x2 x3 x4 hx _ HEc.out HS.out.nd hcell).mono ?_); rintro e w3 ⟨rfl, hN3, hP3⟩; have y := HY.out.pbelow hP3 HN.out.1 HN.out.2.1; have z := HZ.out.pbelow hP3 HN.out.2.2.1 HN.out.2.2.2; have y0' := y.c0; have y1' := y.c1; have y2' := y.c2; have y3' := y.c3; have y4' := y.c4; have z0 := z.c0; have z1 := z.c1; have z2 := z.c2; have z3 := z.c3; have z4 := z.c4; have f0 := z.fr 0; have f1 := z.fr 1; have f2 := z.fr 2; have f3 := z.fr 3; have f4 := z.fr 4; have HN3 := Lib.hid hN3; have HP3 := Lib.hid ((PBelow.of_below HC.out).trans hP3); have HZ3 := Lib.hid z; clear z y hN3 hP3))
    have t := HZ3.out.set y0 y1 y2 y3 y4
    have t0 := t.c0
    have t1 := t.c1
    have t2 := t.c2
    have t3 := t.c3
    have t4 := t.c4
    (try simp only [Exit.inBlock, Exit.then])
    refine bodyPost_ret (v := .tuple #[(Value.agg #[.int .i64 y0, .int .i64 y1, .int .i64 y2, .int .i64 y3, .int .u32 y4]), .nilIface]) ?_ rfl ?_
    · simp [results, go_sem, t0, t1, t2, t3, t4]
    · have hb := below_set5 (Below.refl w.heap.size w3) (show w.heap.size ≤ w.heap.size + 1 + 1 by omega) y0 y1 y2 y3 y4
      have hP := HP3.out.low hb
      exact ⟨rfl, H0.out.node (HN3.out.same hb.size (hb.block _ H0.out.nd.pl) (hb.block _ H0.out.nd.ar.pl) (hb.block _ H0.out.nd.ar.lt.2) (hb.block _ (H0.out.nd.row.lt a.G rfl).2)) hP, hP⟩
end Go.Proofs.YtkhgnmgcdgjncaaDoor
namespace Go.Proofs.YtkhgnmgcdgjncaaDoor
open Go.ChangeShapes Go.WideShapes Go.ChangeAt Go.RowKit
set_option linter.unusedVariables false
theorem many_places (k : Int) : manyOf k = if placesOf k = 0 then 1 else placesOf k := by
  unfold manyOf placesOf
  repeat' split
  all_goals first | rfl | omega | (exfalso; simp_all)
theorem hid_many (k : Int) : hidOf k = manyOf k - 1 := by
  unfold hidOf
  rw [many_places]
  have := placesOf_ge k
  split <;> split <;> omega
theorem hver_most (k : Int) : hverOf k = mostOf k := by
  unfold hverOf mostOf
  rw [many_places]
  have := placesOf_ge k
  have p1 : placesOf k ≠ 1 := by unfold placesOf; repeat' split
                                 all_goals omega
  by_cases h : placesOf k = 0
  · rw [if_pos h, if_neg (by omega), if_neg (by omega)]
  · rw [if_neg h, if_pos (by omega), if_pos (by omega)]
theorem hr_rights (k : Int) : hrOf k = rightsOf k := by
  unfold hrOf rightsOf
  by_cases h : k = 2 ∨ k = 3
  · rw [if_pos h, if_pos (by simpa using h)]
  · rw [if_neg h, if_neg (by simpa using h)]
theorem data_most (k : Int) : dataMost k = dataOf k := by
  unfold dataMost dataOf
  repeat' split
  all_goals first | rfl | omega
theorem right_in (k0 k1 k2 k3 k4 : Int) : rightB k0 k1 k2 k3 k4 = decide ((0 ≤ k0 ∧ k0 ≤ 14) ∧ InB k0 k1 k2 k3 k4) := by
  unfold rightB InB
  rw [hid_many, hver_most, hr_rights, data_most]
  rw [Bool.eq_iff_iff]
  simp only [wB, Bool.and_eq_true, decide_eq_true_eq]
  omega
theorem code_right {k0 k1 k2 k3 k4 : Int} (h : rightB k0 k1 k2 k3 k4 = true) : codeOf k0 k1 k2 k3 k4 = 0 := by
  rw [right_in, decide_eq_true_iff] at h
  exact codeOf_0 _ _ _ _ _ (by omega) h.2
theorem right_of_code {k0 k1 k2 k3 k4 : Int} (h : codeOf k0 k1 k2 k3 k4 = 0) : rightB k0 k1 k2 k3 k4 = true := by
  rw [right_in, decide_eq_true_iff]
  unfold codeOf at h
  split at h
  · omega
  · split at h
    · exact ⟨by omega, by assumption⟩
    · omega
theorem code_not {k0 k1 k2 k3 k4 : Int} (h : ¬ codeOf k0 k1 k2 k3 k4 = 0) : codeOf k0 k1 k2 k3 k4 = 102 ∨ codeOf k0 k1 k2 k3 k4 = 103 := by
  unfold codeOf at h ⊢
  split at h <;> split <;> first | omega | (split at h <;> split <;> omega) | (left; rfl) | skip
  all_goals (first | omega | (split at h <;> first | omega | (split <;> omega)))
theorem weak_ex (k0 k1 k2 k3 k4 : Int) : ∃ r0 r1 r2 r3 : Int, ∃ r4 : Int, Wk [k0, k1, k2, k3, k4] [r0, r1, r2, r3, r4] ∧ (r4 = k4 ∨ r4 = 0) := by
  by_cases hm : k0 = 2 ∨ k0 = 3
  · exact ⟨_, _, _, _, _, .inl ⟨hm, rfl⟩, .inl rfl⟩
  · by_cases hv : k0 = 0 ∨ k0 = 1 ∨ k0 = 12 ∨ k0 = 14
    · exact ⟨_, _, _, _, _, .inr (.inl ⟨hv, rfl⟩), .inl rfl⟩
    · exact ⟨0, 0, 0, 0, 0, .inr (.inr ⟨⟨fun e => hv (.inl e), fun e => hv (.inr (.inl e)), fun e => hm (.inl e), fun e => hm (.inr e), fun e => hv (.inr (.inr (.inl e))), fun e => hv (.inr (.inr (.inr e)))⟩, rfl⟩), .inr rfl⟩
end Go.Proofs.YtkhgnmgcdgjncaaDoor
namespace Go.Proofs.YtkhgnmgcdgjncaaDoor
open Go.ChangeShapes Go.WideShapes Go.ChangeAt Go.RowKit
set_option linter.unusedVariables false
theorem sswap_at {S : Nat} {a b : Shp} {th : Nat → Bool} {vr_ : Nat → Int} {W : Nat → Nat → Value} {th2 : Nat → Bool} {vr2 : Nat → Int} {W2 : Nat → Nat → Int} (vs vr : Value) (id : Int) (k : Nat) (hid : Hid (id = k)) (k2 k3 k4 : Int) (j : Nat) (hk : k < a.n) (hj : j < 16) (hth : Hid (th k = true)) (ht : Hid (liveB a b th vr_ th2 vr2 2 id k2 = true)) (hb0 : Hid (bits BinOp.and IntKind.i64 k3 2 = 0)) (hb5 : Hid ((bits BinOp.and IntKind.i64 k3 5 == 0) = true)) (y0 y1 y2 y3 y4 x0 x1 x2 x3 x4 : Int) (hy : Hid (KAt (W k) j y0 y1 y2 y3 y4)) (hx : Hid (rightB x0 x1 x2 x3 x4 = true)) (hcell : Hid (∀ j, j < 80 → (W k j).oneCell' = true)) (w : World) (hE : ErrsAt vs vr w) (h : (StAt w S a b th vr_ W th2 vr2 W2)) :
    Calls Tryd.prog 25 #[.pointer (some ⟨S, 0, none⟩), .agg #[.int .i64 2, .int .i64 id, .int .i64 k2, .int .i64 k3, .int .u32 k4], .int .i64 j, (Value.agg #[.int .i64 x0, .int .i64 x1, .int .i64 x2, .int .i64 x3, .int .u32 x4])] w fun e w' => e = .returned (.tuple #[(Value.agg #[.int .i64 y0, .int .i64 y1, .int .i64 y2, .int .i64 y3, .int .u32 y4]), .nilIface]) ∧ StAt w' S a b th vr_ (updV W k (j * 5) (k5 x0 x1 x2 x3 x4)) th2 vr2 W2 ∧ PBelow w w' a.B a.G := by
  have e := hid.out
  subst e
  exact sswap_ok vs vr k k2 k3 k4 j hk hj hth ht hb0 hb5 y0 y1 y2 y3 y4 x0 x1 x2 x3 x4 hy hx hcell w hE h
/-- The law's state: the store, what lies in the slot, the key, what was laid last. -/
structure SwSt (w0 w : World) (S : Nat) (a b : Shp) (W : Nat → Nat → Value) (j kb lb : Nat) (z0 z1 z2 z3 z4 y0 y1 y2 y3 y4 : Int) : Prop where
  sv : SV w0 w S a b (upd (fun _ => false) 0 true) (fun _ => 0) W (fun _ => false) (fun _ => 0) (fun _ _ => 0)
  at_ : KAt (W 0) j z0 z1 z2 z3 z4
  all : ∀ q, q < 16 → ∃ x0 x1 x2 x3 x4, KAt (W 0) q x0 x1 x2 x3 x4
  kk : KeyC w kb 2 0 0 0 2
  ll : KeyC w lb y0 y1 y2 y3 y4
  nn : a.n = 2
  ord : (S < kb ∧ a.P < kb ∧ a.p < kb ∧ a.B < kb ∧ a.G < kb) ∧ (b.P < kb ∧ b.p < kb ∧ b.B < kb ∧ b.G < kb) ∧ kb < lb ∧ w0.heap.size ≤ kb
section
variable {w0 w w' : World} {S : Nat} {a b : Shp} {W W' : Nat → Nat → Value} {j kb lb : Nat} {z0 z1 z2 z3 z4 y0 y1 y2 y3 y4 x0 x1 x2 x3 x4 t0 t1 t2 t3 t4 : Int}
theorem SwSt.below (h : (SwSt w0 w S a b W j kb lb z0 z1 z2 z3 z4 y0 y1 y2 y3 y4)) (hb : Below w.heap.size w w') : (SwSt w0 w' S a b W j kb lb z0 z1 z2 z3 z4 y0 y1 y2 y3 y4) := ⟨h.sv.step hb, h.at_, h.all, h.kk.below hb, h.ll.below hb, h.nn, h.ord⟩
theorem SwSt.one (h : (SwSt w0 w S a b W j kb lb z0 z1 z2 z3 z4 y0 y1 y2 y3 y4)) : ∀ b, b < 80 → (W 0 b).oneCell' = true := KAt.one h.all
theorem SwSt.swap (h : (SwSt w0 w S a b W j kb lb z0 z1 z2 z3 z4 y0 y1 y2 y3 y4)) (hN : StAt w' S a b (upd (fun _ => false) 0 true) (fun _ => 0) (updV W 0 (j * 5) (k5 x0 x1 x2 x3 x4)) (fun _ => false) (fun _ => 0) (fun _ _ => 0)) (hb : PBelow w w' a.B a.G) : (SwSt w0 w' S a b (updV W 0 (j * 5) (k5 x0 x1 x2 x3 x4)) j kb lb x0 x1 x2 x3 x4 y0 y1 y2 y3 y4) := by
  have ho := h.ord
  refine ⟨h.sv.node hN.nd hb, updV_key W 0 j x0 x1 x2 x3 x4, fun q hq => ?_, h.kk.pbelow hb (by omega) (by omega), h.ll.pbelow hb (by omega) (by omega), h.nn, h.ord⟩
  by_cases e : q = j
  · subst e; exact ⟨_, _, _, _, _, updV_key W 0 q x0 x1 x2 x3 x4⟩
  · obtain ⟨t0, t1, t2, t3, t4, ht⟩ := h.all q hq
    exact ⟨_, _, _, _, _, updV_rest W 0 j 0 q x0 x1 x2 x3 x4 (fun h => e h.2) ht⟩
theorem set5_other (w : World) (b k : Nat) (v0 v1 v2 v3 v4 : Value) (h : k ≠ b) : (((((w.setCell ⟨b, 0, none⟩ v0).setCell ⟨b, 1, none⟩ v1).setCell ⟨b, 2, none⟩ v2).setCell ⟨b, 3, none⟩ v3).setCell ⟨b, 4, none⟩ v4).heap[k]? = w.heap[k]? := by
  have e : ∀ (v : World) (q : Nat) (u : Value), (v.setCell ⟨b, q, none⟩ u).heap[k]? = v.heap[k]? := fun v q u => Below.heap_setCell _ _ _ _ h
  rw [e, e, e, e, e]
theorem KeyC.far {b : Nat} (h : KeyC w b x0 x1 x2 x3 x4) (hs : w.heap.size ≤ w'.heap.size) (e : w'.heap[b]? = w.heap[b]?) : KeyC w' b x0 x1 x2 x3 x4 := by
  have c : ∀ j, w'.cell? ⟨b, j, none⟩ = w.cell? ⟨b, j, none⟩ := fun j => World.cell?_of_block (a := ⟨b, j, none⟩) e
  exact ⟨Nat.lt_of_lt_of_le h.lt hs, (c 0).trans h.c0, (c 1).trans h.c1, (c 2).trans h.c2, (c 3).trans h.c3, (c 4).trans h.c4, fun j => by have := h.fr j; simp only [World.frozen?] at this ⊢; rw [e]; exact this⟩
theorem SwSt.put (h : (SwSt w0 w S a b W j kb lb z0 z1 z2 z3 z4 y0 y1 y2 y3 y4)) (bx : Nat) (hbx : kb < bx) (hll : KeyC (((((w.setCell ⟨bx, 0, none⟩ (.int .i64 t0)).setCell ⟨bx, 1, none⟩ (.int .i64 t1)).setCell ⟨bx, 2, none⟩ (.int .i64 t2)).setCell ⟨bx, 3, none⟩ (.int .i64 t3)).setCell ⟨bx, 4, none⟩ (.int .u32 t4)) lb x0 x1 x2 x3 x4) : (SwSt w0 (((((w.setCell ⟨bx, 0, none⟩ (.int .i64 t0)).setCell ⟨bx, 1, none⟩ (.int .i64 t1)).setCell ⟨bx, 2, none⟩ (.int .i64 t2)).setCell ⟨bx, 3, none⟩ (.int .i64 t3)).setCell ⟨bx, 4, none⟩ (.int .u32 t4)) S a b W j kb lb z0 z1 z2 z3 z4 x0 x1 x2 x3 x4) := by
  have ho := h.ord
  have hz : w.heap.size = (((((w.setCell ⟨bx, 0, none⟩ (.int .i64 t0)).setCell ⟨bx, 1, none⟩ (.int .i64 t1)).setCell ⟨bx, 2, none⟩ (.int .i64 t2)).setCell ⟨bx, 3, none⟩ (.int .i64 t3)).setCell ⟨bx, 4, none⟩ (.int .u32 t4)).heap.size := by simp
  have hs := Nat.le_of_eq hz
  have e := fun k (hk : k ≠ bx) => set5_other w bx k (.int .i64 t0) (.int .i64 t1) (.int .i64 t2) (.int .i64 t3) (.int .u32 t4) hk
  have hst := h.sv.st
  refine ⟨⟨below_set5 h.sv.bel (by omega) _ _ _ _ _, h.sv.wb, ⟨(World.cell?_of_block (a := ⟨S, 0, none⟩) (e S (by omega))).trans hst.s0, (World.cell?_of_block (a := ⟨S, 1, none⟩) (e S (by omega))).trans hst.s1, Nat.lt_of_lt_of_le hst.sl hs, hst.nd.same hs (e _ (by omega)) (e _ (by omega)) (e _ (by omega)) (e _ (by omega)), hst.pg.same hs (e _ (by omega)) (e _ (by omega)) (e _ (by omega)) (e _ (by omega)), hst.ab, hst.hi, hst.hs⟩⟩, h.at_, h.all, h.kk.far hs (e _ (by omega)), hll, h.nn, h.ord⟩
theorem SwSt.last (h : (SwSt w0 w S a b W j kb lb z0 z1 z2 z3 z4 y0 y1 y2 y3 y4)) (x0 x1 x2 x3 x4 : Int) : (SwSt w0 (((((w.setCell ⟨lb, 0, none⟩ (.int .i64 x0)).setCell ⟨lb, 1, none⟩ (.int .i64 x1)).setCell ⟨lb, 2, none⟩ (.int .i64 x2)).setCell ⟨lb, 3, none⟩ (.int .i64 x3)).setCell ⟨lb, 4, none⟩ (.int .u32 x4)) S a b W j kb lb z0 z1 z2 z3 z4 x0 x1 x2 x3 x4) :=
  h.put lb h.ord.2.2.1 (h.ll.set x0 x1 x2 x3 x4)
theorem SwSt.box (h : (SwSt w0 w S a b W j kb lb z0 z1 z2 z3 z4 y0 y1 y2 y3 y4)) {bx : Nat} (hbx : lb < bx) (x0 x1 x2 x3 x4 : Int) : (SwSt w0 (((((w.setCell ⟨bx, 0, none⟩ (.int .i64 x0)).setCell ⟨bx, 1, none⟩ (.int .i64 x1)).setCell ⟨bx, 2, none⟩ (.int .i64 x2)).setCell ⟨bx, 3, none⟩ (.int .i64 x3)).setCell ⟨bx, 4, none⟩ (.int .u32 x4)) S a b W j kb lb z0 z1 z2 z3 z4 y0 y1 y2 y3 y4) :=
  h.put bx (Nat.lt_trans h.ord.2.2.1 hbx) (h.ll.far (Nat.le_of_eq (by simp)) (set5_other w bx lb _ _ _ _ _ (by omega)))
theorem SwSt.live (h : (SwSt w0 w S a b W j kb lb z0 z1 z2 z3 z4 y0 y1 y2 y3 y4)) : liveB a b (upd (fun _ => false) 0 true) (fun _ => 0) (fun _ => false) (fun _ => 0) 2 0 0 = true := by simp [liveB, thereB, upd, h.nn]
end
theorem cell_lt5 {w : World} {x : Addr} {v : Value} (h : w.cell? x = some v) : x.block < w.heap.size := by
  rcases Nat.lt_or_ge x.block w.heap.size with h' | h'
  · exact h'
  · simp [World.cell?, Array.getElem?_eq_none h'] at h
/-- A key among those that came in. -/
theorem rows_in {w : World} {a : Option Addr} {n cap : Nat} {zs : List (List Int)} (h : IsRows [.i64, .i64, .i64, .i64, .u32] w a n cap zs) (i : Nat) (hi : i < n) :
    ∃ ad x0 x1 x2 x3 x4, a = some ad ∧ (ad.add (i * 5)).block < w.heap.size ∧ InK w (ad.add (i * 5)) x0 x1 x2 x3 x4 ∧ x4 ≤ 4294967295 := by
  rcases h with ⟨_, h0, _⟩ | ⟨x, rfl, hl, hm, hz, hc⟩
  · omega
  · have hi' : i < zs.length := by omega
    have c0 := (hc i hi' 0 .i64 rfl).1
    have c1 := (hc i hi' 1 .i64 rfl).1
    have c2 := (hc i hi' 2 .i64 rfl).1
    have c3 := (hc i hi' 3 .i64 rfl).1
    have c4 := hc i hi' 4 .u32 rfl
    have c4' := c4.1
    have e5 : [IntKind.i64, IntKind.i64, IntKind.i64, IntKind.i64, IntKind.u32].length = 5 := rfl
    rw [e5] at c0 c1 c2 c3 c4'
    rw [Nat.add_zero] at c0
    rw [add_more x (i * 5) 0] at c1
    rw [add_more x (i * 5) 1] at c2
    rw [add_more x (i * 5) 2] at c3
    rw [add_more x (i * 5) 3] at c4'
    exact ⟨x, _, _, _, _, _, rfl, cell_lt5 c0, ⟨c0, c1, c2, c3, c4'⟩, fits32 c4.2⟩
theorem InK.below {w w' : World} {e : Addr} {y0 y1 y2 y3 y4 : Int} (h : InK w e y0 y1 y2 y3 y4) (hb : Below w.heap.size w w') (hl : e.block < w.heap.size) : InK w' e y0 y1 y2 y3 y4 :=
  ⟨(hb.cell (p := e) hl).trans h.1, (hb.cell (p := ⟨e.block, e.off + 1, none⟩) hl).trans h.2.1, (hb.cell (p := ⟨e.block, e.off + 2, none⟩) hl).trans h.2.2.1, (hb.cell (p := ⟨e.block, e.off + 3, none⟩) hl).trans h.2.2.2.1, (hb.cell (p := ⟨e.block, e.off + 4, none⟩) hl).trans h.2.2.2.2⟩
theorem keep30 {W w w' : World} {p q rb : Nat} {v0 v1 v2 v3 v4 u0 u1 u2 u3 u4 rv : Int} (h : Below W.heap.size W w ∧ (p < w.heap.size ∧ w.cell? ⟨p, 0, none⟩ = some (.int .i64 v0) ∧ w.cell? ⟨p, 1, none⟩ = some (.int .i64 v1) ∧ w.cell? ⟨p, 2, none⟩ = some (.int .i64 v2) ∧ w.cell? ⟨p, 3, none⟩ = some (.int .i64 v3) ∧ w.cell? ⟨p, 4, none⟩ = some (.int .u32 v4)) ∧ (q < w.heap.size ∧ w.cell? ⟨q, 0, none⟩ = some (.int .i64 u0) ∧ w.cell? ⟨q, 1, none⟩ = some (.int .i64 u1) ∧ w.cell? ⟨q, 2, none⟩ = some (.int .i64 u2) ∧ w.cell? ⟨q, 3, none⟩ = some (.int .i64 u3) ∧ w.cell? ⟨q, 4, none⟩ = some (.int .u32 u4)) ∧ (rb < w.heap.size ∧ w.cell? ⟨rb, 3, none⟩ = some (.int .i64 rv))) (hb : Below w.heap.size w w') : Below W.heap.size W w' ∧ (p < w'.heap.size ∧ w'.cell? ⟨p, 0, none⟩ = some (.int .i64 v0) ∧ w'.cell? ⟨p, 1, none⟩ = some (.int .i64 v1) ∧ w'.cell? ⟨p, 2, none⟩ = some (.int .i64 v2) ∧ w'.cell? ⟨p, 3, none⟩ = some (.int .i64 v3) ∧ w'.cell? ⟨p, 4, none⟩ = some (.int .u32 v4)) ∧ (q < w'.heap.size ∧ w'.cell? ⟨q, 0, none⟩ = some (.int .i64 u0) ∧ w'.cell? ⟨q, 1, none⟩ = some (.int .i64 u1) ∧ w'.cell? ⟨q, 2, none⟩ = some (.int .i64 u2) ∧ w'.cell? ⟨q, 3, none⟩ = some (.int .i64 u3) ∧ w'.cell? ⟨q, 4, none⟩ = some (.int .u32 u4)) ∧ (rb < w'.heap.size ∧ w'.cell? ⟨rb, 3, none⟩ = some (.int .i64 rv)) := by
  obtain ⟨h1, ⟨h2, a0, a1, a2, a3, a4⟩, ⟨h3, b0, b1, b2, b3, b4⟩, h4, h5⟩ := h
  have c := fun (b o : Nat) (h : b < w.heap.size) => hb.cell (p := ⟨b, o, none⟩) h
  have hz := hb.size
  exact ⟨h1.trans (hb.mono h1.size), ⟨by omega, (c _ _ h2).trans a0, (c _ _ h2).trans a1, (c _ _ h2).trans a2, (c _ _ h2).trans a3, (c _ _ h2).trans a4⟩, ⟨by omega, (c _ _ h3).trans b0, (c _ _ h3).trans b1, (c _ _ h3).trans b2, (c _ _ h3).trans b3, (c _ _ h3).trans b4⟩, by omega, (c _ _ h4).trans h5⟩
theorem KeyC.k5 {w : World} {b : Nat} {k0 k1 k2 k3 k4 : Int} (h : KeyC w b k0 k1 k2 k3 k4) : (b < w.heap.size ∧ w.cell? ⟨b, 0, none⟩ = some (.int .i64 k0) ∧ w.cell? ⟨b, 1, none⟩ = some (.int .i64 k1) ∧ w.cell? ⟨b, 2, none⟩ = some (.int .i64 k2) ∧ w.cell? ⟨b, 3, none⟩ = some (.int .i64 k3) ∧ w.cell? ⟨b, 4, none⟩ = some (.int .u32 k4)) := ⟨h.lt, h.c0, h.c1, h.c2, h.c3, h.c4⟩
theorem start30 {w : World} {p q rb : Nat} {v0 v1 v2 v3 v4 u0 u1 u2 u3 u4 rv r0 r1 r2 r4 : Int} (h1 : KeyC w p v0 v1 v2 v3 v4) (h2 : KeyC w q u0 u1 u2 u3 u4) (h3 : KeyC w rb r0 r1 r2 rv r4) : Below w.heap.size w w.drew ∧ (p < w.drew.heap.size ∧ w.drew.cell? ⟨p, 0, none⟩ = some (.int .i64 v0) ∧ w.drew.cell? ⟨p, 1, none⟩ = some (.int .i64 v1) ∧ w.drew.cell? ⟨p, 2, none⟩ = some (.int .i64 v2) ∧ w.drew.cell? ⟨p, 3, none⟩ = some (.int .i64 v3) ∧ w.drew.cell? ⟨p, 4, none⟩ = some (.int .u32 v4)) ∧ (q < w.drew.heap.size ∧ w.drew.cell? ⟨q, 0, none⟩ = some (.int .i64 u0) ∧ w.drew.cell? ⟨q, 1, none⟩ = some (.int .i64 u1) ∧ w.drew.cell? ⟨q, 2, none⟩ = some (.int .i64 u2) ∧ w.drew.cell? ⟨q, 3, none⟩ = some (.int .i64 u3) ∧ w.drew.cell? ⟨q, 4, none⟩ = some (.int .u32 u4)) ∧ (rb < w.drew.heap.size ∧ w.drew.cell? ⟨rb, 3, none⟩ = some (.int .i64 rv)) :=
  keep30 ⟨Below.refl _ _, h1.k5, h2.k5, h3.lt, h3.c3⟩ (Below.refl _ _).drew
end Go.Proofs.YtkhgnmgcdgjncaaDoor
namespace Go.Proofs.YtkhgnmgcdgjncaaDoor
open Go.ChangeShapes Go.WideShapes Go.ChangeAt Go.RowKit
set_option linter.unusedVariables false
set_option linter.unusedSimpArgs false
theorem and7 (a : Int) : ∃ n : Fin 8, andI a 7 = (n.val : Int) := by
  have e : andI a 7 = IntKind.i64.wrap (((BitVec.ofInt 64 a).toNat &&& 7 : Nat) : Int) := by
    show IntKind.i64.wrap ((BitVec.ofInt 64 a &&& BitVec.ofInt 64 (7 : Int)).toNat : Int) = _
    rw [BitVec.toNat_and]
    rfl
  rw [e, and8 _ _ (by decide)]
  have h : ∀ m : Fin 8, ∃ n : Fin 8, IntKind.i64.wrap ((m.val &&& 7 : Nat) : Int) = (n.val : Int) := by decide +kernel
  exact h ⟨(BitVec.ofInt 64 a).toNat % 8, Nat.mod_lt _ (by decide)⟩
theorem rv_cases : ∀ n : Fin 8, ((andI (n.val : Int) 2 == 0) = false) ∨ (andI (n.val : Int) 2 = 0 ∧ (andI (n.val : Int) 4 == 0) = false ∧ (andI (n.val : Int) 5 == 0) = false ∧ ((n.val : Int) == 0) = false) ∨
    (andI (n.val : Int) 2 = 0 ∧ (andI (n.val : Int) 4 == 0) = true ∧ (andI (n.val : Int) 5 == 0) = false ∧ ((n.val : Int) == 0) = false) ∨ (n.val : Int) = 0 := by decide +kernel
theorem beq_eq_comm' (a b : Int) : (a == b) = (b == a) := by rw [Bool.eq_iff_iff]; simp; exact eq_comm
set_option maxRecDepth 100000 in
theorem swaps_out (ap : Option Addr) (n cap : Nat) (s r : Int) (h : 16 < n ∨ (n ≤ 16 ∧ s < 0) ∨ (n ≤ 16 ∧ 16 ≤ s)) (w : World) (A : Nat → Addr) (hS : Sen A w) : Calls Tryd.prog 4 #[.slice ap n cap, .int .i64 s, .int .i64 r] w fun e w' => e = .returned (.bool true) ∧ Below w.heap.size w w' := by
  have HS := Lib.hid hS
  clear hS
  rcases h with h | ⟨hn, h⟩ | ⟨hn, h⟩
  · have d0 : decide ((16 : Int) < (n : Int)) = true := decide_eq_true (by omega)
    clear h
    go_enter Tryd.func4, Tryd.ntmps4
    go_wp2_with (first | (go_at_call 11; refine (stfirst_is _ A HS.out).mono ?_; rintro e w1 ⟨rfl, hb1⟩; have HB1 := Lib.hid hb1; clear hb1))
    go_ret
    exact ⟨rfl, HB1.out⟩
  · have d0 : decide ((16 : Int) < (n : Int)) = false := decide_eq_false (by omega)
    have d1 : decide (s < 0) = true := decide_eq_true (by omega)
    clear h hn
    go_enter Tryd.func4, Tryd.ntmps4
    go_wp2_with (first | (go_at_call 11; refine (stfirst_is _ A HS.out).mono ?_; rintro e w1 ⟨rfl, hb1⟩; have HB1 := Lib.hid hb1; clear hb1))
    go_ret
    exact ⟨rfl, HB1.out⟩
  · have d0 : decide ((16 : Int) < (n : Int)) = false := decide_eq_false (by omega)
    have d1 : decide (s < 0) = false := decide_eq_false (by omega)
    have d2 : decide (16 ≤ s) = true := decide_eq_true (by omega)
    clear h hn
    go_enter Tryd.func4, Tryd.ntmps4
    go_wp2_with (first | (go_at_call 11; refine (stfirst_is _ A HS.out).mono ?_; rintro e w1 ⟨rfl, hb1⟩; have HB1 := Lib.hid hb1; clear hb1))
    go_ret
    exact ⟨rfl, HB1.out⟩
theorem InK.lay {w : World} {o : Obj} {e : Addr} {y0 y1 y2 y3 y4 : Int} (h : InK w e y0 y1 y2 y3 y4) (hl : e.block < w.heap.size) : InK (w.alloc o) e y0 y1 y2 y3 y4 := h.below ((Below.refl _ _).alloc (Nat.le_refl _) _) hl
set_option maxRecDepth 100000 in
set_option maxHeartbeats 8000000 in
theorem swaps_in (ap : Option Addr) (n cap : Nat) (zs : List (List Int)) (s : Int) (j : Nat) (hsj : s = j) (r : Int) (hn : n ≤ 16) (hj : j < 16) (w : World) (A : Nat → Addr) (hS : Sen A w) (hR : IsRows [.i64, .i64, .i64, .i64, .u32] w ap n cap zs) : Calls Tryd.prog 4 #[.slice ap n cap, .int .i64 s, .int .i64 r] w fun e w' => e = .returned (.bool true) ∧ Below w.heap.size w w' := by
  subst hsj
  have HS := Lib.hid hS
  have HR := Lib.hid hR
  have HE : Hid (ErrsAt (eV (sA A 1)) (eV (sA A 2)) w) := Lib.hid ⟨hS.c1, hS.c2, hS.s1, hS.s2⟩
  have d0 : decide ((16 : Int) < (n : Int)) = false := decide_eq_false (by omega)
  have d1 : decide ((j : Int) < 0) = false := decide_eq_false (by omega)
  have d2 : decide ((16 : Int) ≤ (j : Int)) = false := decide_eq_false (by omega)
  clear hS hR
  go_enter Tryd.func4, Tryd.ntmps4
  go_upto_region 12 with (first
    | (go_at_call 11; refine (stfirst_is _ A HS.out).mono ?_; rintro e w1 ⟨rfl, hb1⟩; have HB1 := Lib.hid hb1; clear hb1)
    | (go_at_call 12; (with_reducible refine (snew_ok 2 2 2 2 (Lib.hid rfl) (Lib.hid rfl) (by decide) (by decide) (by decide) (by decide) _).mono ?_); rintro e w2 ⟨S, a, b, rfl, hs, hn, hb⟩; have HN := Lib.hid hn.out; have H2 : Hid (SV w w2 S a b _ _ _ _ _ _) := Lib.hid ⟨HB1.out.trans (hb.mono HB1.out.size), by have := hn.out.2.2; have := HB1.out.size; omega, hs⟩; have s0 := hs.s0; clear hs hb hn)
    | (go_at_call 17; (with_reducible refine (nmake_at 0 (eV (sA A 1)) (eV (sA A 2)) none 0 0 (fun _ _ => 0) (by decide) (Lib.hid (by intro i hi; omega)) 0 (Lib.hid rfl) (by have := HN.out; omega) (Lib.hid (by decide)) (Lib.hid (by intro i hi; omega)) 0 (Lib.hid rfl) _ (HE.out.below H2.out.bel) H2.out.st.nd (srcK_none _ _ _ _)).mono ?_); rintro e w3 ⟨rfl, hM, hb⟩; have H3 := Lib.hid (H2.out.node hM hb); clear hM hb s0)
    | (go_at_call 36; (with_reducible refine (snodekey_in 0 2 0 (Lib.hid rfl) (by decide) (by decide) (by have := HN.out; omega) (Lib.hid rfl) 0 (Lib.hid rfl) _ H3.out.st).mono ?_); rintro e w5 ⟨rfl, hb⟩; have H5 := Lib.hid (H3.out.step hb); clear hb))
  obtain ⟨kb, Hkb⟩ : ∃ kb, Hid (w5.heap.size = kb) := ⟨_, Lib.hid rfl⟩
  obtain ⟨w6, hw6⟩ : ∃ w6, w6 = (w5.alloc (.cells #[.int .i64 2, .int .i64 0, .int .i64 0, .int .i64 0, .int .u32 2] 25)).alloc (.cells #[.int .i64 0, .int .i64 0, .int .i64 0, .int .i64 0, .int .u32 0] 25 (0, 0)) := ⟨_, rfl⟩
  have H6 : Hid (SwSt w w6 S a b (freshV (fun _ b => zc b) 0 (kcs (fun _ _ => 0) 0)) j kb (kb + 1) 0 0 0 0 0 0 0 0 0 0) := Lib.hid (by
    have h1 := H5.out.st
    have e := Hkb.out
    have k1 : KeyC ((w5.alloc (.cells #[.int .i64 2, .int .i64 0, .int .i64 0, .int .i64 0, .int .u32 2] 25 (0, 0))).alloc (.cells #[.int .i64 0, .int .i64 0, .int .i64 0, .int .i64 0, .int .u32 0] 25 (0, 0))) w5.heap.size 2 0 0 0 2 := (KeyC.new w5 2 0 0 0 2 25).below ((Below.refl _ _).alloc (Nat.le_refl _) _)
    have k2 : KeyC ((w5.alloc (.cells #[.int .i64 2, .int .i64 0, .int .i64 0, .int .i64 0, .int .u32 2] 25 (0, 0))).alloc (.cells #[.int .i64 0, .int .i64 0, .int .i64 0, .int .i64 0, .int .u32 0] 25 (0, 0))) (w5.heap.size + 1) 0 0 0 0 0 := by
      have k3 := KeyC.new (w5.alloc (.cells #[.int .i64 2, .int .i64 0, .int .i64 0, .int .i64 0, .int .u32 2] 25 (0, 0))) 0 0 0 0 0 25
      have e2 : (w5.alloc (.cells #[.int .i64 2, .int .i64 0, .int .i64 0, .int .i64 0, .int .u32 2] 25 (0, 0))).heap.size = w5.heap.size + 1 := by simp
      rwa [e2] at k3
    rw [hw6, ← e]
    exact ⟨(H5.out.step ((Below.refl _ _).alloc (Nat.le_refl _) _)).step ((Below.refl _ _).alloc (Nat.le_refl _) _), freshV_nokey _ 0 _ 0 j (Nat.zero_le _) hj, fun q hq => ⟨_, _, _, _, _, freshV_nokey _ 0 _ 0 q (Nat.zero_le _) hq⟩, k1, k2, HN.out.1, ⟨h1.sl, h1.nd.pl, h1.nd.ar.pl, h1.nd.ar.lt.2, (h1.nd.row.lt a.G rfl).2⟩, ⟨h1.pg.pl, h1.pg.ar.pl, h1.pg.ar.lt.2, (h1.pg.row.lt b.G rfl).2⟩, by omega, H5.out.bel.size⟩)
  rw [Hkb.out, ← hw6]
  clear hw6
  go_wp2_with fail
  go_loopw [12] (fun i wr => ∃ (k : Nat) (W : Nat → Nat → Value) (y0 y1 y2 y3 y4 : Int), k ≤ n ∧ i = .int .i64 k ∧ SwSt w wr S a b W j kb (kb + 1) y0 y1 y2 y3 y4 y0 y1 y2 y3 y4 ∧ codeOf y0 y1 y2 y3 y4 = 0) (fun i _ => n - (intOf i).toNat)
  case atStart => exact ⟨0, _, 0, 0, 0, 0, 0, by omega, rfl, H6.out, by decide⟩
  case round =>
    obtain ⟨k, W, y0, y1, y2, y3, y4, hk, rfl, hs, hc0⟩ := hrel
    have H7 := Lib.hid hs
    have HC0 := Lib.hid hc0
    clear hs hc0
    by_cases hlt : k < n
    · obtain ⟨ad, x0, x1, x2, x3, x4, rfl, hbl, hI, hx4⟩ := rows_in HR.out k hlt
      have HI := Lib.hid hI
      have HBL := Lib.hid hbl
      have k0 : (0 : Int) ≤ k := by omega
      have k1 : (k : Int) < n := by omega
      obtain ⟨c0, c1, c2, c3, c4⟩ := hI.below H7.out.sv.bel hbl
      have hbl2 : (ad.add (k * 5)).block < wr.heap.size := Nat.lt_of_lt_of_le hbl H7.out.sv.bel.size
      have HBL2 := Lib.hid hbl2
      clear hI hbl hbl2
      by_cases hc : codeOf x0 x1 x2 x3 x4 = 0
      · have HC : Hid (codeOf x0 x1 x2 x3 x4 = 0) := Lib.hid hc
        clear hc
        go_upto_region 17 with (first
          | (go_at_call 38; (with_reducible refine (valid_is x0 x1 x2 x3 x4 0 HC hx4 _).mono ?_); rintro e w8 ⟨rfl, hb⟩; have H8 := Lib.hid (H7.out.below hb); have HB8 := Lib.hid hb; clear hb c0 c1 c2 c3 c4))
        go_cut [13, 14] (fun x f wx => ∃ bx : Nat, x = .pointer (some ⟨bx, 0, none⟩) ∧ f = .nilIface ∧ SwSt w wx S a b (updV W 0 (j * 5) (k5 x0 x1 x2 x3 x4)) j kb (kb + 1) x0 x1 x2 x3 x4 y0 y1 y2 y3 y4 ∧ KeyC wx bx y0 y1 y2 y3 y4)
        case first =>
          have hl8 : (ad.add (k * 5)).block < w8.heap.size := Nat.lt_of_lt_of_le HBL2.out HB8.out.size
          have hI8 : InK w8 (ad.add (k * 5)) x0 x1 x2 x3 x4 := HI.out.below H8.out.sv.bel HBL.out
          have hI9 : InK (w8.alloc (.cells #[.int .i64 0, .int .i64 0, .int .i64 0, .int .i64 0, .int .u32 0] 25 (0, 0))) (ad.add (k * 5)) x0 x1 x2 x3 x4 := hI8.lay hl8
          have hK8 := H8.out.kk
          have hK9 : KeyC (w8.alloc (.cells #[.int .i64 0, .int .i64 0, .int .i64 0, .int .i64 0, .int .u32 0] 25 (0, 0))) kb 2 0 0 0 2 := H8.out.kk.below ((Below.refl _ _).alloc (Nat.le_refl _) _)
          obtain ⟨i0, i1, i2, i3, i4⟩ := hI8
          obtain ⟨j0, j1, j2, j3, j4⟩ := hI9
          have m0 := hK8.c0
          have m1 := hK8.c1
          have m2 := hK8.c2
          have m3 := hK8.c3
          have m4 := hK8.c4
          have n0 := hK9.c0
          have n1 := hK9.c1
          have n2 := hK9.c2
          have n3 := hK9.c3
          have n4 := hK9.c4
          clear hK8 hK9 hl8
          go_region_with (first
            | (go_at_call 25; (with_reducible refine (sswap_at (eV (sA A 1)) (eV (sA A 2)) 0 0 (Lib.hid rfl) 0 0 2 j (by have := H8.out.nn; omega) hj (Lib.hid rfl) (Lib.hid H8.out.live) (Lib.hid (by decide)) (Lib.hid (by decide)) y0 y1 y2 y3 y4 x0 x1 x2 x3 x4 (Lib.hid H8.out.at_) (Lib.hid (right_of_code HC.out)) (Lib.hid H8.out.one) _ (HE.out.below (H8.out.below (Below.refl w8.heap.size w8).drew).sv.bel) (H8.out.below (Below.refl w8.heap.size w8).drew).sv.st).mono ?_); rintro e w9 ⟨rfl, hN, hb⟩; have HBB := Lib.hid ((H8.out.below (Below.refl w8.heap.size w8).drew).swap hN hb); clear hb hN)
            | (go_at_call 25; (with_reducible refine (sswap_at (eV (sA A 1)) (eV (sA A 2)) 0 0 (Lib.hid rfl) 0 0 2 j (by have := H8.out.nn; omega) hj (Lib.hid rfl) (Lib.hid H8.out.live) (Lib.hid (by decide)) (Lib.hid (by decide)) y0 y1 y2 y3 y4 x0 x1 x2 x3 x4 (Lib.hid H8.out.at_) (Lib.hid (right_of_code HC.out)) (Lib.hid H8.out.one) _ (HE.out.below (H8.out.below ((Below.refl w8.heap.size w8).alloc (Nat.le_refl _) _).drew).sv.bel) (H8.out.below ((Below.refl w8.heap.size w8).alloc (Nat.le_refl _) _).drew).sv.st).mono ?_); rintro e w9 ⟨rfl, hN, hb⟩; have hKB := ((KeyC.new w8 0 0 0 0 0 25).below (Below.refl _ _).drew).pbelow hb (by have := H8.out.ord; have := H8.out.ll.lt; omega) (by have := H8.out.ord; have := H8.out.ll.lt; omega); have kc0 := hKB.c0; have kc1 := hKB.c1; have kc2 := hKB.c2; have kc3 := hKB.c3; have kc4 := hKB.c4; have kf0 := hKB.fr 0; have kf1 := hKB.fr 1; have kf2 := hKB.fr 2; have kf3 := hKB.fr 3; have kf4 := hKB.fr 4; have HKB := Lib.hid hKB; have HBA := Lib.hid ((H8.out.below ((Below.refl w8.heap.size w8).alloc (Nat.le_refl _) _).drew).swap hN hb); clear hb hN hKB))
          all_goals (go_wp2_with fail; go_meet)
          all_goals (first
            | exact ⟨_, rfl, rfl, HBB.out.below ((Below.refl _ _).alloc (Nat.le_refl _) _), KeyC.new _ y0 y1 y2 y3 y4 _⟩
            | exact ⟨_, rfl, rfl, HBA.out.box H8.out.ll.lt y0 y1 y2 y3 y4, HKB.out.set y0 y1 y2 y3 y4⟩)
        case rest =>
          obtain ⟨bx, rfl, rfl, hs, hx⟩ := hcut
          have H9 := Lib.hid hs
          have q0 := hx.c0
          have q1 := hx.c1
          have q2 := hx.c2
          have q3 := hx.c3
          have q4 := hx.c4
          have l0 := hs.ll.c0
          have l1 := hs.ll.c1
          have l2 := hs.ll.c2
          have l3 := hs.ll.c3
          have l4 := hs.ll.c4
          have HSm : Hid (sameB y0 y1 y2 y3 y4 y0 y1 y2 y3 y4 = true) := Lib.hid (by simp [sameB])
          clear hs hx
          go_wp2_with (first
            | (go_at_call 24; (with_reducible refine (same_is y0 y1 y2 y3 y4 y0 y1 y2 y3 y4 true HSm _).mono ?_); rintro e w10 ⟨rfl, hb⟩; clear l0 l1 l2 l3 l4 q0 q1 q2 q3 q4; have h10 := H9.out.below hb; have H10 := Lib.hid h10; obtain ⟨e0, e1, e2, e3, e4⟩ := HI.out.below h10.sv.bel HBL.out; have l0 := h10.ll.c0; have l1 := h10.ll.c1; have l2 := h10.ll.c2; have l3 := h10.ll.c3; have l4 := h10.ll.c4; have f0 := h10.ll.fr 0; have f1 := h10.ll.fr 1; have f2 := h10.ll.fr 2; have f3 := h10.ll.fr 3; have f4 := h10.ll.fr 4; clear hb h10))
          go_roundw
          case rel => exact ⟨k + 1, _, x0, x1, x2, x3, x4, by omega, by go_num, H10.out.last x0 x1 x2 x3 x4, HC.out⟩
          case measure => simp [intOf]; omega
      · obtain ⟨cc, HCC⟩ : ∃ cc, Hid (codeOf x0 x1 x2 x3 x4 = cc) := ⟨_, Lib.hid rfl⟩
        have hc2 : (cc == 0) = false := by rw [← HCC.out]; simpa using hc
        clear hc
        go_wp2_with (first
          | (go_at_call 38; (with_reducible refine (valid_is x0 x1 x2 x3 x4 cc HCC hx4 _).mono ?_); rintro e w8 ⟨rfl, hb⟩; have H8 := Lib.hid (H7.out.below hb); clear hb))
        go_ret
        exact ⟨rfl, H8.out.sv.bel⟩
    · obtain rfl : k = n := by omega
      have hdd : decide (k < k) = false := by simp
      obtain ⟨f, hf⟩ := and7 r
      obtain ⟨rv, hrv⟩ : ∃ rv : Int, rv = (f.val : Int) := ⟨_, rfl⟩
      have hbits : bits BinOp.and IntKind.i64 r 7 = rv := by rw [hrv]; exact hf
      have hcs := rv_cases f
      rw [← hrv] at hcs
      have HCs := Lib.hid hcs
      have hK := H7.out.kk
      have m0 := hK.c0
      have m1 := hK.c1
      have m2 := hK.c2
      have m3 := hK.c3
      have m4 := hK.c4
      clear hrv hf hcs hK
      go_upto_region 23 with fail
      obtain ⟨w8, hw8⟩ : ∃ w8, w8 = wr.alloc (.cells #[.int .i64 2, .int .i64 0, .int .i64 0, .int .i64 rv, .int .u32 2] 25) := ⟨_, rfl⟩
      obtain ⟨rb, hrb⟩ : ∃ rb, rb = wr.heap.size := ⟨_, rfl⟩
      have H8 : Hid (SwSt w w8 S a b W j kb (kb + 1) y0 y1 y2 y3 y4 y0 y1 y2 y3 y4) := Lib.hid (by rw [hw8]; exact H7.out.below ((Below.refl _ _).alloc (Nat.le_refl _) _))
      have HR8 : Hid (KeyC w8 rb 2 0 0 rv 2) := Lib.hid (by rw [hw8, hrb]; exact KeyC.new _ _ _ _ _ _ _)
      have HRB : Hid (kb + 1 < rb) := Lib.hid (by rw [hrb]; exact H7.out.ll.lt)
      rw [← hw8, ← hrb]
      clear hw8 hrb hdd m0 m1 m2 m3 m4 hbits
      have hR := HR8.out
      have r0 := hR.c0
      have r1 := hR.c1
      have r2 := hR.c2
      have r3 := hR.c3
      have r4 := hR.c4
      clear hR
      rcases HCs.out with h2 | ⟨h2, h4, h5, h0⟩ | ⟨h2, h4, h5, h0⟩ | h0
      · have hb2 : (bits BinOp.and IntKind.i64 rv 2 == 0) = false := h2
        have H2 := Lib.hid hb2
        clear h2
        go_wp2_with (first
          | (go_at_call 22; (with_reducible refine (sfetch_right 0 0 rv 2 j (Lib.hid H8.out.live) H2 (sA A 9) _ H8.out.sv.st (HS.out.below H8.out.sv.bel).c9 (HS.out.below H8.out.sv.bel).s9).mono ?_); rintro e w9 ⟨rfl, hb⟩; clear r0 r1 r2 r3 r4; have H9 := Lib.hid (H8.out.below hb); have HR9 := Lib.hid (HR8.out.below hb); have r0 : ∀ o, (World.alloc w9 o).cell? _ = _ := (fun o => (HR9.out.below ((Below.refl _ _).alloc (Nat.le_refl _) _)).c0); have r1 : ∀ o, (World.alloc w9 o).cell? _ = _ := (fun o => (HR9.out.below ((Below.refl _ _).alloc (Nat.le_refl _) _)).c1); have r2 : ∀ o, (World.alloc w9 o).cell? _ = _ := (fun o => (HR9.out.below ((Below.refl _ _).alloc (Nat.le_refl _) _)).c2); have r3 : ∀ o, (World.alloc w9 o).cell? _ = _ := (fun o => (HR9.out.below ((Below.refl _ _).alloc (Nat.le_refl _) _)).c3); have r4 : ∀ o, (World.alloc w9 o).cell? _ = _ := (fun o => (HR9.out.below ((Below.refl _ _).alloc (Nat.le_refl _) _)).c4); clear hb)
          | (go_at_call 25; (with_reducible refine (sswap_right 0 0 rv 2 j 0 0 0 0 0 (Lib.hid H8.out.live) H2 (sA A 9) _ (H9.out.below ((Below.refl _ _).alloc (Nat.le_refl _) _)).sv.st (HS.out.below (H9.out.below ((Below.refl _ _).alloc (Nat.le_refl _) _)).sv.bel).c9 (HS.out.below (H9.out.below ((Below.refl _ _).alloc (Nat.le_refl _) _)).sv.bel).s9).mono ?_); rintro e w10 ⟨rfl, hb⟩; clear r0 r1 r2 r3 r4; have H10 := Lib.hid ((H9.out.below ((Below.refl _ _).alloc (Nat.le_refl _) _)).below hb); have HR10 := Lib.hid ((HR9.out.below ((Below.refl _ _).alloc (Nat.le_refl _) _)).below hb); have r3 : ∀ o, (World.alloc w10 o).cell? _ = _ := (fun o => (HR10.out.below ((Below.refl _ _).alloc (Nat.le_refl _) _)).c3); clear hb)
          | (go_at_call 19; (with_reducible refine (is_sen A 9 110 (by decide) (Lib.hid (by decide)) _ (HS.out.below (H10.out.below ((Below.refl _ _).alloc (Nat.le_refl _) _)).sv.bel)).mono ?_); rintro e w11 ⟨rfl, hb⟩; have H11 := Lib.hid ((H10.out.below ((Below.refl _ _).alloc (Nat.le_refl _) _)).below hb); clear hb)
          | (go_at_call 19; (with_reducible refine (is_sen A 9 110 (by decide) (Lib.hid (by decide)) _ (HS.out.below H11.out.sv.bel)).mono ?_); rintro e w12 ⟨rfl, hb⟩; have H12 := Lib.hid (H11.out.below hb); clear hb))
        go_ret
        exact ⟨rfl, H12.out.sv.bel⟩
      · have hb2 : bits BinOp.and IntKind.i64 rv 2 = 0 := h2
        have hb4 : (bits BinOp.and IntKind.i64 rv 4 == 0) = false := h4
        have H2 := Lib.hid hb2
        have H5 : Hid ((bits BinOp.and IntKind.i64 rv 5 == 0) = false) := Lib.hid h5
        obtain ⟨v0, v1, v2, v3, v4, hW, hv4⟩ := weak_ex y0 y1 y2 y3 y4
        have HWk := Lib.hid hW
        have HT : Hid (∀ w, Calls Tryd.prog 61 #[.int .i64 rv, (Value.agg #[.int .i64 y0, .int .i64 y1, .int .i64 y2, .int .i64 y3, .int .u32 y4])] w fun e w' => e = .returned (Value.agg #[.int .i64 v0, .int .i64 v1, .int .i64 v2, .int .i64 v3, .int .u32 v4]) ∧ Below w.heap.size w w') := Lib.hid (fun w => through_weak rv y0 y1 y2 y3 y4 v0 v1 v2 v3 v4 h4 (Lib.hid hW) w)
        clear h2 h4 h5 hW hv4
        go_upto_region 25 with (first
          | (go_at_call 22; (with_reducible refine (sfetch_ok 0 0 0 rv 2 j j rfl rfl (by have := H8.out.nn; omega) hj (Lib.hid rfl) (Lib.hid H8.out.live) hb2 y0 y1 y2 y3 y4 v0 v1 v2 v3 v4 (Lib.hid H8.out.at_) HT _ H8.out.sv.st).mono ?_); rintro e w9 ⟨rfl, hb⟩; clear r0 r1 r2 r3 r4; have H9 := Lib.hid (H8.out.below hb); have HR9 := Lib.hid (HR8.out.below hb); have r0 : ∀ o, (World.alloc w9 o).cell? _ = _ := (fun o => (HR9.out.below ((Below.refl _ _).alloc (Nat.le_refl _) _)).c0); have r1 : ∀ o, (World.alloc w9 o).cell? _ = _ := (fun o => (HR9.out.below ((Below.refl _ _).alloc (Nat.le_refl _) _)).c1); have r2 : ∀ o, (World.alloc w9 o).cell? _ = _ := (fun o => (HR9.out.below ((Below.refl _ _).alloc (Nat.le_refl _) _)).c2); have r3 : ∀ o, (World.alloc w9 o).cell? _ = _ := (fun o => (HR9.out.below ((Below.refl _ _).alloc (Nat.le_refl _) _)).c3); have r4 : ∀ o, (World.alloc w9 o).cell? _ = _ := (fun o => (HR9.out.below ((Below.refl _ _).alloc (Nat.le_refl _) _)).c4); clear hb)
          | (go_at_call 25; (with_reducible refine (sswap_nowrite 0 0 rv 2 j 0 0 0 0 0 (Lib.hid H8.out.live) H2 H5 (sA A 9) _ (H9.out.below ((Below.refl _ _).alloc (Nat.le_refl _) _)).sv.st (HS.out.below (H9.out.below ((Below.refl _ _).alloc (Nat.le_refl _) _)).sv.bel).c9 (HS.out.below (H9.out.below ((Below.refl _ _).alloc (Nat.le_refl _) _)).sv.bel).s9).mono ?_); rintro e w10 ⟨rfl, hb⟩; clear r0 r1 r2 r3 r4; have H10 := Lib.hid ((H9.out.below ((Below.refl _ _).alloc (Nat.le_refl _) _)).below hb); have HR10 := Lib.hid ((HR9.out.below ((Below.refl _ _).alloc (Nat.le_refl _) _)).below hb); have HY10 := Lib.hid ((KeyC.new w9 v0 v1 v2 v3 v4 25).below hb); clear hb))
        obtain ⟨w11, hw11⟩ : ∃ w11, w11 = w10.alloc (.cells #[.int .i64 0, .int .i64 0, .int .i64 0, .int .i64 0, .int .u32 0] 25 (0, 0)) := ⟨_, rfl⟩
        obtain ⟨yb, hyb⟩ : ∃ yb, yb = w9.heap.size := ⟨_, rfl⟩
        have H11 : Hid (SwSt w w11 S a b W j kb (kb + 1) y0 y1 y2 y3 y4 y0 y1 y2 y3 y4) := Lib.hid (by rw [hw11]; exact H10.out.below ((Below.refl _ _).alloc (Nat.le_refl _) _))
        have HR11 : Hid (KeyC w11 rb 2 0 0 rv 2) := Lib.hid (by rw [hw11]; exact HR10.out.below ((Below.refl _ _).alloc (Nat.le_refl _) _))
        have HY11 : Hid (KeyC w11 yb v0 v1 v2 v3 v4) := Lib.hid (by rw [hw11, hyb]; exact HY10.out.below ((Below.refl _ _).alloc (Nat.le_refl _) _))
        rw [← hw11, ← hyb]
        clear hw11 hyb H9 H10 HR9 HR10 HY10
        have r3 := HR11.out.c3
        have hl := H11.out.ll
        have l0 := hl.c0
        have l1 := hl.c1
        have l2 := hl.c2
        have l3 := hl.c3
        have l4 := hl.c4
        clear hl
        go_upto_region 28 with fail
        obtain ⟨w12, hw12⟩ : ∃ w12, w12 = w11.alloc (.cells #[.int .i64 y0, .int .i64 y1, .int .i64 y2, .int .i64 y3, .int .u32 y4] 25) := ⟨_, rfl⟩
        obtain ⟨wb, hwb⟩ : ∃ wb, wb = w11.heap.size := ⟨_, rfl⟩
        have H12 : Hid (SwSt w w12 S a b W j kb (kb + 1) y0 y1 y2 y3 y4 y0 y1 y2 y3 y4) := Lib.hid (by rw [hw12]; exact H11.out.below ((Below.refl _ _).alloc (Nat.le_refl _) _))
        have HR12 : Hid (KeyC w12 rb 2 0 0 rv 2) := Lib.hid (by rw [hw12]; exact HR11.out.below ((Below.refl _ _).alloc (Nat.le_refl _) _))
        have HY12 : Hid (KeyC w12 yb v0 v1 v2 v3 v4) := Lib.hid (by rw [hw12]; exact HY11.out.below ((Below.refl _ _).alloc (Nat.le_refl _) _))
        have HW12 : Hid (KeyC w12 wb y0 y1 y2 y3 y4) := Lib.hid (by rw [hw12, hwb]; exact KeyC.new _ _ _ _ _ _ _)
        have HO12 : Hid (kb + 1 < wb ∧ yb < wb ∧ rb < wb) := Lib.hid (by rw [hwb]; exact ⟨H11.out.ll.lt, HY11.out.lt, HR11.out.lt⟩)
        rw [← hw12, ← hwb]
        clear hw12 hwb H11 HR11 HY11 r3 l0 l1 l2 l3 l4
        have r3 := HR12.out.c3
        have hl := H12.out.ll
        have l0 := hl.c0
        have l1 := hl.c1
        have l2 := hl.c2
        have l3 := hl.c3
        have l4 := hl.c4
        clear hl
        go_upto_region 30 with (first
          | (go_at_call 39; (with_reducible refine (rweaken_any y0 y1 y2 y3 y4 v0 v1 v2 v3 v4 (rights_in _ _ _ _ _ HC0.out) HWk _).mono ?_); rintro e w13 ⟨rfl, hb⟩; clear l0 l1 l2 l3 l4 r3; have H13 := Lib.hid (H12.out.below hb); have HR13 := Lib.hid (HR12.out.below hb); have HY13 := Lib.hid (HY12.out.below hb); have hw13 := HW12.out.below hb; have HW13 := Lib.hid hw13; have l0 := hw13.c0; have l1 := hw13.c1; have l2 := hw13.c2; have l3 := hw13.c3; have l4 := hw13.c4; have f0 := hw13.fr 0; have f1 := hw13.fr 1; have f2 := hw13.fr 2; have f3 := hw13.fr 3; have f4 := hw13.fr 4; clear hb hw13))
        obtain ⟨w14, hw14⟩ : ∃ w14, w14 = (((((w13.setCell ⟨wb, 0, none⟩ (.int .i64 v0)).setCell ⟨wb, 1, none⟩ (.int .i64 v1)).setCell ⟨wb, 2, none⟩ (.int .i64 v2)).setCell ⟨wb, 3, none⟩ (.int .i64 v3)).setCell ⟨wb, 4, none⟩ (.int .u32 v4)) := ⟨_, rfl⟩
        have hsz : w13.heap.size ≤ w14.heap.size := by rw [hw14]; exact Nat.le_of_eq (by simp)
        have H14 : Hid (SwSt w w14 S a b W j kb (kb + 1) y0 y1 y2 y3 y4 y0 y1 y2 y3 y4) := Lib.hid (by rw [hw14]; exact H13.out.box HO12.out.1 v0 v1 v2 v3 v4)
        have HR14 : Hid (KeyC w14 rb 2 0 0 rv 2) := Lib.hid (HR13.out.far hsz (by rw [hw14]; exact set5_other _ _ _ _ _ _ _ _ (by have := HO12.out; omega)))
        have HY14 : Hid (KeyC w14 yb v0 v1 v2 v3 v4) := Lib.hid (HY13.out.far hsz (by rw [hw14]; exact set5_other _ _ _ _ _ _ _ _ (by have := HO12.out; omega)))
        have HW14 : Hid (KeyC w14 wb v0 v1 v2 v3 v4) := Lib.hid (by rw [hw14]; exact HW13.out.set v0 v1 v2 v3 v4)
        rw [← hw14]
        clear hw14 hsz H12 HR12 HY12 HW12 H13 HR13 HY13 HW13 l0 l1 l2 l3 l4 f0 f1 f2 f3 f4
        have ST : Hid (Below w14.heap.size w14 (World.drew w14) ∧ (yb < (World.drew w14).heap.size ∧ (World.drew w14).cell? ⟨yb, 0, none⟩ = some (.int .i64 v0) ∧ (World.drew w14).cell? ⟨yb, 1, none⟩ = some (.int .i64 v1) ∧ (World.drew w14).cell? ⟨yb, 2, none⟩ = some (.int .i64 v2) ∧ (World.drew w14).cell? ⟨yb, 3, none⟩ = some (.int .i64 v3) ∧ (World.drew w14).cell? ⟨yb, 4, none⟩ = some (.int .u32 v4)) ∧ (wb < (World.drew w14).heap.size ∧ (World.drew w14).cell? ⟨wb, 0, none⟩ = some (.int .i64 v0) ∧ (World.drew w14).cell? ⟨wb, 1, none⟩ = some (.int .i64 v1) ∧ (World.drew w14).cell? ⟨wb, 2, none⟩ = some (.int .i64 v2) ∧ (World.drew w14).cell? ⟨wb, 3, none⟩ = some (.int .i64 v3) ∧ (World.drew w14).cell? ⟨wb, 4, none⟩ = some (.int .u32 v4)) ∧ (rb < (World.drew w14).heap.size ∧ (World.drew w14).cell? ⟨rb, 3, none⟩ = some (.int .i64 rv))) := Lib.hid (start30 HY14.out HW14.out HR14.out)
        have HSm : Hid (sameB v0 v1 v2 v3 v4 v0 v1 v2 v3 v4 = true) := Lib.hid (by simp [sameB])
        go_region_held3 (fun w' => Below w14.heap.size w14 w' ∧ (yb < w'.heap.size ∧ w'.cell? ⟨yb, 0, none⟩ = some (.int .i64 v0) ∧ w'.cell? ⟨yb, 1, none⟩ = some (.int .i64 v1) ∧ w'.cell? ⟨yb, 2, none⟩ = some (.int .i64 v2) ∧ w'.cell? ⟨yb, 3, none⟩ = some (.int .i64 v3) ∧ w'.cell? ⟨yb, 4, none⟩ = some (.int .u32 v4)) ∧ (wb < w'.heap.size ∧ w'.cell? ⟨wb, 0, none⟩ = some (.int .i64 v0) ∧ w'.cell? ⟨wb, 1, none⟩ = some (.int .i64 v1) ∧ w'.cell? ⟨wb, 2, none⟩ = some (.int .i64 v2) ∧ w'.cell? ⟨wb, 3, none⟩ = some (.int .i64 v3) ∧ w'.cell? ⟨wb, 4, none⟩ = some (.int .u32 v4)) ∧ (rb < w'.heap.size ∧ w'.cell? ⟨rb, 3, none⟩ = some (.int .i64 rv))) (first | exact ST.out | exact keep30 (by assumption) hb | assumption)
          (first | (go_at_call 24; (with_reducible refine (same_is v0 v1 v2 v3 v4 v0 v1 v2 v3 v4 true HSm _).mono ?_); rintro e w' ⟨rfl, hb⟩))
        have hS : Below w14.heap.size w14 w' ∧ (yb < w'.heap.size ∧ w'.cell? ⟨yb, 0, none⟩ = some (.int .i64 v0) ∧ w'.cell? ⟨yb, 1, none⟩ = some (.int .i64 v1) ∧ w'.cell? ⟨yb, 2, none⟩ = some (.int .i64 v2) ∧ w'.cell? ⟨yb, 3, none⟩ = some (.int .i64 v3) ∧ w'.cell? ⟨yb, 4, none⟩ = some (.int .u32 v4)) ∧ (wb < w'.heap.size ∧ w'.cell? ⟨wb, 0, none⟩ = some (.int .i64 v0) ∧ w'.cell? ⟨wb, 1, none⟩ = some (.int .i64 v1) ∧ w'.cell? ⟨wb, 2, none⟩ = some (.int .i64 v2) ∧ w'.cell? ⟨wb, 3, none⟩ = some (.int .i64 v3) ∧ w'.cell? ⟨wb, 4, none⟩ = some (.int .u32 v4)) ∧ (rb < w'.heap.size ∧ w'.cell? ⟨rb, 3, none⟩ = some (.int .i64 rv)) := by assumption
        obtain ⟨hB, -⟩ := hS
        have H15 := Lib.hid (H14.out.below hB)
        have HR15 := Lib.hid (HR14.out.below hB)
        have s0 := H15.out.sv.st.s0
        have hA := H15.out.at_
        have g0 : Hid (W 0 (j * 5) = .int .i64 y0) := Lib.hid hA.1
        have g1 : Hid (W 0 (j * 5 + 1) = .int .i64 y1) := Lib.hid hA.2.1
        have g2 : Hid (W 0 (j * 5 + 2) = .int .i64 y2) := Lib.hid hA.2.2.1
        have g3 : Hid (W 0 (j * 5 + 3) = .int .i64 y3) := Lib.hid hA.2.2.2.1
        have g4 : Hid (W 0 (j * 5 + 4) = .int .u32 y4) := Lib.hid hA.2.2.2.2
        clear hA
        clear hB H14 HR14 HY14 HW14 ST
        go_upto_region 33 with (first
          | (go_at_call 40; (with_reducible refine (nget_at (n := a.n) (W := W) (th := upd (fun _ => false) 0 true) 0 j 0 j (Lib.hid rfl) (Lib.hid rfl) (by have := H15.out.nn; omega) hj (Lib.hid rfl) y0 y1 y2 y3 y4 g0 g1 g2 g3 g4 _ H15.out.sv.st.nd).mono ?_); rintro e w16 ⟨rfl, hb⟩; have H16 := Lib.hid (H15.out.below hb); have HR16 := Lib.hid (HR15.out.below hb); clear hb s0))
        obtain ⟨w17, hw17⟩ : ∃ w17, w17 = w16.alloc (.cells #[.int .i64 y0, .int .i64 y1, .int .i64 y2, .int .i64 y3, .int .u32 y4] 25) := ⟨_, rfl⟩
        obtain ⟨zb, hzb⟩ : ∃ zb, zb = w16.heap.size := ⟨_, rfl⟩
        have H17 : Hid (SwSt w w17 S a b W j kb (kb + 1) y0 y1 y2 y3 y4 y0 y1 y2 y3 y4) := Lib.hid (by rw [hw17]; exact H16.out.below ((Below.refl _ _).alloc (Nat.le_refl _) _))
        have HR17 : Hid (KeyC w17 rb 2 0 0 rv 2) := Lib.hid (by rw [hw17]; exact HR16.out.below ((Below.refl _ _).alloc (Nat.le_refl _) _))
        have HZ17 : Hid (KeyC w17 zb y0 y1 y2 y3 y4) := Lib.hid (by rw [hw17, hzb]; exact KeyC.new _ _ _ _ _ _ _)
        rw [← hw17, ← hzb]
        clear hw17 hzb H15 H16 HR15 HR16
        have h0n : (rv != 0) = true := by simpa using h0
        have ST2 : Hid (Below w17.heap.size w17 (World.drew w17) ∧ (zb < (World.drew w17).heap.size ∧ (World.drew w17).cell? ⟨zb, 0, none⟩ = some (.int .i64 y0) ∧ (World.drew w17).cell? ⟨zb, 1, none⟩ = some (.int .i64 y1) ∧ (World.drew w17).cell? ⟨zb, 2, none⟩ = some (.int .i64 y2) ∧ (World.drew w17).cell? ⟨zb, 3, none⟩ = some (.int .i64 y3) ∧ (World.drew w17).cell? ⟨zb, 4, none⟩ = some (.int .u32 y4)) ∧ (kb + 1 < (World.drew w17).heap.size ∧ (World.drew w17).cell? ⟨kb + 1, 0, none⟩ = some (.int .i64 y0) ∧ (World.drew w17).cell? ⟨kb + 1, 1, none⟩ = some (.int .i64 y1) ∧ (World.drew w17).cell? ⟨kb + 1, 2, none⟩ = some (.int .i64 y2) ∧ (World.drew w17).cell? ⟨kb + 1, 3, none⟩ = some (.int .i64 y3) ∧ (World.drew w17).cell? ⟨kb + 1, 4, none⟩ = some (.int .u32 y4)) ∧ (rb < (World.drew w17).heap.size ∧ (World.drew w17).cell? ⟨rb, 3, none⟩ = some (.int .i64 rv))) := Lib.hid (start30 HZ17.out H17.out.ll HR17.out)
        have HSm2 : Hid (sameB y0 y1 y2 y3 y4 y0 y1 y2 y3 y4 = true) := Lib.hid (by simp [sameB])
        refine wp_region_noPanic ?_
        refine wp_region_held_drew (S := fun w' => Below w17.heap.size w17 w' ∧ (zb < w'.heap.size ∧ w'.cell? ⟨zb, 0, none⟩ = some (.int .i64 y0) ∧ w'.cell? ⟨zb, 1, none⟩ = some (.int .i64 y1) ∧ w'.cell? ⟨zb, 2, none⟩ = some (.int .i64 y2) ∧ w'.cell? ⟨zb, 3, none⟩ = some (.int .i64 y3) ∧ w'.cell? ⟨zb, 4, none⟩ = some (.int .u32 y4)) ∧ (kb + 1 < w'.heap.size ∧ w'.cell? ⟨kb + 1, 0, none⟩ = some (.int .i64 y0) ∧ w'.cell? ⟨kb + 1, 1, none⟩ = some (.int .i64 y1) ∧ w'.cell? ⟨kb + 1, 2, none⟩ = some (.int .i64 y2) ∧ w'.cell? ⟨kb + 1, 3, none⟩ = some (.int .i64 y3) ∧ w'.cell? ⟨kb + 1, 4, none⟩ = some (.int .u32 y4)) ∧ (rb < w'.heap.size ∧ w'.cell? ⟨rb, 3, none⟩ = some (.int .i64 rv))) (by kernel_rfl) ST2.out (fun hHeld => ?_)
        refine wpAnyH_take (i := 0) (v := ?_) (by rfl) (by kernel_rfl) (by kernel_rfl) (by kernel_rfl) (fun _ _ _ h => h) (Or.inl ⟨by kernel_rfl, ?_⟩) (by assumption) ?_; rotate_left 1; (focus (intro w hSw; (try dsimp only at hSw); simp only [List.getElem_toArray, List.getElem_cons_succ, List.getElem_cons_zero]; all_goals (try go_simp); all_goals (try with_reducible rfl); all_goals (try rfl))); (try simp only [Act.put, List.getElem_toArray, List.getElem_cons_succ, List.getElem_cons_zero, List.setIfInBounds_toArray, List.set_cons_zero, List.set_cons_succ])
        refine wpAnyH_take (i := 1) (v := ?_) (by rfl) (by kernel_rfl) (by kernel_rfl) (by kernel_rfl) (fun _ _ _ h => h) (Or.inl ⟨by kernel_rfl, ?_⟩) (by assumption) ?_; rotate_left 1; (focus (intro w hSw; (try dsimp only at hSw); simp only [List.getElem_toArray, List.getElem_cons_succ, List.getElem_cons_zero]; all_goals (try go_simp); all_goals (try with_reducible rfl); all_goals (try rfl))); (try simp only [Act.put, List.getElem_toArray, List.getElem_cons_succ, List.getElem_cons_zero, List.setIfInBounds_toArray, List.set_cons_zero, List.set_cons_succ])
        refine wpAnyH_take (i := 3) (v := ?_) (by rfl) (by kernel_rfl) (by kernel_rfl) (by kernel_rfl) (fun _ _ _ h => h) (Or.inl ⟨by kernel_rfl, ?_⟩) (by assumption) ?_; rotate_left 1; (focus (intro w hSw; (try dsimp only at hSw); simp only [List.getElem_toArray, List.getElem_cons_succ, List.getElem_cons_zero]; all_goals (try go_simp); all_goals (try with_reducible rfl); all_goals (try rfl))); (try simp only [Act.put, List.getElem_toArray, List.getElem_cons_succ, List.getElem_cons_zero, List.setIfInBounds_toArray, List.set_cons_zero, List.set_cons_succ])
        refine wpAnyH_take (i := 4) (v := ?_) (by rfl) (by kernel_rfl) (by kernel_rfl) (by kernel_rfl) (fun _ _ _ h => h) (Or.inl ⟨by kernel_rfl, ?_⟩) (by assumption) ?_; rotate_left 1; (focus (intro w hSw; (try dsimp only at hSw); simp only [List.getElem_toArray, List.getElem_cons_succ, List.getElem_cons_zero]; all_goals (try go_simp); all_goals (try with_reducible rfl); all_goals (try rfl))); (try simp only [Act.put, List.getElem_toArray, List.getElem_cons_succ, List.getElem_cons_zero, List.setIfInBounds_toArray, List.set_cons_zero, List.set_cons_succ])
        refine wpAnyH_take (i := 5) (v := ?_) (by rfl) (by kernel_rfl) (by kernel_rfl) (by kernel_rfl) (fun _ _ _ h => h) (Or.inl ⟨by kernel_rfl, ?_⟩) (by assumption) ?_; rotate_left 1; (focus (intro w hSw; (try dsimp only at hSw); simp only [List.getElem_toArray, List.getElem_cons_succ, List.getElem_cons_zero]; all_goals (try go_simp); all_goals (try with_reducible rfl); all_goals (try rfl))); (try simp only [Act.put, List.getElem_toArray, List.getElem_cons_succ, List.getElem_cons_zero, List.setIfInBounds_toArray, List.set_cons_zero, List.set_cons_succ])
        refine wpAnyH_ready (rs := [2]) (by kernel_rfl) (by simp) ?_; refine AllReadyH.cons (by rfl) (fun K hK => ?_) AllReadyH.nil; rw [if_pos (by kernel_rfl)]; simp only [List.getElem_toArray, List.getElem_cons_succ, List.getElem_cons_zero]; go_wp2_with (first | (go_at_call 24; (with_reducible refine (same_is y0 y1 y2 y3 y4 y0 y1 y2 y3 y4 true HSm2 _).mono ?_); rintro e w' ⟨rfl, hb⟩)); refine hK.out _ _ ?_ (fun hHeld => ?_); (focus (exact keep30 (by assumption) hb)); clear hK K hb; try simp only [Act.put, List.getElem_toArray, List.getElem_cons_succ, List.getElem_cons_zero, List.setIfInBounds_toArray, List.set_cons_zero, List.set_cons_succ]
        refine wpAnyH_take (i := 6) (v := ?_) (by rfl) (by kernel_rfl) (by kernel_rfl) (by kernel_rfl) (fun _ _ _ h => h) (Or.inl ⟨by kernel_rfl, ?_⟩) (by assumption) ?_; rotate_left 1; (focus (intro w hSw; (try dsimp only at hSw); simp only [List.getElem_toArray, List.getElem_cons_succ, List.getElem_cons_zero]; all_goals (try go_simp); all_goals (try with_reducible rfl); all_goals (try rfl))); (try simp only [Act.put, List.getElem_toArray, List.getElem_cons_succ, List.getElem_cons_zero, List.setIfInBounds_toArray, List.set_cons_zero, List.set_cons_succ])
        refine wpAnyH_take (i := 7) (v := undef) (by rfl) (by kernel_rfl) (by kernel_rfl) (by kernel_rfl) (fun _ _ _ h => h) (Or.inr ⟨by kernel_rfl, rfl⟩) (by assumption) ?_; (try simp only [Act.put, List.getElem_toArray, List.getElem_cons_succ, List.getElem_cons_zero, List.setIfInBounds_toArray, List.set_cons_zero, List.set_cons_succ])
        refine wpAnyH_take (i := 8) (v := undef) (by rfl) (by kernel_rfl) (by kernel_rfl) (by kernel_rfl) (fun _ _ _ h => h) (Or.inr ⟨by kernel_rfl, rfl⟩) (by assumption) ?_; (try simp only [Act.put, List.getElem_toArray, List.getElem_cons_succ, List.getElem_cons_zero, List.setIfInBounds_toArray, List.set_cons_zero, List.set_cons_succ])
        refine wpAnyH_take (i := 9) (v := undef) (by rfl) (by kernel_rfl) (by kernel_rfl) (by kernel_rfl) (fun _ _ _ h => h) (Or.inr ⟨by kernel_rfl, rfl⟩) (by assumption) ?_; (try simp only [Act.put, List.getElem_toArray, List.getElem_cons_succ, List.getElem_cons_zero, List.setIfInBounds_toArray, List.set_cons_zero, List.set_cons_succ])
        refine wpAnyH_take (i := 10) (v := ?_) (by rfl) (by kernel_rfl) (by kernel_rfl) (by kernel_rfl) (fun _ _ _ h => h) (Or.inl ⟨by kernel_rfl, ?_⟩) (by assumption) ?_; rotate_left 1; (focus (intro w hSw; (try dsimp only at hSw); simp only [List.getElem_toArray, List.getElem_cons_succ, List.getElem_cons_zero]; all_goals (try go_simp); all_goals (try with_reducible rfl); all_goals (try rfl))); (try simp only [Act.put, List.getElem_toArray, List.getElem_cons_succ, List.getElem_cons_zero, List.setIfInBounds_toArray, List.set_cons_zero, List.set_cons_succ])
        refine wpAnyH_take (i := 11) (v := Value.bool true) (by rfl) (by kernel_rfl) (by kernel_rfl) (by kernel_rfl) (fun _ _ _ h => h) (Or.inl ⟨by kernel_rfl, ?_⟩) (by assumption) ?_; (focus (intro w hSw; first | kernel_rfl | rfl)); (try simp only [Act.put, List.getElem_toArray, List.getElem_cons_succ, List.getElem_cons_zero, List.setIfInBounds_toArray, List.set_cons_zero, List.set_cons_succ])
        refine wpAnyH_take (i := 12) (v := ?_) (by rfl) (by kernel_rfl) (by kernel_rfl) (by kernel_rfl) (fun _ _ _ h => h) (Or.inl ⟨by kernel_rfl, ?_⟩) (by assumption) ?_; rotate_left 1; (focus (intro w hSw; (try dsimp only at hSw); simp only [List.getElem_toArray, List.getElem_cons_succ, List.getElem_cons_zero]; all_goals (try go_simp); all_goals (try with_reducible rfl); all_goals (try rfl))); (try simp only [Act.put, List.getElem_toArray, List.getElem_cons_succ, List.getElem_cons_zero, List.setIfInBounds_toArray, List.set_cons_zero, List.set_cons_succ])
        refine wpAnyH_done (by kernel_rfl) ?_ _
        refine NoPanic.normal ?_
        have hS2 : Below w17.heap.size w17 w' ∧ (zb < w'.heap.size ∧ w'.cell? ⟨zb, 0, none⟩ = some (.int .i64 y0) ∧ w'.cell? ⟨zb, 1, none⟩ = some (.int .i64 y1) ∧ w'.cell? ⟨zb, 2, none⟩ = some (.int .i64 y2) ∧ w'.cell? ⟨zb, 3, none⟩ = some (.int .i64 y3) ∧ w'.cell? ⟨zb, 4, none⟩ = some (.int .u32 y4)) ∧ (kb + 1 < w'.heap.size ∧ w'.cell? ⟨kb + 1, 0, none⟩ = some (.int .i64 y0) ∧ w'.cell? ⟨kb + 1, 1, none⟩ = some (.int .i64 y1) ∧ w'.cell? ⟨kb + 1, 2, none⟩ = some (.int .i64 y2) ∧ w'.cell? ⟨kb + 1, 3, none⟩ = some (.int .i64 y3) ∧ w'.cell? ⟨kb + 1, 4, none⟩ = some (.int .u32 y4)) ∧ (rb < w'.heap.size ∧ w'.cell? ⟨rb, 3, none⟩ = some (.int .i64 rv)) := by assumption
        obtain ⟨hB2, -⟩ := hS2
        have HB2 := Lib.hid (H17.out.below hB2).sv.bel
        clear hB2
        go_wp2_with fail
        all_goals (go_ret; exact ⟨by simp, HB2.out⟩)
      · have hb2 : bits BinOp.and IntKind.i64 rv 2 = 0 := h2
        have hb4 : bits BinOp.and IntKind.i64 rv 4 = 0 := by simpa using (show (bits BinOp.and IntKind.i64 rv 4 == 0) = true from h4)
        have H2 := Lib.hid hb2
        have H5 : Hid ((bits BinOp.and IntKind.i64 rv 5 == 0) = false) := Lib.hid h5
        have HT : Hid (∀ w, Calls Tryd.prog 61 #[.int .i64 rv, (Value.agg #[.int .i64 y0, .int .i64 y1, .int .i64 y2, .int .i64 y3, .int .u32 y4])] w fun e w' => e = .returned (Value.agg #[.int .i64 y0, .int .i64 y1, .int .i64 y2, .int .i64 y3, .int .u32 y4]) ∧ Below w.heap.size w w') := Lib.hid (fun w => through_same rv y0 y1 y2 y3 y4 h4 w)
        clear h2 h4 h5
        go_upto_region 25 with (first
          | (go_at_call 22; (with_reducible refine (sfetch_ok 0 0 0 rv 2 j j rfl rfl (by have := H8.out.nn; omega) hj (Lib.hid rfl) (Lib.hid H8.out.live) hb2 y0 y1 y2 y3 y4 y0 y1 y2 y3 y4 (Lib.hid H8.out.at_) HT _ H8.out.sv.st).mono ?_); rintro e w9 ⟨rfl, hb⟩; clear r0 r1 r2 r3 r4; have H9 := Lib.hid (H8.out.below hb); have HR9 := Lib.hid (HR8.out.below hb); have r0 : ∀ o, (World.alloc w9 o).cell? _ = _ := (fun o => (HR9.out.below ((Below.refl _ _).alloc (Nat.le_refl _) _)).c0); have r1 : ∀ o, (World.alloc w9 o).cell? _ = _ := (fun o => (HR9.out.below ((Below.refl _ _).alloc (Nat.le_refl _) _)).c1); have r2 : ∀ o, (World.alloc w9 o).cell? _ = _ := (fun o => (HR9.out.below ((Below.refl _ _).alloc (Nat.le_refl _) _)).c2); have r3 : ∀ o, (World.alloc w9 o).cell? _ = _ := (fun o => (HR9.out.below ((Below.refl _ _).alloc (Nat.le_refl _) _)).c3); have r4 : ∀ o, (World.alloc w9 o).cell? _ = _ := (fun o => (HR9.out.below ((Below.refl _ _).alloc (Nat.le_refl _) _)).c4); clear hb)
          | (go_at_call 25; (with_reducible refine (sswap_nowrite 0 0 rv 2 j 0 0 0 0 0 (Lib.hid H8.out.live) H2 H5 (sA A 9) _ (H9.out.below ((Below.refl _ _).alloc (Nat.le_refl _) _)).sv.st (HS.out.below (H9.out.below ((Below.refl _ _).alloc (Nat.le_refl _) _)).sv.bel).c9 (HS.out.below (H9.out.below ((Below.refl _ _).alloc (Nat.le_refl _) _)).sv.bel).s9).mono ?_); rintro e w10 ⟨rfl, hb⟩; clear r0 r1 r2 r3 r4; have H10 := Lib.hid ((H9.out.below ((Below.refl _ _).alloc (Nat.le_refl _) _)).below hb); have HR10 := Lib.hid ((HR9.out.below ((Below.refl _ _).alloc (Nat.le_refl _) _)).below hb); have HY10 := Lib.hid ((KeyC.new w9 y0 y1 y2 y3 y4 25).below hb); clear hb))
        obtain ⟨w11, hw11⟩ : ∃ w11, w11 = w10.alloc (.cells #[.int .i64 0, .int .i64 0, .int .i64 0, .int .i64 0, .int .u32 0] 25 (0, 0)) := ⟨_, rfl⟩
        obtain ⟨yb, hyb⟩ : ∃ yb, yb = w9.heap.size := ⟨_, rfl⟩
        have H11 : Hid (SwSt w w11 S a b W j kb (kb + 1) y0 y1 y2 y3 y4 y0 y1 y2 y3 y4) := Lib.hid (by rw [hw11]; exact H10.out.below ((Below.refl _ _).alloc (Nat.le_refl _) _))
        have HR11 : Hid (KeyC w11 rb 2 0 0 rv 2) := Lib.hid (by rw [hw11]; exact HR10.out.below ((Below.refl _ _).alloc (Nat.le_refl _) _))
        have HY11 : Hid (KeyC w11 yb y0 y1 y2 y3 y4) := Lib.hid (by rw [hw11, hyb]; exact HY10.out.below ((Below.refl _ _).alloc (Nat.le_refl _) _))
        rw [← hw11, ← hyb]
        clear hw11 hyb H9 H10 HR9 HR10 HY10
        have r3 := HR11.out.c3
        have hl := H11.out.ll
        have l0 := hl.c0
        have l1 := hl.c1
        have l2 := hl.c2
        have l3 := hl.c3
        have l4 := hl.c4
        clear hl
        go_upto_region 28 with fail
        obtain ⟨w12, hw12⟩ : ∃ w12, w12 = w11.alloc (.cells #[.int .i64 y0, .int .i64 y1, .int .i64 y2, .int .i64 y3, .int .u32 y4] 25) := ⟨_, rfl⟩
        obtain ⟨wb, hwb⟩ : ∃ wb, wb = w11.heap.size := ⟨_, rfl⟩
        have H12 : Hid (SwSt w w12 S a b W j kb (kb + 1) y0 y1 y2 y3 y4 y0 y1 y2 y3 y4) := Lib.hid (by rw [hw12]; exact H11.out.below ((Below.refl _ _).alloc (Nat.le_refl _) _))
        have HR12 : Hid (KeyC w12 rb 2 0 0 rv 2) := Lib.hid (by rw [hw12]; exact HR11.out.below ((Below.refl _ _).alloc (Nat.le_refl _) _))
        have HY12 : Hid (KeyC w12 yb y0 y1 y2 y3 y4) := Lib.hid (by rw [hw12]; exact HY11.out.below ((Below.refl _ _).alloc (Nat.le_refl _) _))
        have HW12 : Hid (KeyC w12 wb y0 y1 y2 y3 y4) := Lib.hid (by rw [hw12, hwb]; exact KeyC.new _ _ _ _ _ _ _)
        have HO12 : Hid (kb + 1 < wb ∧ yb < wb ∧ rb < wb) := Lib.hid (by rw [hwb]; exact ⟨H11.out.ll.lt, HY11.out.lt, HR11.out.lt⟩)
        rw [← hw12, ← hwb]
        clear hw12 hwb H11 HR11 HY11 r3 l0 l1 l2 l3 l4
        have r3 := HR12.out.c3
        have hl := H12.out.ll
        have l0 := hl.c0
        have l1 := hl.c1
        have l2 := hl.c2
        have l3 := hl.c3
        have l4 := hl.c4
        clear hl
        go_upto_region 30 with fail
        clear l0 l1 l2 l3 l4
        have ST : Hid (Below w12.heap.size w12 (World.drew w12) ∧ (yb < (World.drew w12).heap.size ∧ (World.drew w12).cell? ⟨yb, 0, none⟩ = some (.int .i64 y0) ∧ (World.drew w12).cell? ⟨yb, 1, none⟩ = some (.int .i64 y1) ∧ (World.drew w12).cell? ⟨yb, 2, none⟩ = some (.int .i64 y2) ∧ (World.drew w12).cell? ⟨yb, 3, none⟩ = some (.int .i64 y3) ∧ (World.drew w12).cell? ⟨yb, 4, none⟩ = some (.int .u32 y4)) ∧ (wb < (World.drew w12).heap.size ∧ (World.drew w12).cell? ⟨wb, 0, none⟩ = some (.int .i64 y0) ∧ (World.drew w12).cell? ⟨wb, 1, none⟩ = some (.int .i64 y1) ∧ (World.drew w12).cell? ⟨wb, 2, none⟩ = some (.int .i64 y2) ∧ (World.drew w12).cell? ⟨wb, 3, none⟩ = some (.int .i64 y3) ∧ (World.drew w12).cell? ⟨wb, 4, none⟩ = some (.int .u32 y4)) ∧ (rb < (World.drew w12).heap.size ∧ (World.drew w12).cell? ⟨rb, 3, none⟩ = some (.int .i64 rv))) := Lib.hid (start30 HY12.out HW12.out HR12.out)
        have HSm : Hid (sameB y0 y1 y2 y3 y4 y0 y1 y2 y3 y4 = true) := Lib.hid (by simp [sameB])
        go_region_held3 (fun w' => Below w12.heap.size w12 w' ∧ (yb < w'.heap.size ∧ w'.cell? ⟨yb, 0, none⟩ = some (.int .i64 y0) ∧ w'.cell? ⟨yb, 1, none⟩ = some (.int .i64 y1) ∧ w'.cell? ⟨yb, 2, none⟩ = some (.int .i64 y2) ∧ w'.cell? ⟨yb, 3, none⟩ = some (.int .i64 y3) ∧ w'.cell? ⟨yb, 4, none⟩ = some (.int .u32 y4)) ∧ (wb < w'.heap.size ∧ w'.cell? ⟨wb, 0, none⟩ = some (.int .i64 y0) ∧ w'.cell? ⟨wb, 1, none⟩ = some (.int .i64 y1) ∧ w'.cell? ⟨wb, 2, none⟩ = some (.int .i64 y2) ∧ w'.cell? ⟨wb, 3, none⟩ = some (.int .i64 y3) ∧ w'.cell? ⟨wb, 4, none⟩ = some (.int .u32 y4)) ∧ (rb < w'.heap.size ∧ w'.cell? ⟨rb, 3, none⟩ = some (.int .i64 rv))) (first | exact ST.out | exact keep30 (by assumption) hb | assumption)
          (first | (go_at_call 24; (with_reducible refine (same_is y0 y1 y2 y3 y4 y0 y1 y2 y3 y4 true HSm _).mono ?_); rintro e w' ⟨rfl, hb⟩))
        have hS : Below w12.heap.size w12 w' ∧ (yb < w'.heap.size ∧ w'.cell? ⟨yb, 0, none⟩ = some (.int .i64 y0) ∧ w'.cell? ⟨yb, 1, none⟩ = some (.int .i64 y1) ∧ w'.cell? ⟨yb, 2, none⟩ = some (.int .i64 y2) ∧ w'.cell? ⟨yb, 3, none⟩ = some (.int .i64 y3) ∧ w'.cell? ⟨yb, 4, none⟩ = some (.int .u32 y4)) ∧ (wb < w'.heap.size ∧ w'.cell? ⟨wb, 0, none⟩ = some (.int .i64 y0) ∧ w'.cell? ⟨wb, 1, none⟩ = some (.int .i64 y1) ∧ w'.cell? ⟨wb, 2, none⟩ = some (.int .i64 y2) ∧ w'.cell? ⟨wb, 3, none⟩ = some (.int .i64 y3) ∧ w'.cell? ⟨wb, 4, none⟩ = some (.int .u32 y4)) ∧ (rb < w'.heap.size ∧ w'.cell? ⟨rb, 3, none⟩ = some (.int .i64 rv)) := by assumption
        obtain ⟨hB, -⟩ := hS
        have H15 := Lib.hid (H12.out.below hB)
        have HR15 := Lib.hid (HR12.out.below hB)
        have s0 := H15.out.sv.st.s0
        have hA := H15.out.at_
        have g0 : Hid (W 0 (j * 5) = .int .i64 y0) := Lib.hid hA.1
        have g1 : Hid (W 0 (j * 5 + 1) = .int .i64 y1) := Lib.hid hA.2.1
        have g2 : Hid (W 0 (j * 5 + 2) = .int .i64 y2) := Lib.hid hA.2.2.1
        have g3 : Hid (W 0 (j * 5 + 3) = .int .i64 y3) := Lib.hid hA.2.2.2.1
        have g4 : Hid (W 0 (j * 5 + 4) = .int .u32 y4) := Lib.hid hA.2.2.2.2
        clear hA
        clear hB H12 HR12 HY12 HW12 ST r3
        go_upto_region 33 with (first
          | (go_at_call 40; (with_reducible refine (nget_at (n := a.n) (W := W) (th := upd (fun _ => false) 0 true) 0 j 0 j (Lib.hid rfl) (Lib.hid rfl) (by have := H15.out.nn; omega) hj (Lib.hid rfl) y0 y1 y2 y3 y4 g0 g1 g2 g3 g4 _ H15.out.sv.st.nd).mono ?_); rintro e w16 ⟨rfl, hb⟩; have H16 := Lib.hid (H15.out.below hb); have HR16 := Lib.hid (HR15.out.below hb); clear hb s0))
        obtain ⟨w17, hw17⟩ : ∃ w17, w17 = w16.alloc (.cells #[.int .i64 y0, .int .i64 y1, .int .i64 y2, .int .i64 y3, .int .u32 y4] 25) := ⟨_, rfl⟩
        obtain ⟨zb, hzb⟩ : ∃ zb, zb = w16.heap.size := ⟨_, rfl⟩
        have H17 : Hid (SwSt w w17 S a b W j kb (kb + 1) y0 y1 y2 y3 y4 y0 y1 y2 y3 y4) := Lib.hid (by rw [hw17]; exact H16.out.below ((Below.refl _ _).alloc (Nat.le_refl _) _))
        have HR17 : Hid (KeyC w17 rb 2 0 0 rv 2) := Lib.hid (by rw [hw17]; exact HR16.out.below ((Below.refl _ _).alloc (Nat.le_refl _) _))
        have HZ17 : Hid (KeyC w17 zb y0 y1 y2 y3 y4) := Lib.hid (by rw [hw17, hzb]; exact KeyC.new _ _ _ _ _ _ _)
        rw [← hw17, ← hzb]
        clear hw17 hzb H15 H16 HR15 HR16
        have h0n : (rv != 0) = true := by simpa using h0
        have ST2 : Hid (Below w17.heap.size w17 (World.drew w17) ∧ (zb < (World.drew w17).heap.size ∧ (World.drew w17).cell? ⟨zb, 0, none⟩ = some (.int .i64 y0) ∧ (World.drew w17).cell? ⟨zb, 1, none⟩ = some (.int .i64 y1) ∧ (World.drew w17).cell? ⟨zb, 2, none⟩ = some (.int .i64 y2) ∧ (World.drew w17).cell? ⟨zb, 3, none⟩ = some (.int .i64 y3) ∧ (World.drew w17).cell? ⟨zb, 4, none⟩ = some (.int .u32 y4)) ∧ (kb + 1 < (World.drew w17).heap.size ∧ (World.drew w17).cell? ⟨kb + 1, 0, none⟩ = some (.int .i64 y0) ∧ (World.drew w17).cell? ⟨kb + 1, 1, none⟩ = some (.int .i64 y1) ∧ (World.drew w17).cell? ⟨kb + 1, 2, none⟩ = some (.int .i64 y2) ∧ (World.drew w17).cell? ⟨kb + 1, 3, none⟩ = some (.int .i64 y3) ∧ (World.drew w17).cell? ⟨kb + 1, 4, none⟩ = some (.int .u32 y4)) ∧ (rb < (World.drew w17).heap.size ∧ (World.drew w17).cell? ⟨rb, 3, none⟩ = some (.int .i64 rv))) := Lib.hid (start30 HZ17.out H17.out.ll HR17.out)
        have HSm2 : Hid (sameB y0 y1 y2 y3 y4 y0 y1 y2 y3 y4 = true) := Lib.hid (by simp [sameB])
        refine wp_region_noPanic ?_
        refine wp_region_held_drew (S := fun w' => Below w17.heap.size w17 w' ∧ (zb < w'.heap.size ∧ w'.cell? ⟨zb, 0, none⟩ = some (.int .i64 y0) ∧ w'.cell? ⟨zb, 1, none⟩ = some (.int .i64 y1) ∧ w'.cell? ⟨zb, 2, none⟩ = some (.int .i64 y2) ∧ w'.cell? ⟨zb, 3, none⟩ = some (.int .i64 y3) ∧ w'.cell? ⟨zb, 4, none⟩ = some (.int .u32 y4)) ∧ (kb + 1 < w'.heap.size ∧ w'.cell? ⟨kb + 1, 0, none⟩ = some (.int .i64 y0) ∧ w'.cell? ⟨kb + 1, 1, none⟩ = some (.int .i64 y1) ∧ w'.cell? ⟨kb + 1, 2, none⟩ = some (.int .i64 y2) ∧ w'.cell? ⟨kb + 1, 3, none⟩ = some (.int .i64 y3) ∧ w'.cell? ⟨kb + 1, 4, none⟩ = some (.int .u32 y4)) ∧ (rb < w'.heap.size ∧ w'.cell? ⟨rb, 3, none⟩ = some (.int .i64 rv))) (by kernel_rfl) ST2.out (fun hHeld => ?_)
        refine wpAnyH_take (i := 0) (v := ?_) (by rfl) (by kernel_rfl) (by kernel_rfl) (by kernel_rfl) (fun _ _ _ h => h) (Or.inl ⟨by kernel_rfl, ?_⟩) (by assumption) ?_; rotate_left 1; (focus (intro w hSw; (try dsimp only at hSw); simp only [List.getElem_toArray, List.getElem_cons_succ, List.getElem_cons_zero]; all_goals (try go_simp); all_goals (try with_reducible rfl); all_goals (try rfl))); (try simp only [Act.put, List.getElem_toArray, List.getElem_cons_succ, List.getElem_cons_zero, List.setIfInBounds_toArray, List.set_cons_zero, List.set_cons_succ])
        refine wpAnyH_take (i := 1) (v := ?_) (by rfl) (by kernel_rfl) (by kernel_rfl) (by kernel_rfl) (fun _ _ _ h => h) (Or.inl ⟨by kernel_rfl, ?_⟩) (by assumption) ?_; rotate_left 1; (focus (intro w hSw; (try dsimp only at hSw); simp only [List.getElem_toArray, List.getElem_cons_succ, List.getElem_cons_zero]; all_goals (try go_simp); all_goals (try with_reducible rfl); all_goals (try rfl))); (try simp only [Act.put, List.getElem_toArray, List.getElem_cons_succ, List.getElem_cons_zero, List.setIfInBounds_toArray, List.set_cons_zero, List.set_cons_succ])
        refine wpAnyH_take (i := 3) (v := ?_) (by rfl) (by kernel_rfl) (by kernel_rfl) (by kernel_rfl) (fun _ _ _ h => h) (Or.inl ⟨by kernel_rfl, ?_⟩) (by assumption) ?_; rotate_left 1; (focus (intro w hSw; (try dsimp only at hSw); simp only [List.getElem_toArray, List.getElem_cons_succ, List.getElem_cons_zero]; all_goals (try go_simp); all_goals (try with_reducible rfl); all_goals (try rfl))); (try simp only [Act.put, List.getElem_toArray, List.getElem_cons_succ, List.getElem_cons_zero, List.setIfInBounds_toArray, List.set_cons_zero, List.set_cons_succ])
        refine wpAnyH_take (i := 4) (v := ?_) (by rfl) (by kernel_rfl) (by kernel_rfl) (by kernel_rfl) (fun _ _ _ h => h) (Or.inl ⟨by kernel_rfl, ?_⟩) (by assumption) ?_; rotate_left 1; (focus (intro w hSw; (try dsimp only at hSw); simp only [List.getElem_toArray, List.getElem_cons_succ, List.getElem_cons_zero]; all_goals (try go_simp); all_goals (try with_reducible rfl); all_goals (try rfl))); (try simp only [Act.put, List.getElem_toArray, List.getElem_cons_succ, List.getElem_cons_zero, List.setIfInBounds_toArray, List.set_cons_zero, List.set_cons_succ])
        refine wpAnyH_take (i := 5) (v := ?_) (by rfl) (by kernel_rfl) (by kernel_rfl) (by kernel_rfl) (fun _ _ _ h => h) (Or.inl ⟨by kernel_rfl, ?_⟩) (by assumption) ?_; rotate_left 1; (focus (intro w hSw; (try dsimp only at hSw); simp only [List.getElem_toArray, List.getElem_cons_succ, List.getElem_cons_zero]; all_goals (try go_simp); all_goals (try with_reducible rfl); all_goals (try rfl))); (try simp only [Act.put, List.getElem_toArray, List.getElem_cons_succ, List.getElem_cons_zero, List.setIfInBounds_toArray, List.set_cons_zero, List.set_cons_succ])
        refine wpAnyH_ready (rs := [2]) (by kernel_rfl) (by simp) ?_; refine AllReadyH.cons (by rfl) (fun K hK => ?_) AllReadyH.nil; rw [if_pos (by kernel_rfl)]; simp only [List.getElem_toArray, List.getElem_cons_succ, List.getElem_cons_zero]; go_wp2_with (first | (go_at_call 24; (with_reducible refine (same_is y0 y1 y2 y3 y4 y0 y1 y2 y3 y4 true HSm2 _).mono ?_); rintro e w' ⟨rfl, hb⟩)); refine hK.out _ _ ?_ (fun hHeld => ?_); (focus (exact keep30 (by assumption) hb)); clear hK K hb; try simp only [Act.put, List.getElem_toArray, List.getElem_cons_succ, List.getElem_cons_zero, List.setIfInBounds_toArray, List.set_cons_zero, List.set_cons_succ]
        refine wpAnyH_take (i := 6) (v := ?_) (by rfl) (by kernel_rfl) (by kernel_rfl) (by kernel_rfl) (fun _ _ _ h => h) (Or.inl ⟨by kernel_rfl, ?_⟩) (by assumption) ?_; rotate_left 1; (focus (intro w hSw; (try dsimp only at hSw); simp only [List.getElem_toArray, List.getElem_cons_succ, List.getElem_cons_zero]; all_goals (try go_simp); all_goals (try with_reducible rfl); all_goals (try rfl))); (try simp only [Act.put, List.getElem_toArray, List.getElem_cons_succ, List.getElem_cons_zero, List.setIfInBounds_toArray, List.set_cons_zero, List.set_cons_succ])
        refine wpAnyH_take (i := 7) (v := undef) (by rfl) (by kernel_rfl) (by kernel_rfl) (by kernel_rfl) (fun _ _ _ h => h) (Or.inr ⟨by kernel_rfl, rfl⟩) (by assumption) ?_; (try simp only [Act.put, List.getElem_toArray, List.getElem_cons_succ, List.getElem_cons_zero, List.setIfInBounds_toArray, List.set_cons_zero, List.set_cons_succ])
        refine wpAnyH_take (i := 8) (v := undef) (by rfl) (by kernel_rfl) (by kernel_rfl) (by kernel_rfl) (fun _ _ _ h => h) (Or.inr ⟨by kernel_rfl, rfl⟩) (by assumption) ?_; (try simp only [Act.put, List.getElem_toArray, List.getElem_cons_succ, List.getElem_cons_zero, List.setIfInBounds_toArray, List.set_cons_zero, List.set_cons_succ])
        refine wpAnyH_take (i := 9) (v := undef) (by rfl) (by kernel_rfl) (by kernel_rfl) (by kernel_rfl) (fun _ _ _ h => h) (Or.inr ⟨by kernel_rfl, rfl⟩) (by assumption) ?_; (try simp only [Act.put, List.getElem_toArray, List.getElem_cons_succ, List.getElem_cons_zero, List.setIfInBounds_toArray, List.set_cons_zero, List.set_cons_succ])
        refine wpAnyH_take (i := 10) (v := ?_) (by rfl) (by kernel_rfl) (by kernel_rfl) (by kernel_rfl) (fun _ _ _ h => h) (Or.inl ⟨by kernel_rfl, ?_⟩) (by assumption) ?_; rotate_left 1; (focus (intro w hSw; (try dsimp only at hSw); simp only [List.getElem_toArray, List.getElem_cons_succ, List.getElem_cons_zero]; all_goals (try go_simp); all_goals (try with_reducible rfl); all_goals (try rfl))); (try simp only [Act.put, List.getElem_toArray, List.getElem_cons_succ, List.getElem_cons_zero, List.setIfInBounds_toArray, List.set_cons_zero, List.set_cons_succ])
        refine wpAnyH_take (i := 11) (v := Value.bool true) (by rfl) (by kernel_rfl) (by kernel_rfl) (by kernel_rfl) (fun _ _ _ h => h) (Or.inl ⟨by kernel_rfl, ?_⟩) (by assumption) ?_; (focus (intro w hSw; first | kernel_rfl | rfl)); (try simp only [Act.put, List.getElem_toArray, List.getElem_cons_succ, List.getElem_cons_zero, List.setIfInBounds_toArray, List.set_cons_zero, List.set_cons_succ])
        refine wpAnyH_take (i := 12) (v := ?_) (by rfl) (by kernel_rfl) (by kernel_rfl) (by kernel_rfl) (fun _ _ _ h => h) (Or.inl ⟨by kernel_rfl, ?_⟩) (by assumption) ?_; rotate_left 1; (focus (intro w hSw; (try dsimp only at hSw); simp only [List.getElem_toArray, List.getElem_cons_succ, List.getElem_cons_zero]; all_goals (try go_simp); all_goals (try with_reducible rfl); all_goals (try rfl))); (try simp only [Act.put, List.getElem_toArray, List.getElem_cons_succ, List.getElem_cons_zero, List.setIfInBounds_toArray, List.set_cons_zero, List.set_cons_succ])
        refine wpAnyH_done (by kernel_rfl) ?_ _
        refine NoPanic.normal ?_
        have hS2 : Below w17.heap.size w17 w' ∧ (zb < w'.heap.size ∧ w'.cell? ⟨zb, 0, none⟩ = some (.int .i64 y0) ∧ w'.cell? ⟨zb, 1, none⟩ = some (.int .i64 y1) ∧ w'.cell? ⟨zb, 2, none⟩ = some (.int .i64 y2) ∧ w'.cell? ⟨zb, 3, none⟩ = some (.int .i64 y3) ∧ w'.cell? ⟨zb, 4, none⟩ = some (.int .u32 y4)) ∧ (kb + 1 < w'.heap.size ∧ w'.cell? ⟨kb + 1, 0, none⟩ = some (.int .i64 y0) ∧ w'.cell? ⟨kb + 1, 1, none⟩ = some (.int .i64 y1) ∧ w'.cell? ⟨kb + 1, 2, none⟩ = some (.int .i64 y2) ∧ w'.cell? ⟨kb + 1, 3, none⟩ = some (.int .i64 y3) ∧ w'.cell? ⟨kb + 1, 4, none⟩ = some (.int .u32 y4)) ∧ (rb < w'.heap.size ∧ w'.cell? ⟨rb, 3, none⟩ = some (.int .i64 rv)) := by assumption
        obtain ⟨hB2, -⟩ := hS2
        have HB2 := Lib.hid (H17.out.below hB2).sv.bel
        clear hB2
        go_wp2_with fail
        all_goals (go_ret; exact ⟨by simp, HB2.out⟩)
      · have hb2 : bits BinOp.and IntKind.i64 rv 2 = 0 := by rw [h0]; decide
        have hb4 : bits BinOp.and IntKind.i64 rv 4 = 0 := by rw [h0]; decide
        have hb5 : (bits BinOp.and IntKind.i64 rv 5 == 0) = true := by rw [h0]; decide
        have h0t : (rv == 0) = true := by simpa using h0
        have h0n : (rv != 0) = false := by simpa using h0
        have HT : Hid (∀ w, Calls Tryd.prog 61 #[.int .i64 rv, (Value.agg #[.int .i64 y0, .int .i64 y1, .int .i64 y2, .int .i64 y3, .int .u32 y4])] w fun e w' => e = .returned (Value.agg #[.int .i64 y0, .int .i64 y1, .int .i64 y2, .int .i64 y3, .int .u32 y4]) ∧ Below w.heap.size w w') := Lib.hid (fun w => through_same rv y0 y1 y2 y3 y4 (by rw [h0]; decide) w)
        have H2 := Lib.hid hb2
        have H5 := Lib.hid hb5
        have HRx : Hid (rightB 0 0 0 0 0 = true) := Lib.hid (by decide)
        clear hb5 h0
        go_upto_region 25 with (first
          | (go_at_call 22; (with_reducible refine (sfetch_ok 0 0 0 rv 2 j j rfl rfl (by have := H8.out.nn; omega) hj (Lib.hid rfl) (Lib.hid H8.out.live) hb2 y0 y1 y2 y3 y4 y0 y1 y2 y3 y4 (Lib.hid H8.out.at_) HT _ H8.out.sv.st).mono ?_); rintro e w9 ⟨rfl, hb⟩; clear r0 r1 r2 r3 r4; have H9 := Lib.hid (H8.out.below hb); have HR9 := Lib.hid (HR8.out.below hb); have r0 : ∀ o, (World.alloc w9 o).cell? _ = _ := (fun o => (HR9.out.below ((Below.refl _ _).alloc (Nat.le_refl _) _)).c0); have r1 : ∀ o, (World.alloc w9 o).cell? _ = _ := (fun o => (HR9.out.below ((Below.refl _ _).alloc (Nat.le_refl _) _)).c1); have r2 : ∀ o, (World.alloc w9 o).cell? _ = _ := (fun o => (HR9.out.below ((Below.refl _ _).alloc (Nat.le_refl _) _)).c2); have r3 : ∀ o, (World.alloc w9 o).cell? _ = _ := (fun o => (HR9.out.below ((Below.refl _ _).alloc (Nat.le_refl _) _)).c3); have r4 : ∀ o, (World.alloc w9 o).cell? _ = _ := (fun o => (HR9.out.below ((Below.refl _ _).alloc (Nat.le_refl _) _)).c4); clear hb)
          | (go_at_call 25; (with_reducible refine (sswap_at (eV (sA A 1)) (eV (sA A 2)) 0 0 (Lib.hid rfl) 0 rv 2 j (by have := H8.out.nn; omega) hj (Lib.hid rfl) (Lib.hid H8.out.live) H2 H5 y0 y1 y2 y3 y4 0 0 0 0 0 (Lib.hid H9.out.at_) HRx (Lib.hid H9.out.one) _ (HE.out.below (H9.out.below ((Below.refl _ _).alloc (Nat.le_refl _) _)).sv.bel) (H9.out.below ((Below.refl _ _).alloc (Nat.le_refl _) _)).sv.st).mono ?_); rintro e w10 ⟨rfl, hN, hb⟩; clear r0 r1 r2 r3 r4; have H10 := Lib.hid ((H9.out.below ((Below.refl _ _).alloc (Nat.le_refl _) _)).swap hN hb); have HR10 := Lib.hid ((HR9.out.below ((Below.refl _ _).alloc (Nat.le_refl _) _)).pbelow hb (by have := H8.out.ord; have := HRB.out; omega) (by have := H8.out.ord; have := HRB.out; omega)); have HY10 := Lib.hid ((KeyC.new w9 y0 y1 y2 y3 y4 25).pbelow hb (by have := H8.out.ord; have := H9.out.kk.lt; omega) (by have := H8.out.ord; have := H9.out.kk.lt; omega)); clear hb hN))
        obtain ⟨w11, hw11⟩ : ∃ w11, w11 = w10.alloc (.cells #[.int .i64 y0, .int .i64 y1, .int .i64 y2, .int .i64 y3, .int .u32 y4] 25 (0, 0)) := ⟨_, rfl⟩
        obtain ⟨yb, hyb⟩ : ∃ yb, yb = w9.heap.size := ⟨_, rfl⟩
        have H11 : Hid (SwSt w w11 S a b (updV W 0 (j * 5) (k5 0 0 0 0 0)) j kb (kb + 1) 0 0 0 0 0 y0 y1 y2 y3 y4) := Lib.hid (by rw [hw11]; exact H10.out.below ((Below.refl _ _).alloc (Nat.le_refl _) _))
        have HR11 : Hid (KeyC w11 rb 2 0 0 rv 2) := Lib.hid (by rw [hw11]; exact HR10.out.below ((Below.refl _ _).alloc (Nat.le_refl _) _))
        have HY11 : Hid (KeyC w11 yb y0 y1 y2 y3 y4) := Lib.hid (by rw [hw11, hyb]; exact HY10.out.below ((Below.refl _ _).alloc (Nat.le_refl _) _))
        rw [← hw11, ← hyb]
        clear hw11 hyb H9 H10 HR9 HR10 HY10
        have r3 := HR11.out.c3
        have hl := H11.out.ll
        have l0 := hl.c0
        have l1 := hl.c1
        have l2 := hl.c2
        have l3 := hl.c3
        have l4 := hl.c4
        clear hl
        go_upto_region 28 with fail
        obtain ⟨w12, hw12⟩ : ∃ w12, w12 = w11.alloc (.cells #[.int .i64 y0, .int .i64 y1, .int .i64 y2, .int .i64 y3, .int .u32 y4] 25) := ⟨_, rfl⟩
        obtain ⟨wb, hwb⟩ : ∃ wb, wb = w11.heap.size := ⟨_, rfl⟩
        have H12 : Hid (SwSt w w12 S a b (updV W 0 (j * 5) (k5 0 0 0 0 0)) j kb (kb + 1) 0 0 0 0 0 y0 y1 y2 y3 y4) := Lib.hid (by rw [hw12]; exact H11.out.below ((Below.refl _ _).alloc (Nat.le_refl _) _))
        have HR12 : Hid (KeyC w12 rb 2 0 0 rv 2) := Lib.hid (by rw [hw12]; exact HR11.out.below ((Below.refl _ _).alloc (Nat.le_refl _) _))
        have HY12 : Hid (KeyC w12 yb y0 y1 y2 y3 y4) := Lib.hid (by rw [hw12]; exact HY11.out.below ((Below.refl _ _).alloc (Nat.le_refl _) _))
        have HW12 : Hid (KeyC w12 wb y0 y1 y2 y3 y4) := Lib.hid (by rw [hw12, hwb]; exact KeyC.new _ _ _ _ _ _ _)
        have HO12 : Hid (kb + 1 < wb ∧ yb < wb ∧ rb < wb) := Lib.hid (by rw [hwb]; exact ⟨H11.out.ll.lt, HY11.out.lt, HR11.out.lt⟩)
        rw [← hw12, ← hwb]
        clear hw12 hwb H11 HR11 HY11 r3 l0 l1 l2 l3 l4
        have r3 := HR12.out.c3
        have hl := H12.out.ll
        have l0 := hl.c0
        have l1 := hl.c1
        have l2 := hl.c2
        have l3 := hl.c3
        have l4 := hl.c4
        clear hl
        go_upto_region 30 with fail
        clear l0 l1 l2 l3 l4
        have ST : Hid (Below w12.heap.size w12 (World.drew w12) ∧ (yb < (World.drew w12).heap.size ∧ (World.drew w12).cell? ⟨yb, 0, none⟩ = some (.int .i64 y0) ∧ (World.drew w12).cell? ⟨yb, 1, none⟩ = some (.int .i64 y1) ∧ (World.drew w12).cell? ⟨yb, 2, none⟩ = some (.int .i64 y2) ∧ (World.drew w12).cell? ⟨yb, 3, none⟩ = some (.int .i64 y3) ∧ (World.drew w12).cell? ⟨yb, 4, none⟩ = some (.int .u32 y4)) ∧ (wb < (World.drew w12).heap.size ∧ (World.drew w12).cell? ⟨wb, 0, none⟩ = some (.int .i64 y0) ∧ (World.drew w12).cell? ⟨wb, 1, none⟩ = some (.int .i64 y1) ∧ (World.drew w12).cell? ⟨wb, 2, none⟩ = some (.int .i64 y2) ∧ (World.drew w12).cell? ⟨wb, 3, none⟩ = some (.int .i64 y3) ∧ (World.drew w12).cell? ⟨wb, 4, none⟩ = some (.int .u32 y4)) ∧ (rb < (World.drew w12).heap.size ∧ (World.drew w12).cell? ⟨rb, 3, none⟩ = some (.int .i64 rv))) := Lib.hid (start30 HY12.out HW12.out HR12.out)
        have HSm : Hid (sameB y0 y1 y2 y3 y4 y0 y1 y2 y3 y4 = true) := Lib.hid (by simp [sameB])
        go_region_held3 (fun w' => Below w12.heap.size w12 w' ∧ (yb < w'.heap.size ∧ w'.cell? ⟨yb, 0, none⟩ = some (.int .i64 y0) ∧ w'.cell? ⟨yb, 1, none⟩ = some (.int .i64 y1) ∧ w'.cell? ⟨yb, 2, none⟩ = some (.int .i64 y2) ∧ w'.cell? ⟨yb, 3, none⟩ = some (.int .i64 y3) ∧ w'.cell? ⟨yb, 4, none⟩ = some (.int .u32 y4)) ∧ (wb < w'.heap.size ∧ w'.cell? ⟨wb, 0, none⟩ = some (.int .i64 y0) ∧ w'.cell? ⟨wb, 1, none⟩ = some (.int .i64 y1) ∧ w'.cell? ⟨wb, 2, none⟩ = some (.int .i64 y2) ∧ w'.cell? ⟨wb, 3, none⟩ = some (.int .i64 y3) ∧ w'.cell? ⟨wb, 4, none⟩ = some (.int .u32 y4)) ∧ (rb < w'.heap.size ∧ w'.cell? ⟨rb, 3, none⟩ = some (.int .i64 rv))) (first | exact ST.out | exact keep30 (by assumption) hb | assumption)
          (first | (go_at_call 24; (with_reducible refine (same_is y0 y1 y2 y3 y4 y0 y1 y2 y3 y4 true HSm _).mono ?_); rintro e w' ⟨rfl, hb⟩))
        have hS : Below w12.heap.size w12 w' ∧ (yb < w'.heap.size ∧ w'.cell? ⟨yb, 0, none⟩ = some (.int .i64 y0) ∧ w'.cell? ⟨yb, 1, none⟩ = some (.int .i64 y1) ∧ w'.cell? ⟨yb, 2, none⟩ = some (.int .i64 y2) ∧ w'.cell? ⟨yb, 3, none⟩ = some (.int .i64 y3) ∧ w'.cell? ⟨yb, 4, none⟩ = some (.int .u32 y4)) ∧ (wb < w'.heap.size ∧ w'.cell? ⟨wb, 0, none⟩ = some (.int .i64 y0) ∧ w'.cell? ⟨wb, 1, none⟩ = some (.int .i64 y1) ∧ w'.cell? ⟨wb, 2, none⟩ = some (.int .i64 y2) ∧ w'.cell? ⟨wb, 3, none⟩ = some (.int .i64 y3) ∧ w'.cell? ⟨wb, 4, none⟩ = some (.int .u32 y4)) ∧ (rb < w'.heap.size ∧ w'.cell? ⟨rb, 3, none⟩ = some (.int .i64 rv)) := by assumption
        obtain ⟨hB, -⟩ := hS
        have H15 := Lib.hid (H12.out.below hB)
        have HR15 := Lib.hid (HR12.out.below hB)
        have s0 := H15.out.sv.st.s0
        have hA := H15.out.at_
        have g0 : Hid (updV W 0 (j * 5) (k5 0 0 0 0 0) 0 (j * 5) = .int .i64 0) := Lib.hid hA.1
        have g1 : Hid (updV W 0 (j * 5) (k5 0 0 0 0 0) 0 (j * 5 + 1) = .int .i64 0) := Lib.hid hA.2.1
        have g2 : Hid (updV W 0 (j * 5) (k5 0 0 0 0 0) 0 (j * 5 + 2) = .int .i64 0) := Lib.hid hA.2.2.1
        have g3 : Hid (updV W 0 (j * 5) (k5 0 0 0 0 0) 0 (j * 5 + 3) = .int .i64 0) := Lib.hid hA.2.2.2.1
        have g4 : Hid (updV W 0 (j * 5) (k5 0 0 0 0 0) 0 (j * 5 + 4) = .int .u32 0) := Lib.hid hA.2.2.2.2
        clear hA
        clear hB H12 HR12 HY12 HW12 ST r3
        go_upto_region 33 with (first
          | (go_at_call 40; (with_reducible refine (nget_at (n := a.n) (W := updV W 0 (j * 5) (k5 0 0 0 0 0)) (th := upd (fun _ => false) 0 true) 0 j 0 j (Lib.hid rfl) (Lib.hid rfl) (by have := H15.out.nn; omega) hj (Lib.hid rfl) 0 0 0 0 0 g0 g1 g2 g3 g4 _ H15.out.sv.st.nd).mono ?_); rintro e w16 ⟨rfl, hb⟩; have H16 := Lib.hid (H15.out.below hb); have HR16 := Lib.hid (HR15.out.below hb); clear hb s0))
        obtain ⟨w17, hw17⟩ : ∃ w17, w17 = w16.alloc (.cells #[.int .i64 0, .int .i64 0, .int .i64 0, .int .i64 0, .int .u32 0] 25) := ⟨_, rfl⟩
        obtain ⟨zb, hzb⟩ : ∃ zb, zb = w16.heap.size := ⟨_, rfl⟩
        have H17 : Hid (SwSt w w17 S a b (updV W 0 (j * 5) (k5 0 0 0 0 0)) j kb (kb + 1) 0 0 0 0 0 y0 y1 y2 y3 y4) := Lib.hid (by rw [hw17]; exact H16.out.below ((Below.refl _ _).alloc (Nat.le_refl _) _))
        have HR17 : Hid (KeyC w17 rb 2 0 0 rv 2) := Lib.hid (by rw [hw17]; exact HR16.out.below ((Below.refl _ _).alloc (Nat.le_refl _) _))
        have HZ17 : Hid (KeyC w17 zb 0 0 0 0 0) := Lib.hid (by rw [hw17, hzb]; exact KeyC.new _ _ _ _ _ _ _)
        rw [← hw17, ← hzb]
        clear hw17 hzb H15 H16 HR15 HR16
        have ST2 : Hid (Below w17.heap.size w17 (World.drew w17) ∧ (zb < (World.drew w17).heap.size ∧ (World.drew w17).cell? ⟨zb, 0, none⟩ = some (.int .i64 0) ∧ (World.drew w17).cell? ⟨zb, 1, none⟩ = some (.int .i64 0) ∧ (World.drew w17).cell? ⟨zb, 2, none⟩ = some (.int .i64 0) ∧ (World.drew w17).cell? ⟨zb, 3, none⟩ = some (.int .i64 0) ∧ (World.drew w17).cell? ⟨zb, 4, none⟩ = some (.int .u32 0)) ∧ (kb + 1 < (World.drew w17).heap.size ∧ (World.drew w17).cell? ⟨kb + 1, 0, none⟩ = some (.int .i64 y0) ∧ (World.drew w17).cell? ⟨kb + 1, 1, none⟩ = some (.int .i64 y1) ∧ (World.drew w17).cell? ⟨kb + 1, 2, none⟩ = some (.int .i64 y2) ∧ (World.drew w17).cell? ⟨kb + 1, 3, none⟩ = some (.int .i64 y3) ∧ (World.drew w17).cell? ⟨kb + 1, 4, none⟩ = some (.int .u32 y4)) ∧ (rb < (World.drew w17).heap.size ∧ (World.drew w17).cell? ⟨rb, 3, none⟩ = some (.int .i64 rv))) := Lib.hid (start30 HZ17.out H17.out.ll HR17.out)
        obtain ⟨tt, htt⟩ : ∃ tt, sameB 0 0 0 0 0 y0 y1 y2 y3 y4 = tt := ⟨_, rfl⟩
        have HSa := Lib.hid htt
        have HSb : Hid (sameB y0 y1 y2 y3 y4 0 0 0 0 0 = tt) := Lib.hid (by rw [← htt]; unfold sameB; rw [beq_eq_comm' y0, beq_eq_comm' y1, beq_eq_comm' y2, beq_eq_comm' y3, beq_eq_comm' y4])
        clear htt
        cases tt
        all_goals
          go_region_held3 (fun w' => Below w17.heap.size w17 w' ∧ (zb < w'.heap.size ∧ w'.cell? ⟨zb, 0, none⟩ = some (.int .i64 0) ∧ w'.cell? ⟨zb, 1, none⟩ = some (.int .i64 0) ∧ w'.cell? ⟨zb, 2, none⟩ = some (.int .i64 0) ∧ w'.cell? ⟨zb, 3, none⟩ = some (.int .i64 0) ∧ w'.cell? ⟨zb, 4, none⟩ = some (.int .u32 0)) ∧ (kb + 1 < w'.heap.size ∧ w'.cell? ⟨kb + 1, 0, none⟩ = some (.int .i64 y0) ∧ w'.cell? ⟨kb + 1, 1, none⟩ = some (.int .i64 y1) ∧ w'.cell? ⟨kb + 1, 2, none⟩ = some (.int .i64 y2) ∧ w'.cell? ⟨kb + 1, 3, none⟩ = some (.int .i64 y3) ∧ w'.cell? ⟨kb + 1, 4, none⟩ = some (.int .u32 y4)) ∧ (rb < w'.heap.size ∧ w'.cell? ⟨rb, 3, none⟩ = some (.int .i64 rv))) (first | exact ST2.out | exact keep30 (by assumption) hb | assumption)
            (first | (go_at_call 24; (with_reducible refine (same_is 0 0 0 0 0 y0 y1 y2 y3 y4 _ HSa _).mono ?_); rintro e w' ⟨rfl, hb⟩) | (go_at_call 24; (with_reducible refine (same_is y0 y1 y2 y3 y4 0 0 0 0 0 _ HSb _).mono ?_); rintro e w' ⟨rfl, hb⟩))
          have hS2 : Below w17.heap.size w17 w' ∧ (zb < w'.heap.size ∧ w'.cell? ⟨zb, 0, none⟩ = some (.int .i64 0) ∧ w'.cell? ⟨zb, 1, none⟩ = some (.int .i64 0) ∧ w'.cell? ⟨zb, 2, none⟩ = some (.int .i64 0) ∧ w'.cell? ⟨zb, 3, none⟩ = some (.int .i64 0) ∧ w'.cell? ⟨zb, 4, none⟩ = some (.int .u32 0)) ∧ (kb + 1 < w'.heap.size ∧ w'.cell? ⟨kb + 1, 0, none⟩ = some (.int .i64 y0) ∧ w'.cell? ⟨kb + 1, 1, none⟩ = some (.int .i64 y1) ∧ w'.cell? ⟨kb + 1, 2, none⟩ = some (.int .i64 y2) ∧ w'.cell? ⟨kb + 1, 3, none⟩ = some (.int .i64 y3) ∧ w'.cell? ⟨kb + 1, 4, none⟩ = some (.int .u32 y4)) ∧ (rb < w'.heap.size ∧ w'.cell? ⟨rb, 3, none⟩ = some (.int .i64 rv)) := by assumption
          obtain ⟨hB2, -⟩ := hS2
          have HB2 := Lib.hid (H17.out.below hB2).sv.bel
          clear hB2
          go_wp2_with fail
          all_goals (go_ret; exact ⟨by simp, HB2.out⟩)
theorem walk_StoreSwaps (a0 : Option Addr) (len0 cap0 : Nat) (z0 : List (List Int)) (a1 : Int) (a2 : Int) (w : World) (w0 : IsRows [.i64, .i64, .i64, .i64, .u32] w a0 len0 cap0 z0) (w1 : (Lit.int .i64 a1).wf = true) (w2 : (Lit.int .i64 a2).wf = true) (hL : laidMetH Tryd.prog Rows.storeSwapsRow.laid w) :
    Calls Tryd.prog 4 #[.slice a0 len0 cap0, .int .i64 a1, .int .i64 a2] w fun e w' => e = .returned (.bool true) ∧ Below w.heap.size w w' := by
  have hS := (sen_of hL (by intro n hn; simp only [List.mem_cons, List.not_mem_nil, or_false] at hn; rcases hn with rfl | rfl | rfl | rfl | rfl | rfl | rfl | rfl | rfl | rfl | rfl | rfl <;> exact ⟨_, by repeat (first | exact List.Mem.head _ | apply List.Mem.tail)⟩))
  clear hL
  by_cases h1 : len0 ≤ 16
  · by_cases h2 : 0 ≤ a1 ∧ a1 < 16
    · exact swaps_in a0 len0 cap0 z0 a1 a1.toNat (by omega) a2 h1 (by omega) w _ hS w0
    · exact swaps_out a0 len0 cap0 a1 a2 (by omega) w _ hS
  · exact swaps_out a0 len0 cap0 a1 a2 (by omega) w _ hS
end Go.Proofs.YtkhgnmgcdgjncaaDoor
