/-
  NdK, St2, St3, Pl, Sy, Sy2, Sy3, Pa, Pa2, Pa3, Pa4, Pa5, Pa6, BitN, Pa7, Pa8, Pa9, PaN, Wy as one.
-/
import Derived.Test.YtjkbfhojjjkgnaaDoorNd4
import Derived.Test.YtjkbfhojjjkgnaaDoorStR
import Derived.StillTailTactics
import Derived.Test.YtjkbfhojjjkgnaaDoorPg2
import Derived.Deep.MidRow
import Derived.Test.YtjkbfhojjjkgnaaDoorNd
import Derived.Test.YtjkbfhojjjkgnaaDoorStG
import Derived.Test.YtjkbfhojjjkgnaaDoorOpen
namespace Go.Proofs.YtjkbfhojjjkgnaaDoor
open Go.ChangeShapes Go.WideShapes Go.ChangeAt Go.RowKit
set_option linter.unusedVariables false
/-- A key lies in a slot. -/
def KAt (f : Nat → Value) (j : Nat) (y0 y1 y2 y3 y4 : Int) : Prop := f (j * 5) = .int .i64 y0 ∧ f (j * 5 + 1) = .int .i64 y1 ∧ f (j * 5 + 2) = .int .i64 y2 ∧ f (j * 5 + 3) = .int .i64 y3 ∧ f (j * 5 + 4) = .int .u32 y4
theorem freshV_q (W : Nat → Nat → Value) (i : Nat) (kk : Nat → Nat → Int) (m j q : Nat) (hj : j < m) (hq : q < 5) : freshV W i (kcs kk m) i (j * 5 + q) = kval q (kk j q) := by
  have h1 := freshV_in W i (kcs kk m) (j * 5 + q) (by rw [kcs_len]; omega)
  rw [kcs_at kk m j q hj hq] at h1
  exact Option.some.inj h1
theorem freshV_key (W : Nat → Nat → Value) (i : Nat) (kk : Nat → Nat → Int) (m j : Nat) (hj : j < m) : KAt (freshV W i (kcs kk m) i) j (kk j 0) (kk j 1) (kk j 2) (kk j 3) (kk j 4) :=
  ⟨freshV_q W i kk m j 0 hj (by decide), freshV_q W i kk m j 1 hj (by decide), freshV_q W i kk m j 2 hj (by decide), freshV_q W i kk m j 3 hj (by decide), freshV_q W i kk m j 4 hj (by decide)⟩
theorem zc_q (j q : Nat) (hq : q < 5) : zc (j * 5 + q) = kval q 0 := by
  have e : (j * 5 + q) % 5 = q := by omega
  unfold zc kval
  rw [e]
theorem freshV_nokey (W : Nat → Nat → Value) (i : Nat) (kk : Nat → Nat → Int) (m j : Nat) (hj : m ≤ j) (h16 : j < 16) : KAt (freshV W i (kcs kk m) i) j 0 0 0 0 0 := by
  have h : ∀ q, q < 5 → freshV W i (kcs kk m) i (j * 5 + q) = kval q 0 := fun q hq => (freshV_out W i _ _ (by rw [kcs_len]; omega) (by omega)).trans (zc_q j q hq)
  exact ⟨h 0 (by decide), h 1 (by decide), h 2 (by decide), h 3 (by decide), h 4 (by decide)⟩
theorem freshV_rest (W : Nat → Nat → Value) (i : Nat) (xs : List Value) (a j : Nat) (h : a ≠ i) {y0 y1 y2 y3 y4 : Int} (hk : KAt (W a) j y0 y1 y2 y3 y4) : KAt (freshV W i xs a) j y0 y1 y2 y3 y4 := by
  unfold KAt at hk ⊢
  simp only [freshV_other W i xs a _ h]
  exact hk
theorem updV_q (W : Nat → Nat → Value) (i s : Nat) (y0 y1 y2 y3 y4 : Int) (q : Nat) (hq : q < 5) : some (updV W i (s * 5) (k5 y0 y1 y2 y3 y4) i (s * 5 + q)) = (k5 y0 y1 y2 y3 y4)[q]? := by
  have hl : (k5 y0 y1 y2 y3 y4).length = 5 := rfl
  unfold updV
  rw [if_pos ⟨rfl, by omega, by rw [hl]; omega⟩, show s * 5 + q - s * 5 = q by omega]
  rcases five q hq with rfl | rfl | rfl | rfl | rfl <;> rfl
theorem updV_key (W : Nat → Nat → Value) (i s : Nat) (y0 y1 y2 y3 y4 : Int) : KAt (updV W i (s * 5) (k5 y0 y1 y2 y3 y4) i) s y0 y1 y2 y3 y4 :=
  ⟨Option.some.inj (updV_q W i s y0 y1 y2 y3 y4 0 (by decide)), Option.some.inj (updV_q W i s y0 y1 y2 y3 y4 1 (by decide)), Option.some.inj (updV_q W i s y0 y1 y2 y3 y4 2 (by decide)), Option.some.inj (updV_q W i s y0 y1 y2 y3 y4 3 (by decide)), Option.some.inj (updV_q W i s y0 y1 y2 y3 y4 4 (by decide))⟩
theorem updV_rest (W : Nat → Nat → Value) (i s a j : Nat) (z0 z1 z2 z3 z4 : Int) (h : ¬ (a = i ∧ j = s)) {y0 y1 y2 y3 y4 : Int} (hk : KAt (W a) j y0 y1 y2 y3 y4) : KAt (updV W i (s * 5) (k5 z0 z1 z2 z3 z4) a) j y0 y1 y2 y3 y4 := by
  have hl : (k5 z0 z1 z2 z3 z4).length = 5 := rfl
  have e : ∀ q, q < 5 → updV W i (s * 5) (k5 z0 z1 z2 z3 z4) a (j * 5 + q) = W a (j * 5 + q) := fun q hq => by
    unfold updV
    rw [if_neg (by rw [hl]; omega)]
  have e0 := e 0 (by decide)
  rw [Nat.add_zero] at e0
  unfold KAt at hk ⊢
  rw [e0, e 1 (by decide), e 2 (by decide), e 3 (by decide), e 4 (by decide)]
  exact hk
theorem KAt.one {f : Nat → Value} (h : ∀ j, j < 16 → ∃ y0 y1 y2 y3 y4, KAt f j y0 y1 y2 y3 y4) : ∀ b, b < 80 → (f b).oneCell' = true := by
  intro b hb
  obtain ⟨y0, y1, y2, y3, y4, h0, h1, h2, h3, h4⟩ := h (b / 5) (by omega)
  have e : b = b / 5 * 5 + b % 5 := by omega
  rcases five (b % 5) (by omega) with hq | hq | hq | hq | hq
  · rw [e, hq, Nat.add_zero, h0]; rfl
  · rw [e, hq, h1]; rfl
  · rw [e, hq, h2]; rfl
  · rw [e, hq, h3]; rfl
  · rw [e, hq, h4]; rfl
end Go.Proofs.YtjkbfhojjjkgnaaDoor
namespace Go.Proofs.YtjkbfhojjjkgnaaDoor
open Go.ChangeShapes Go.WideShapes Go.ChangeAt Go.RowKit
set_option linter.unusedVariables false
/-- A key's cells. -/
structure KeyC (w : World) (b : Nat) (k0 k1 k2 k3 k4 : Int) : Prop where
  lt : b < w.heap.size
  c0 : w.cell? ⟨b, 0, none⟩ = some (.int .i64 k0)
  c1 : w.cell? ⟨b, 1, none⟩ = some (.int .i64 k1)
  c2 : w.cell? ⟨b, 2, none⟩ = some (.int .i64 k2)
  c3 : w.cell? ⟨b, 3, none⟩ = some (.int .i64 k3)
  c4 : w.cell? ⟨b, 4, none⟩ = some (.int .u32 k4)
  fr : ∀ j, w.frozen? ⟨b, j, none⟩ = false
theorem KeyC.below {w w' : World} {b : Nat} {k0 k1 k2 k3 k4 : Int} (h : KeyC w b k0 k1 k2 k3 k4) (hb : Below w.heap.size w w') : KeyC w' b k0 k1 k2 k3 k4 :=
  ⟨Nat.lt_of_lt_of_le h.lt hb.size, (hb.cell (p := ⟨b, 0, none⟩) h.lt).trans h.c0, (hb.cell (p := ⟨b, 1, none⟩) h.lt).trans h.c1, (hb.cell (p := ⟨b, 2, none⟩) h.lt).trans h.c2, (hb.cell (p := ⟨b, 3, none⟩) h.lt).trans h.c3, (hb.cell (p := ⟨b, 4, none⟩) h.lt).trans h.c4, fun j => (hb.frozen (p := ⟨b, j, none⟩) h.lt).trans (h.fr j)⟩
theorem KeyC.new (w : World) (k0 k1 k2 k3 k4 : Int) (T : TypeId) : KeyC (w.alloc (.cells #[.int .i64 k0, .int .i64 k1, .int .i64 k2, .int .i64 k3, .int .u32 k4] T (0, 0))) w.heap.size k0 k1 k2 k3 k4 := ⟨by simp, by simp, by simp, by simp, by simp, by simp, fun j => by simp⟩
theorem KeyC.of {w w' : World} {k0 k1 k2 k3 k4 : Int} {T : TypeId} {o : Obj} (hb : Below ((w.alloc (.cells #[.int .i64 k0, .int .i64 k1, .int .i64 k2, .int .i64 k3, .int .u32 k4] T (0, 0))).alloc o).heap.size ((w.alloc (.cells #[.int .i64 k0, .int .i64 k1, .int .i64 k2, .int .i64 k3, .int .u32 k4] T (0, 0))).alloc o) w') : KeyC w' w.heap.size k0 k1 k2 k3 k4 :=
  (((KeyC.new w k0 k1 k2 k3 k4 T).below ((Below.refl _ _).alloc (Nat.le_refl _) o))).below hb
theorem KeyC.of2 {w w' : World} {k0 k1 k2 k3 k4 : Int} {T : TypeId} {o : Obj} (hb : Below ((w.alloc o).alloc (.cells #[.int .i64 k0, .int .i64 k1, .int .i64 k2, .int .i64 k3, .int .u32 k4] T (0, 0))).heap.size ((w.alloc o).alloc (.cells #[.int .i64 k0, .int .i64 k1, .int .i64 k2, .int .i64 k3, .int .u32 k4] T (0, 0))) w') : KeyC w' (w.heap.size + 1) k0 k1 k2 k3 k4 := by
  have h := (KeyC.new (w.alloc o) k0 k1 k2 k3 k4 T).below hb
  have e : (w.alloc o).heap.size = w.heap.size + 1 := by simp
  rw [e] at h
  exact h
theorem KeyC.set {w : World} {b : Nat} {y0 y1 y2 y3 y4 : Int} (h : KeyC w b y0 y1 y2 y3 y4) (z0 z1 z2 z3 z4 : Int) :
    KeyC (((((w.setCell ⟨b, 0, none⟩ (.int .i64 z0)).setCell ⟨b, 1, none⟩ (.int .i64 z1)).setCell ⟨b, 2, none⟩ (.int .i64 z2)).setCell ⟨b, 3, none⟩ (.int .i64 z3)).setCell ⟨b, 4, none⟩ (.int .u32 z4)) b z0 z1 z2 z3 z4 := by
  have hs : ∀ j, j < (k5 z0 z1 z2 z3 z4).length → (w.cell? ⟨b, 0 + j, none⟩).isSome = true := by
    intro j hj
    have hj' : j = 0 ∨ j = 1 ∨ j = 2 ∨ j = 3 ∨ j = 4 := by simp [k5] at hj; omega
    rw [Nat.zero_add]
    rcases hj' with rfl | rfl | rfl | rfl | rfl
    · rw [h.c0]; rfl
    · rw [h.c1]; rfl
    · rw [h.c2]; rfl
    · rw [h.c3]; rfl
    · rw [h.c4]; rfl
  have all := World.cell?_setCells_in b (k5 z0 z1 z2 z3 z4) 0 w hs
  have hz : (w.setCells b 0 (k5 z0 z1 z2 z3 z4)).heap.size = w.heap.size := by simp [k5, World.setCells]
  exact ⟨Nat.lt_of_lt_of_le h.lt (Nat.le_of_eq hz.symm), all 0 (by simp [k5]), all 1 (by simp [k5]), all 2 (by simp [k5]), all 3 (by simp [k5]), all 4 (by simp [k5]), fun j => (World.frozen?_setCells b (k5 z0 z1 z2 z3 z4) 0 w ⟨b, j, none⟩).trans (h.fr j)⟩
section
variable {w X Y : World} {S P : Nat} {k1 : Int}
theorem fskeep (h : Below w.heap.size w X ∧ World.cell? X ⟨S, 0, none⟩ = some (.pointer (some ⟨P, 0, none⟩)) ∧ World.cell? X ⟨w.heap.size, 1, none⟩ = some (.int .i64 k1)) (hb : Below X.heap.size X Y) : Below w.heap.size w Y ∧ World.cell? Y ⟨S, 0, none⟩ = some (.pointer (some ⟨P, 0, none⟩)) ∧ World.cell? Y ⟨w.heap.size, 1, none⟩ = some (.int .i64 k1) := by
  have l1 : S < X.heap.size := by
    rcases Nat.lt_or_ge S X.heap.size with h' | h'
    · exact h'
    · have := h.2.1; simp [World.cell?, Array.getElem?_eq_none h'] at this
  have l2 : w.heap.size < X.heap.size := by
    rcases Nat.lt_or_ge w.heap.size X.heap.size with h' | h'
    · exact h'
    · have := h.2.2; simp [World.cell?, Array.getElem?_eq_none h'] at this
  exact ⟨h.1.trans (hb.mono h.1.size), (hb.cell (p := ⟨S, 0, none⟩) l1).trans h.2.1, (hb.cell (p := ⟨w.heap.size, 1, none⟩) l2).trans h.2.2⟩
end
end Go.Proofs.YtjkbfhojjjkgnaaDoor
namespace Go.Proofs.YtjkbfhojjjkgnaaDoor
open Go.ChangeShapes Go.WideShapes Go.ChangeAt Go.RowKit
set_option linter.unusedVariables false
theorem PBelow.low {w w' w'' : World} {B G : Nat} (h : PBelow w w' B G) (h2 : Below w.heap.size w' w'') : PBelow w w'' B G :=
  ⟨h2.os.trans h.1, h2.tape.trans h.2.1, h2.output.trans h.2.2.1, Nat.le_trans h.2.2.2.1 h2.size, fun k hk h3 h4 => (h2.block k hk).trans (h.2.2.2.2 k hk h3 h4)⟩
theorem KeyC.pbelow {w w' : World} {b : Nat} {k0 k1 k2 k3 k4 : Int} {B G : Nat} (h : KeyC w b k0 k1 k2 k3 k4) (hb : PBelow w w' B G) (h1 : b ≠ B) (h2 : b ≠ G) : KeyC w' b k0 k1 k2 k3 k4 := by
  have e := hb.2.2.2.2 b h.lt h1 h2
  have c : ∀ j, w'.cell? ⟨b, j, none⟩ = w.cell? ⟨b, j, none⟩ := fun j => World.cell?_of_block (a := ⟨b, j, none⟩) e
  exact ⟨Nat.lt_of_lt_of_le h.lt hb.2.2.2.1, (c 0).trans h.c0, (c 1).trans h.c1, (c 2).trans h.c2, (c 3).trans h.c3, (c 4).trans h.c4, fun j => by have := h.fr j; simp only [World.frozen?] at this ⊢; rw [e]; exact this⟩
section
variable {w w' : World} {k0 k1 k2 k3 k4 x0 x1 x2 x3 x4 z0 z1 z2 z3 z4 : Int} {T : TypeId}
theorem KeyC.three (hb : Below (((w.alloc (.cells #[.int .i64 k0, .int .i64 k1, .int .i64 k2, .int .i64 k3, .int .u32 k4] T (0, 0))).alloc (.cells #[.int .i64 x0, .int .i64 x1, .int .i64 x2, .int .i64 x3, .int .u32 x4] T (0, 0))).alloc (.cells #[.int .i64 z0, .int .i64 z1, .int .i64 z2, .int .i64 z3, .int .u32 z4] T (0, 0))).heap.size (((w.alloc (.cells #[.int .i64 k0, .int .i64 k1, .int .i64 k2, .int .i64 k3, .int .u32 k4] T (0, 0))).alloc (.cells #[.int .i64 x0, .int .i64 x1, .int .i64 x2, .int .i64 x3, .int .u32 x4] T (0, 0))).alloc (.cells #[.int .i64 z0, .int .i64 z1, .int .i64 z2, .int .i64 z3, .int .u32 z4] T (0, 0))) w') :
    KeyC w' w.heap.size k0 k1 k2 k3 k4 ∧ KeyC w' (w.heap.size + 1) x0 x1 x2 x3 x4 ∧ KeyC w' (w.heap.size + 1 + 1) z0 z1 z2 z3 z4 := by
  have a1 := ((KeyC.new w k0 k1 k2 k3 k4 T).below ((Below.refl _ _).alloc (Nat.le_refl _) (.cells #[.int .i64 x0, .int .i64 x1, .int .i64 x2, .int .i64 x3, .int .u32 x4] T (0, 0)))).below ((Below.refl _ _).alloc (Nat.le_refl _) (.cells #[.int .i64 z0, .int .i64 z1, .int .i64 z2, .int .i64 z3, .int .u32 z4] T (0, 0)))
  have a2 := (KeyC.new (w.alloc (.cells #[.int .i64 k0, .int .i64 k1, .int .i64 k2, .int .i64 k3, .int .u32 k4] T (0, 0))) x0 x1 x2 x3 x4 T).below ((Below.refl _ _).alloc (Nat.le_refl _) (.cells #[.int .i64 z0, .int .i64 z1, .int .i64 z2, .int .i64 z3, .int .u32 z4] T (0, 0)))
  have a3 := KeyC.new ((w.alloc (.cells #[.int .i64 k0, .int .i64 k1, .int .i64 k2, .int .i64 k3, .int .u32 k4] T (0, 0))).alloc (.cells #[.int .i64 x0, .int .i64 x1, .int .i64 x2, .int .i64 x3, .int .u32 x4] T (0, 0))) z0 z1 z2 z3 z4 T
  have b1 := a1.below hb
  have b2 := a2.below hb
  have b3 := a3.below hb
  have e2 : (w.alloc (.cells #[.int .i64 k0, .int .i64 k1, .int .i64 k2, .int .i64 k3, .int .u32 k4] T (0, 0))).heap.size = w.heap.size + 1 := by simp
  have e3 : ((w.alloc (.cells #[.int .i64 k0, .int .i64 k1, .int .i64 k2, .int .i64 k3, .int .u32 k4] T (0, 0))).alloc (.cells #[.int .i64 x0, .int .i64 x1, .int .i64 x2, .int .i64 x3, .int .u32 x4] T (0, 0))).heap.size = w.heap.size + 1 + 1 := by simp
  rw [e2] at b2
  rw [e3] at b3
  exact ⟨b1, b2, b3⟩
end
end Go.Proofs.YtjkbfhojjjkgnaaDoor
namespace Go.Proofs.YtjkbfhojjjkgnaaDoor
open Go.ChangeShapes Go.WideShapes Go.ChangeAt Go.RowKit
set_option linter.unusedVariables false
theorem div_mid {s i j : Nat} (hj : j < s) : (i * s + j) / s = i ∧ (i * s + j) % s = j := by
  have h0 : 0 < s := by omega
  constructor
  · rw [Nat.add_comm, Nat.add_mul_div_right _ _ h0, Nat.div_eq_of_lt hj, Nat.zero_add]
  · rw [Nat.add_comm, Nat.add_mul_mod_self_right, Nat.mod_eq_of_lt hj]
theorem mid_lt {s n i j : Nat} (hi : i < n) (hj : j < s) : i * s + j < n * s := by
  have : (i + 1) * s ≤ n * s := Nat.mul_le_mul_right s hi
  rw [Nat.add_mul, Nat.one_mul] at this
  omega
/-- The cells of n places of s cells, one behind the other. -/
def flatS (s : Nat) (W : Nat → Nat → Value) (n : Nat) : List Value := (List.range (n * s)).map fun j => W (j / s) (j % s)
theorem flatS_len (s : Nat) (W : Nat → Nat → Value) (n : Nat) : (flatS s W n).length = n * s := by simp [flatS]
theorem flatS_at (s : Nat) (W : Nat → Nat → Value) (n i j : Nat) (hi : i < n) (hj : j < s) : (flatS s W n)[i * s + j]? = some (W i j) := by
  have h1 := mid_lt hi hj
  simp [flatS, h1, (div_mid (i := i) hj).1, (div_mid (i := i) hj).2]
/-- Some cells of one place anew, from its o-th on. -/
def updS (W : Nat → Nat → Value) (i o : Nat) (xs : List Value) : Nat → Nat → Value := fun a b => if a = i ∧ o ≤ b ∧ b < o + xs.length then xs.getD (b - o) (.int .i64 0) else W a b
theorem updS_other (W : Nat → Nat → Value) (i o : Nat) (xs : List Value) (a b : Nat) (h : ¬ (a = i ∧ o ≤ b ∧ b < o + xs.length)) : updS W i o xs a b = W a b := by unfold updS; rw [if_neg h]
theorem updS_in (W : Nat → Nat → Value) (i o : Nat) (xs : List Value) (q : Nat) (h : q < xs.length) : some (updS W i o xs i (o + q)) = xs[q]? := by
  unfold updS
  rw [if_pos ⟨rfl, by omega, by omega⟩, Nat.add_sub_cancel_left]
  simp [List.getD, h]
theorem flatS_over (s : Nat) (W : Nat → Nat → Value) (n i o : Nat) (xs : List Value) (hi : i < n) (hx : o + xs.length ≤ s) : over (flatS s W n) (i * s + o) xs = flatS s (updS W i o xs) n := by
  have hn : i * s + o + xs.length ≤ n * s := by
    have : (i + 1) * s ≤ n * s := Nat.mul_le_mul_right s hi
    rw [Nat.add_mul, Nat.one_mul] at this
    omega
  apply List.ext_getElem?
  intro j
  rw [over_get _ _ _ _ (by rw [flatS_len]; omega)]
  by_cases hj : j < n * s
  · have hs : 0 < s := by
      rcases Nat.eq_zero_or_pos s with h | h
      · rw [h, Nat.mul_zero] at hj; omega
      · exact h
    have hdm : j = j / s * s + j % s := by rw [Nat.mul_comm]; exact (Nat.div_add_mod j s).symm
    have hml : j % s < s := Nat.mod_lt _ hs
    by_cases h : i * s + o ≤ j ∧ j < i * s + o + xs.length
    · rw [if_pos h]
      have e : j = i * s + (j - i * s) := by omega
      have hl : j - i * s < s := by omega
      have h1 : j / s = i := by rw [e]; exact (div_mid hl).1
      have h2 : j % s = j - i * s := by rw [e, (div_mid hl).2]; omega
      have h3 : j - (i * s + o) < xs.length := by omega
      have h5 : j - i * s - o = j - (i * s + o) := by omega
      simp only [flatS, List.getElem?_map, List.getElem?_range hj, Option.map_some, updS, h1, h2]
      rw [if_pos ⟨trivial, by omega, by omega⟩, h5]
      simp [List.getD, h3]
    · rw [if_neg h]
      have : ¬ (j / s = i ∧ o ≤ j % s ∧ j % s < o + xs.length) := by
        rintro ⟨h1, h2, h3⟩
        rw [h1] at hdm
        omega
      simp only [flatS, List.getElem?_map, List.getElem?_range hj, Option.map_some, updS, if_neg this]
  · rw [if_neg (by omega), List.getElem?_eq_none (by rw [flatS_len]; omega), List.getElem?_eq_none (by rw [flatS_len]; omega)]
theorem flatS_made (z : List Value) (n : Nat) (h0 : 0 < z.length) : (madeCells z.toArray (n * z.length)).toList = flatS z.length (fun _ b => z.getD b (.int .i64 0)) n := by
  apply List.ext_getElem?
  intro j
  by_cases hj : j < n * z.length
  · have h : j % z.length < z.length := Nat.mod_lt _ h0
    have e : (madeCells z.toArray (n * z.length)).toList[j]? = some (z.toArray[j % z.length]!) := by
      simp [madeCells, hj]
    rw [e]
    simp [flatS, hj, h, List.getD]
  · rw [List.getElem?_eq_none (by simp [size_madeCells]; omega), List.getElem?_eq_none (by rw [flatS_len]; omega)]
/-- A pool lies at block P: its arena; its cells at block G. -/
structure PlAt (T : TypeId) (s : Nat) (w : World) (base P p B G n c : Nat) (th : Nat → Bool) (vr : Nat → Int) (W : Nat → Nat → Value) : Prop where
  pl : P < w.heap.size
  pb : base ≤ P
  f0 : w.cell? ⟨P, 0, none⟩ = some (.pointer (some ⟨p, 0, none⟩))
  f1 : w.cell? ⟨P, 1, none⟩ = some (.slice (some ⟨G, 0, none⟩) n n)
  ar : ArAt w base p B n c th vr
  row : w.ownsRow base T s (.slice (some ⟨G, 0, none⟩) n n) n (flatS s W n)
  n1 : P ≠ B
  n2 : P ≠ G
  n3 : G ≠ B
  n4 : G ≠ p
section
variable {T : TypeId} {s : Nat} {w w' : World} {base P p B G n c : Nat} {th th' : Nat → Bool} {vr vr' : Nat → Int} {W W' : Nat → Nat → Value}
theorem PlAt.below (h : PlAt T s w base P p B G n c th vr W) (hb : Below w.heap.size w w') : PlAt T s w' base P p B G n c th vr W :=
  ⟨Nat.lt_of_lt_of_le h.pl hb.size, h.pb, (hb.cell (p := ⟨P, 0, none⟩) h.pl).trans h.f0, (hb.cell (p := ⟨P, 1, none⟩) h.pl).trans h.f1, h.ar.below hb, own_below h.row hb, h.n1, h.n2, h.n3, h.n4⟩
theorem PlAt.turn (h : PlAt T s w base P p B G n c th vr W) (hA : ArAt w' base p B n c th' vr') (hg : w.grownBy w' (some B)) : PlAt T s w' base P p B G n c th' vr' W :=
  ⟨Nat.lt_of_lt_of_le h.pl hg.size, h.pb, (World.cell?_of_block (a := ⟨P, 0, none⟩) (hg.block P h.pl (fun e => h.n1 (by injection e)))).trans h.f0, (World.cell?_of_block (a := ⟨P, 1, none⟩) (hg.block P h.pl (fun e => h.n1 (by injection e)))).trans h.f1, hA, h.row.kept hg (.inr (fun e => h.n3 (by simpa [Value.ownBlock] using e))), h.n1, h.n2, h.n3, h.n4⟩
theorem PlAt.cells (h : PlAt T s w base P p B G n c th vr W) (i o : Nat) (hi : i < n) (xs : List Value) (hx : o + xs.length ≤ s) : PlAt T s (w.setCells G (i * s + o) xs) base P p B G n c th vr (updS W i o xs) ∧ w.grownBy (w.setCells G (i * s + o) xs) (some G) := by
  have hs := own_setCells xs (i * s + o) _ _ h.row
  rw [flatS_over s W n i o xs hi hx] at hs
  exact ⟨⟨Nat.lt_of_lt_of_le h.pl hs.2.size, h.pb, (World.cell?_of_block (a := ⟨P, 0, none⟩) (hs.2.block P h.pl (fun e => h.n2 (by injection e)))).trans h.f0, (World.cell?_of_block (a := ⟨P, 1, none⟩) (hs.2.block P h.pl (fun e => h.n2 (by injection e)))).trans h.f1, h.ar.kept hs.2 (Ne.symm h.n4) (Ne.symm h.n3), hs.1, h.n1, h.n2, h.n3, h.n4⟩, hs.2⟩
theorem PlAt.cell (h : PlAt T s w base P p B G n c th vr W) (i j : Nat) (hi : i < n) (hj : j < s) : w.cell? ⟨G, i * s + j, none⟩ = some (W i j) := by
  rw [h.row.cellAt (i * s + j) (mid_lt hi hj), flatS_at s W n i j hi hj]
theorem PlAt.frz (h : PlAt T s w base P p B G n c th vr W) (j : Nat) : w.frozen? ⟨G, j, none⟩ = false := h.row.frozenAt j
theorem PlAt.gl (h : PlAt T s w base P p B G n c th vr W) : base ≤ G ∧ G < w.heap.size := h.row.lt G rfl
theorem PlAt.there (h : PlAt T s w base P p B G n c th vr W) (i o m : Nat) (hi : i < n) (hm : o + m ≤ s) : w.there G (i * s + o) m := fun j hj => by
  rw [Nat.add_assoc, h.cell i (o + j) hi (by omega)]
  exact ⟨rfl, h.row.frozenAt _⟩
theorem PlAt.range (h : PlAt T s w base P p B G n c th vr W) (i o : Nat) (xs : List Value) (hi : i < n) (hm : o + xs.length ≤ s) (hx : ∀ q v, xs[q]? = some v → W i (o + q) = v) : w.rangeAt G (i * s + o) xs := fun j v hv => by
  have hj : j < xs.length := (List.getElem?_eq_some_iff.1 hv).1
  rw [Nat.add_assoc, h.cell i (o + j) hi (by omega), hx j v hv]
theorem PlAt.congr (h : PlAt T s w base P p B G n c th vr W) (h1 : ∀ i, i < n → th i = th' i) (h2 : ∀ i, i < n → vr i = vr' i) : PlAt T s w base P p B G n c th' vr' W := ⟨h.pl, h.pb, h.f0, h.f1, h.ar.congr h1 h2, h.row, h.n1, h.n2, h.n3, h.n4⟩
/-- Blocks of its own apart, all is as it was: the same pool. -/
theorem PlAt.far (h : PlAt T s w base P p B G n c th vr W) {row : Option Nat} (hg : w.grownBy w' row) (h0 : row ≠ some P) (h1 : row ≠ some p) (h2 : row ≠ some B) (h3 : row ≠ some G) : PlAt T s w' base P p B G n c th vr W := by
  have hP := hg.block P h.pl (Ne.symm h0)
  have hp := hg.block p h.ar.pl (Ne.symm h1)
  exact ⟨Nat.lt_of_lt_of_le h.pl hg.size, h.pb, (World.cell?_of_block (a := ⟨P, 0, none⟩) hP).trans h.f0, (World.cell?_of_block (a := ⟨P, 1, none⟩) hP).trans h.f1,
    ⟨Nat.lt_of_lt_of_le h.ar.pl hg.size, h.ar.pb, (World.cell?_of_block (a := ⟨p, 0, none⟩) hp).trans h.ar.fld, h.ar.own.kept hg (.inr (fun e => h2 (by rw [← e]; rfl))), h.ar.ne, h.ar.le⟩,
    h.row.kept hg (.inr (fun e => h3 (by rw [← e]; rfl))), h.n1, h.n2, h.n3, h.n4⟩
end
end Go.Proofs.YtjkbfhojjjkgnaaDoor
namespace Go.Proofs.YtjkbfhojjjkgnaaDoor
open Go.ChangeShapes Go.WideShapes Go.ChangeAt Go.RowKit
set_option linter.unusedVariables false
/-- A block that is made is a row of one's own. -/
theorem own_box (w : World) (base : Nat) (cs : Array Value) (T : TypeId) (s : Nat) (xs : List Value) (hx : cs.toList = xs) (hs : cs.size = s) (hb : base ≤ w.heap.size) : (w.alloc (.cells cs T (0, 0))).ownsRow base T s (.slice (some ⟨w.heap.size, 0, none⟩) 1 1) 1 xs := by
  refine ⟨by rw [← hx, Array.length_toList, hs, Nat.one_mul], .inr ⟨w.heap.size, 1, cs, rfl, hb, heap_alloc_new _ _, Nat.le_refl _, by unfold maxLen; decide, by rw [hs, Nat.one_mul], ?_⟩⟩
  rw [hx, List.take_of_length_le (by rw [← hx, Array.length_toList, hs, Nat.one_mul]; exact Nat.le_refl _)]
/-- A place. -/
def slW (lv gn : Nat → Bool) (vr ow : Nat → Int) : Nat → Nat → Value := fun i j => if j = 0 then .bool (lv i) else if j = 1 then .bool (gn i) else if j = 2 then .int .i64 (vr i) else .int .i64 (ow i)
theorem infoSlot : (Tryd.prog.info? 140).map (fun i => (i.zero, i.size, i.bytes)) = some (some (.agg #[.bool false, .bool false, .int .i64 0, .int .i64 0]), 4, 24) := by kernel_rfl
theorem slot_at {l : List Value} {a b c d : Value} (hl : l = [a, b, c, d]) (w : World) (T : TypeId) : ∀ j u, l[j]? = some u → (w.alloc (.cells #[a, b, c, d] T (0, 0))).cell? (Addr.add ⟨w.heap.size, 0, none⟩ j) = some u := by
  subst hl
  intro j u hj
  rw [Addr.add_mid, Nat.zero_add]
  simpa using hj
theorem slot_one (x y : Bool) (a b : Int) : ∀ u ∈ [Value.bool x, .bool y, .int .i64 a, .int .i64 b], u.oneCell' = true := by
  intro u hu
  simp at hu
  rcases hu with rfl | rfl | rfl | rfl <;> rfl
theorem flatS_snoc (s : Nat) (h0 : 0 < s) (W : Nat → Nat → Value) (n : Nat) : flatS s W (n + 1) = flatS s W n ++ (List.range s).map (W n) := by
  apply List.ext_getElem?
  intro j
  by_cases hj : j < n * s
  · rw [List.getElem?_append_left (by rw [flatS_len]; exact hj)]
    have h2 : j < (n + 1) * s := by rw [Nat.add_mul, Nat.one_mul]; omega
    simp [flatS, hj, h2]
  · rw [List.getElem?_append_right (by rw [flatS_len]; omega), flatS_len]
    by_cases h2 : j < (n + 1) * s
    · have h3 : j - n * s < s := by rw [Nat.add_mul, Nat.one_mul] at h2; omega
      have e : j = n * s + (j - n * s) := by omega
      have h4 := flatS_at s W (n + 1) n (j - n * s) (by omega) h3
      rw [← e] at h4
      rw [h4]
      simp [h3]
    · rw [List.getElem?_eq_none (by rw [flatS_len]; omega), List.getElem?_eq_none (by rw [Nat.add_mul, Nat.one_mul] at h2; simp; omega)]
set_option maxRecDepth 100000 in
set_option maxHeartbeats 1000000 in
theorem slots_is (x : Int) (n : Nat) (hx : Hid (x = n)) (hn : n ≤ 256) (w : World) :
    Calls Tryd.prog 70 #[.int .i64 x] w fun e w' => ∃ v, e = .returned v ∧ w'.ownsRow w.heap.size 140 4 v n (flatS 4 (slW (fun _ => false) (fun _ => false) (fun _ => 0) (fun _ => -1)) n) ∧ Below w.heap.size w w' := by
  obtain ⟨i0, hi, hz0, hz1, hz2⟩ := info_parts infoSlot
  have HI := Lib.hid (⟨hi, hz0, hz1, hz2⟩ : Tryd.prog.info? 140 = some i0 ∧ i0.zero = some (.agg #[.bool false, .bool false, .int .i64 0, .int .i64 0]) ∧ i0.size = 4 ∧ i0.bytes = 24)
  have e := hx.out
  subst e
  clear hi hz0 hz1 hz2
  go_enter Tryd.func70, Tryd.ntmps70
  go_wp2_with fail
  go_loopw [4, 3] (fun z v wr => ∃ q : Nat, q ≤ n ∧ z = .int .i64 q ∧ wr.ownsRow w.heap.size 140 4 v q (flatS 4 (slW (fun _ => false) (fun _ => false) (fun _ => 0) (fun _ => -1)) q) ∧ Below w.heap.size w wr) (fun z _ _ => n - (intOf z).toNat)
  case atStart => exact ⟨0, by omega, rfl, World.ownsRow_nil _ _ _ _, Below.refl _ _⟩
  case round =>
    obtain ⟨q, hq, rfl, hrow, hb⟩ := hrel
    have HRow := Lib.hid hrow
    have HB := Lib.hid hb
    clear hrow hb
    by_cases hlt : q < n
    · have q0 : (0 : Int) ≤ q := by omega
      have H6 : Hid (q + 1 ≤ maxLen ∧ (q + 1) * 24 ≤ 140737488355328 ∧ ∀ o, w.heap.size ≤ (wr.alloc o).heap.size) := Lib.hid ⟨by unfold maxLen; omega, by omega, fun o => by have := HB.out.size; simp; omega⟩
      go_wp2_with (first
        | (at_builtin; refine wpList_append_own_at _ rfl _ _ 132 rfl w.heap.size 140 i0 (.agg #[.bool false, .bool false, .int .i64 0, .int .i64 0]) 4 24 Tryd.underlying132 HI.out.1 HI.out.2.1 HI.out.2.2.1 HI.out.2.2.2 rfl (by decide) u3 q _ rfl (HRow.out.alloc _) ⟨wr.heap.size, 0, none⟩ 1 1 [.bool false, .bool false, .int .i64 0, .int .i64 (-1)] rfl rfl (slot_at rfl _ _) (slot_one _ _ _ _) H6.out.1 H6.out.2.1 (H6.out.2.2 _) ?_; intro v' w9 hown hgrow hnil hloc; have HOW := Lib.hid hown; have HGR := Lib.hid hgrow; clear hown hgrow hnil hloc))
      go_roundw
      case rel =>
        refine ⟨q + 1, by omega, by go_num, ?_, (HB.out.alloc HB.out.size _).grown HGR.out (H6.out.2.2 _) (fun g hg => (HRow.out.lt g hg).1)⟩
        rw [flatS_snoc 4 (by decide)]
        exact HOW.out
      case measure => simp [intOf]; omega
    · obtain rfl : q = n := by omega
      have hdd : decide (q < q) = false := by simp
      go_wp2_with fail
      go_ret
      exact ⟨_, rfl, HRow.out, HB.out⟩
theorem mk0D (w : World) : (Instr.makeSlice 133 (.int .i64 0) (.int .i64 0)).run Tryd.prog w = .ok (.slice (some ⟨w.heap.size, 0, none⟩) 0 0) (w.alloc (.cells #[] 39)) := by kernel_rfl
theorem mk0M (w : World) : (Instr.makeSlice 134 (.int .i64 0) (.int .i64 0)).run Tryd.prog w = .ok (.slice (some ⟨w.heap.size, 0, none⟩) 0 0) (w.alloc (.cells #[] 230)) := by kernel_rfl
theorem mk0B (w : World) : (Instr.makeSlice 135 (.int .i64 0) (.int .i64 0)).run Tryd.prog w = .ok (.slice (some ⟨w.heap.size, 0, none⟩) 0 0) (w.alloc (.cells #[] 232)) := by kernel_rfl
theorem mk0F (w : World) : (Instr.makeSlice 136 (.int .i64 0) (.int .i64 0)).run Tryd.prog w = .ok (.slice (some ⟨w.heap.size, 0, none⟩) 0 0) (w.alloc (.cells #[] 176)) := by kernel_rfl
theorem flatS_congr' {s n : Nat} {W W' : Nat → Nat → Value} (h0 : 0 < s) (hw : ∀ i j, i < n → j < s → W i j = W' i j) : flatS s W n = flatS s W' n := by
  apply List.ext_getElem?
  intro j
  by_cases hj : j < n * s
  · have h1 : j / s < n := by rw [Nat.div_lt_iff_lt_mul h0]; exact hj
    simp [flatS, hj, hw (j / s) (j % s) h1 (Nat.mod_lt _ h0)]
  · rw [List.getElem?_eq_none (by rw [flatS_len]; omega), List.getElem?_eq_none (by rw [flatS_len]; omega)]
/-- The shape of a system: where it lies; nodes, pages: how many, their places, their cells. -/
structure SyS where
  x : Nat
  n : Nat
  m : Nat
  gN : Nat
  cN : Nat
  gP : Nat
  cP : Nat
  bN : Nat
  bP : Nat
/-- What a system holds: of its nodes' places (there, gone, version, owner), its pages' places, keys, words. -/
structure SyD where
  lN : Nat → Bool
  dN : Nat → Bool
  vN : Nat → Int
  oN : Nat → Int
  lP : Nat → Bool
  dP : Nat → Bool
  vP : Nat → Int
  oP : Nat → Int
  wN : Nat → Nat → Value
  wP : Nat → Nat → Int
def wordsW (f : Nat → Nat → Int) : Nat → Nat → Value := fun i j => .int .u32 (f i j)
structure SyAt (w : World) (base : Nat) (S : SyS) (d : SyD) : Prop where
  xb : base ≤ S.x
  xl : S.x < w.heap.size
  f0 : w.cell? ⟨S.x, 0, none⟩ = some (.slice (some ⟨S.gN, 0, none⟩) S.n S.cN)
  f1 : w.cell? ⟨S.x, 1, none⟩ = some (.slice (some ⟨S.gP, 0, none⟩) S.m S.cP)
  f6 : w.cell? ⟨S.x, 6, none⟩ = some (.slice (some ⟨S.bN, 0, none⟩) S.n S.n)
  f7 : w.cell? ⟨S.x, 7, none⟩ = some (.slice (some ⟨S.bP, 0, none⟩) S.m S.m)
  ns : w.ownsRow base 140 4 (.slice (some ⟨S.gN, 0, none⟩) S.n S.cN) S.n (flatS 4 (slW d.lN d.dN d.vN d.oN) S.n)
  ps : w.ownsRow base 140 4 (.slice (some ⟨S.gP, 0, none⟩) S.m S.cP) S.m (flatS 4 (slW d.lP d.dP d.vP d.oP) S.m)
  nd : w.ownsRow base 28 80 (.slice (some ⟨S.bN, 0, none⟩) S.n S.n) S.n (flatS 80 d.wN S.n)
  pg : w.ownsRow base 114 32 (.slice (some ⟨S.bP, 0, none⟩) S.m S.m) S.m (flatS 32 (wordsW d.wP) S.m)
  ne : S.gN ≠ S.x ∧ S.gP ≠ S.x ∧ S.bN ≠ S.x ∧ S.bP ≠ S.x ∧ S.gN ≠ S.gP ∧ S.gN ≠ S.bN ∧ S.gN ≠ S.bP ∧ S.gP ≠ S.bN ∧ S.gP ≠ S.bP ∧ S.bN ≠ S.bP
section
variable {w w' : World} {base : Nat} {S : SyS} {d : SyD}
theorem SyAt.below (h : SyAt w base S d) (hb : Below w.heap.size w w') : SyAt w' base S d :=
  ⟨h.xb, Nat.lt_of_lt_of_le h.xl hb.size, (hb.cell (p := ⟨S.x, 0, none⟩) h.xl).trans h.f0, (hb.cell (p := ⟨S.x, 1, none⟩) h.xl).trans h.f1, (hb.cell (p := ⟨S.x, 6, none⟩) h.xl).trans h.f6, (hb.cell (p := ⟨S.x, 7, none⟩) h.xl).trans h.f7, own_below h.ns hb, own_below h.ps hb, own_below h.nd hb, own_below h.pg hb, h.ne⟩
theorem own_ne {B E s n g c k : Nat} {xs : List Value} (h : w.ownsRow B E s (.slice (some ⟨g, 0, none⟩) n c) n xs) (hg : w.grownBy w' (some k)) (hne : g ≠ k) : w'.ownsRow B E s (.slice (some ⟨g, 0, none⟩) n c) n xs := h.kept hg (.inr (by simp [Value.ownBlock]; exact hne))
/-- A row apart was written. -/
theorem SyAt.far (h : SyAt w base S d) {k : Nat} (hg : w.grownBy w' (some k)) (h1 : S.x ≠ k ∧ S.gN ≠ k ∧ S.gP ≠ k ∧ S.bN ≠ k ∧ S.bP ≠ k) : SyAt w' base S d := by
  have hx := hg.block S.x h.xl (fun e => h1.1 (by injection e))
  exact ⟨h.xb, Nat.lt_of_lt_of_le h.xl hg.size, (World.cell?_of_block (a := ⟨S.x, 0, none⟩) hx).trans h.f0, (World.cell?_of_block (a := ⟨S.x, 1, none⟩) hx).trans h.f1, (World.cell?_of_block (a := ⟨S.x, 6, none⟩) hx).trans h.f6, (World.cell?_of_block (a := ⟨S.x, 7, none⟩) hx).trans h.f7, own_ne h.ns hg h1.2.1, own_ne h.ps hg h1.2.2.1, own_ne h.nd hg h1.2.2.2.1, own_ne h.pg hg h1.2.2.2.2, h.ne⟩
/-- The pages' places were written. -/
theorem SyAt.slotP (h : SyAt w base S d) (i o : Nat) (hi : i < S.m) (v : Value) (ho : o < 4) (lP dP : Nat → Bool) (vP oP : Nat → Int) (hv : ∀ a b, a < S.m → b < 4 → updS (slW d.lP d.dP d.vP d.oP) i o [v] a b = slW lP dP vP oP a b) :
    SyAt (w.setCell ⟨S.gP, i * 4 + o, none⟩ v) base S { d with lP := lP, dP := dP, vP := vP, oP := oP } ∧ w.grownBy (w.setCell ⟨S.gP, i * 4 + o, none⟩ v) (some S.gP) := by
  have hs := own_setCells [v] (i * 4 + o) _ _ h.ps
  rw [flatS_over 4 _ S.m i o [v] hi (by simp; omega), flatS_congr' (by decide) hv] at hs
  have hx := hs.2.block S.x h.xl (fun e => h.ne.2.1 (by injection e with e; exact e.symm))
  obtain ⟨n1, n2, n3, n4, n5, n6, n7, n8, n9, n10⟩ := h.ne
  exact ⟨⟨h.xb, Nat.lt_of_lt_of_le h.xl hs.2.size, (World.cell?_of_block (a := ⟨S.x, 0, none⟩) hx).trans h.f0, (World.cell?_of_block (a := ⟨S.x, 1, none⟩) hx).trans h.f1, (World.cell?_of_block (a := ⟨S.x, 6, none⟩) hx).trans h.f6, (World.cell?_of_block (a := ⟨S.x, 7, none⟩) hx).trans h.f7, own_ne h.ns hs.2 n5, hs.1, own_ne h.nd hs.2 (Ne.symm n8), own_ne h.pg hs.2 (Ne.symm n9), h.ne⟩, hs.2⟩
/-- A page's words were written. -/
theorem SyAt.words (h : SyAt w base S d) (i o : Nat) (hi : i < S.m) (xs : List Int) (ho : o + xs.length ≤ 32) (wP : Nat → Nat → Int) (hv : ∀ a b, a < S.m → b < 32 → (if a = i ∧ o ≤ b ∧ b < o + xs.length then xs.getD (b - o) 0 else d.wP a b) = wP a b) :
    SyAt (w.setCells S.bP (i * 32 + o) (xs.map (Value.int .u32))) base S { d with wP := wP } ∧ w.grownBy (w.setCells S.bP (i * 32 + o) (xs.map (Value.int .u32))) (some S.bP) := by
  have hs := own_setCells (xs.map (Value.int .u32)) (i * 32 + o) _ _ h.pg
  rw [flatS_over 32 _ S.m i o _ hi (by simpa using ho), flatS_congr' (by decide) (W' := wordsW wP) (fun a b ha hb => by
    have h1 := hv a b ha hb
    unfold wordsW
    rw [← h1]
    unfold updS
    rw [List.length_map]
    by_cases e : a = i ∧ o ≤ b ∧ b < o + xs.length
    · rw [if_pos e, if_pos e]
      have : b - o < xs.length := by omega
      simp [List.getD, this]
    · rw [if_neg e, if_neg e])] at hs
  have hx := hs.2.block S.x h.xl (fun e => h.ne.2.2.2.1 (by injection e with e; exact e.symm))
  obtain ⟨n1, n2, n3, n4, n5, n6, n7, n8, n9, n10⟩ := h.ne
  exact ⟨⟨h.xb, Nat.lt_of_lt_of_le h.xl hs.2.size, (World.cell?_of_block (a := ⟨S.x, 0, none⟩) hx).trans h.f0, (World.cell?_of_block (a := ⟨S.x, 1, none⟩) hx).trans h.f1, (World.cell?_of_block (a := ⟨S.x, 6, none⟩) hx).trans h.f6, (World.cell?_of_block (a := ⟨S.x, 7, none⟩) hx).trans h.f7, own_ne h.ns hs.2 n7, own_ne h.ps hs.2 n9, own_ne h.nd hs.2 n10, hs.1, h.ne⟩, hs.2⟩
theorem SyAt.pslot (h : SyAt w base S d) (i : Nat) (hi : i < S.m) : w.cell? ⟨S.gP, i * 4, none⟩ = some (.bool (d.lP i)) ∧ w.cell? ⟨S.gP, i * 4 + 1, none⟩ = some (.bool (d.dP i)) ∧ w.cell? ⟨S.gP, i * 4 + 2, none⟩ = some (.int .i64 (d.vP i)) := by
  have cell : ∀ q, q < 4 → w.cell? ⟨S.gP, i * 4 + q, none⟩ = some (slW d.lP d.dP d.vP d.oP i q) := fun q hq => by rw [h.ps.cellAt (i * 4 + q) (mid_lt hi hq), flatS_at 4 _ S.m i q hi hq]
  exact ⟨cell 0 (by decide), cell 1 (by decide), cell 2 (by decide)⟩
theorem SyAt.nslot (h : SyAt w base S d) (i : Nat) (hi : i < S.n) : w.cell? ⟨S.gN, i * 4, none⟩ = some (.bool (d.lN i)) ∧ w.cell? ⟨S.gN, i * 4 + 1, none⟩ = some (.bool (d.dN i)) ∧ w.cell? ⟨S.gN, i * 4 + 2, none⟩ = some (.int .i64 (d.vN i)) := by
  have cell : ∀ q, q < 4 → w.cell? ⟨S.gN, i * 4 + q, none⟩ = some (slW d.lN d.dN d.vN d.oN i q) := fun q hq => by rw [h.ns.cellAt (i * 4 + q) (mid_lt hi hq), flatS_at 4 _ S.n i q hi hq]
  exact ⟨cell 0 (by decide), cell 1 (by decide), cell 2 (by decide)⟩
theorem SyAt.pword (h : SyAt w base S d) (i j : Nat) (hi : i < S.m) (hj : j < 32) : w.cell? ⟨S.bP, i * 32 + j, none⟩ = some (.int .u32 (d.wP i j)) := by
  rw [h.pg.cellAt (i * 32 + j) (mid_lt hi hj), flatS_at 32 _ S.m i j hi hj]
  rfl
end
end Go.Proofs.YtjkbfhojjjkgnaaDoor
namespace Go.Proofs.YtjkbfhojjjkgnaaDoor
open Go.ChangeShapes Go.WideShapes Go.ChangeAt Go.RowKit
set_option linter.unusedVariables false
theorem own_shape' {w : World} {B E s n : Nat} {v : Value} {xs : List Value} (h : w.ownsRow B E s v n xs) : ∃ a c, v = .slice a n c := by
  rcases h.2 with ⟨rfl, rfl⟩ | ⟨g, cap, cur, rfl, _⟩
  · exact ⟨_, _, rfl⟩
  · exact ⟨_, _, rfl⟩
theorem own_some' {w : World} {B E s n : Nat} {v : Value} {xs : List Value} (h : w.ownsRow B E s v n xs) (hn : 0 < n) : ∃ g c, v = .slice (some ⟨g, 0, none⟩) n c := by
  rcases h.2 with ⟨rfl, rfl⟩ | ⟨g, cap, cur, rfl, _⟩
  · omega
  · exact ⟨_, _, rfl⟩
theorem own_base {w : World} {B B' E s n : Nat} {v : Value} {xs : List Value} (h : w.ownsRow B E s v n xs) (hB : B' ≤ B) : w.ownsRow B' E s v n xs := by
  refine ⟨h.1, ?_⟩
  rcases h.2 with hn | ⟨g1, cap, cur, e, hg, rest⟩
  · exact .inl hn
  · exact .inr ⟨g1, cap, cur, e, Nat.le_trans hB hg, rest⟩
theorem info_some {P : Program} {T : TypeId} (h : ((P.info? T).bind (·.zero)).isSome = true) : ∃ i z, P.info? T = some i ∧ i.zero = some z := by
  cases hi : P.info? T with
  | none => rw [hi] at h; cases h
  | some i =>
    rw [hi] at h
    cases hz : i.zero with
    | none => simp [hz] at h
    | some z => exact ⟨i, z, rfl, hz⟩
theorem grown_any {w w' : World} {g : Nat} (h : w.grownBy w' none) : w.grownBy w' (some g) := ⟨h.os, h.tape, h.output, h.size, fun k hk _ => h.block k hk (by simp)⟩
theorem grown_chain {a b c : World} {g : Nat} (h : a.grownBy b (some g)) (h2 : b.grownBy c (some g)) : a.grownBy c (some g) :=
  ⟨h2.os.trans h.os, h2.tape.trans h.tape, h2.output.trans h.output, Nat.le_trans h.size h2.size, fun k hk hne => (h2.block k (Nat.lt_of_lt_of_le hk h.size) hne).trans (h.block k hk hne)⟩
theorem grown_set1 (v : World) (b j : Nat) (u : Value) : v.grownBy (v.setCell ⟨b, j, none⟩ u) (some b) := ⟨rfl, rfl, rfl, by simp, fun k hk hne => Below.heap_setCell _ _ _ _ (fun e => hne (by simpa using e))⟩
/-- The box of a system that is being made: what was set, and nothing else since. -/
structure SyBx (w6 w : World) (x : Nat) : Prop where
  bel : Below w6.heap.size w6 w
  xe : x = w6.heap.size
  own : ∃ fs, w.ownsRow w6.heap.size 138 16 (.slice (some ⟨x, 0, none⟩) 1 1) 1 fs
section
variable {w6 w w' : World} {x : Nat}
theorem SyBx.next (h : SyBx w6 w x) (j : Nat) (u : Value) (hg : (w.setCell ⟨x, j, none⟩ u).grownBy w' none) : SyBx w6 w' x := by
  obtain ⟨fs, ho⟩ := h.own
  have hx := h.xe
  have hs := ho.stored j u
  exact ⟨(h.bel.grown hs.2 h.bel.size (fun k hk => by injection hk with e; omega)).grown hg (Nat.le_trans h.bel.size hs.2.size) (fun k hk => by cases hk), hx, ⟨_, hs.1.kept hg (.inr (by simp [Value.ownBlock]))⟩⟩
theorem SyBx.cell (h : SyBx w6 w x) (j : Nat) (hj : j < 16) : (∃ v, w.cell? ⟨x, j, none⟩ = some v) ∧ w.frozen? ⟨x, j, none⟩ = false := by
  obtain ⟨fs, ho⟩ := h.own
  refine ⟨?_, ho.frozenAt j⟩
  rw [ho.cellAt j (by omega)]
  have : j < fs.length := by have := ho.1; omega
  exact ⟨_, List.getElem?_eq_getElem this⟩
end
theorem SyBx.lt {w6 w : World} {x : Nat} (h : SyBx w6 w x) : x < w.heap.size := by
  obtain ⟨fs, ho⟩ := h.own
  exact (ho.lt x rfl).2
theorem SyBx.grow {w6 w w' : World} {x : Nat} (h : SyBx w6 w x) (hg : w.grownBy w' none) : SyBx w6 w' x := by
  obtain ⟨fs, ho⟩ := h.own
  exact ⟨h.bel.grown hg h.bel.size (fun k hk => by cases hk), h.xe, ⟨_, ho.kept hg (.inr (by simp [Value.ownBlock]))⟩⟩
def C4 (w : World) (x : Nat) (v0 v1 v6 v7 : Value) : Prop := w.cell? ⟨x, 0, none⟩ = some v0 ∧ w.cell? ⟨x, 1, none⟩ = some v1 ∧ w.cell? ⟨x, 6, none⟩ = some v6 ∧ w.cell? ⟨x, 7, none⟩ = some v7
theorem SyBx.past {w6 w w' : World} {x j k : Nat} {v u : Value} (h : SyBx w6 w x) (hne : j ≠ k) (hv : w.cell? ⟨x, j, none⟩ = some v) (hg : (w.setCell ⟨x, k, none⟩ u).grownBy w' none) : w'.cell? ⟨x, j, none⟩ = some v := by
  have hb := hg.block x (by have := h.lt; simpa using this) (by simp)
  rw [World.cell?_of_block (a := ⟨x, j, none⟩) hb, World.cell?_setCell_other _ _ _ _ (by intro e; injection e with _ e2; exact hne (by omega)), hv]
theorem SyBx.same {w6 w w' : World} {x k : Nat} {u : Value} (h : SyBx w6 w x) (hk : k < 16) (hg : (w.setCell ⟨x, k, none⟩ u).grownBy w' none) : w'.cell? ⟨x, k, none⟩ = some u := by
  have hb := hg.block x (by have := h.lt; simpa using this) (by simp)
  obtain ⟨⟨v, hv⟩, _⟩ := h.cell k hk
  rw [World.cell?_of_block (a := ⟨x, k, none⟩) hb]
  exact World.cell?_setCell_same _ _ _ hv
theorem C4.next {w6 w w' : World} {x k : Nat} {v0 v1 v6 v7 u : Value} (hT : C4 w x v0 v1 v6 v7) (h : SyBx w6 w x) (hk : 8 ≤ k) (hg : (w.setCell ⟨x, k, none⟩ u).grownBy w' none) : C4 w' x v0 v1 v6 v7 :=
  ⟨h.past (by omega) hT.1 hg, h.past (by omega) hT.2.1 hg, h.past (by omega) hT.2.2.1 hg, h.past (by omega) hT.2.2.2 hg⟩
theorem grown_none (w : World) : w.grownBy w none := ⟨rfl, rfl, rfl, Nat.le_refl _, fun _ _ _ => rfl⟩
set_option maxRecDepth 100000 in
set_option maxHeartbeats 4000000 in
theorem sysnew_is (a0 a1 : Int) (n m : Nat) (hn : Hid (a0 = n ∧ a1 = m)) (n1 : 1 ≤ n) (n2 : n ≤ 256) (m1 : 1 ≤ m) (m2 : m ≤ 256) (w : World) :
    Calls Tryd.prog 49 #[.int .i64 a0, .int .i64 a1, .int .i64 0, .int .i64 0, .int .i64 0, .int .i64 0] w fun e w' => ∃ S : SyS, e = .returned (.pointer (some ⟨S.x, 0, none⟩)) ∧ SyAt w' w.heap.size S ⟨fun _ => false, fun _ => false, fun _ => 0, fun _ => -1, fun _ => false, fun _ => false, fun _ => 0, fun _ => -1, fun _ b => zc b, fun _ _ => 0⟩ ∧ Hid (S.n = n ∧ S.m = m) ∧ Below w.heap.size w w' := by
  obtain ⟨e1, e2⟩ := hn.out
  subst e1 e2
  obtain ⟨i0, hi, hz0, hz1, hz2⟩ := info_parts infoSlots
  have HI := Lib.hid (⟨hi, hz0, hz1, hz2⟩ : Tryd.prog.info? 28 = some i0 ∧ i0.zero = some (.agg zs80.toArray) ∧ i0.size = 80 ∧ i0.bytes = 640)
  clear hi hz0 hz1 hz2
  obtain ⟨i1, hi, hz0, hz1, hz2⟩ := info_parts infoSheet
  have HJ := Lib.hid (⟨hi, hz0, hz1, hz2⟩ : Tryd.prog.info? 114 = some i1 ∧ i1.zero = some (.agg (Array.replicate 32 (.int .u32 0))) ∧ i1.size = 32 ∧ i1.bytes = 128)
  clear hi hz0 hz1 hz2
  go_enter Tryd.func49, Tryd.ntmps49
  obtain ⟨iD, zzD, hiD⟩ := info_some (P := Tryd.prog) (T := 39) (by kernel_rfl)
  have HDm := Lib.hid hiD
  clear hiD
  obtain ⟨iM, zzM, hiM⟩ := info_some (P := Tryd.prog) (T := 230) (by kernel_rfl)
  have HMm := Lib.hid hiM
  clear hiM
  obtain ⟨iB, zzB, hiB⟩ := info_some (P := Tryd.prog) (T := 232) (by kernel_rfl)
  have HBm := Lib.hid hiB
  clear hiB
  obtain ⟨iF, zzF, hiF⟩ := info_some (P := Tryd.prog) (T := 176) (by kernel_rfl)
  have HFm := Lib.hid hiF
  clear hiF
  go_upto_region 2 with (first
    | (go_at_call 70; (with_reducible refine (slots_is (n : Int) n (Lib.hid rfl) n2 _).mono ?_); rintro e w1 ⟨v1, rfl, hr, hb⟩; obtain ⟨gN, cN, rfl⟩ := own_some' hr (by omega); have HR1 := Lib.hid hr; have HB1 := Lib.hid hb; clear hr hb)
    | (go_at_call 70; (with_reducible refine (slots_is (m : Int) m (Lib.hid rfl) m2 _).mono ?_); rintro e w2 ⟨v2, rfl, hr, hb⟩; obtain ⟨gP, cP, rfl⟩ := own_some' hr (by omega); have HR2 := Lib.hid hr; have HB2 := Lib.hid hb; have HZ2 : Hid (Below w2.heap.size w2 w2) := Lib.hid (Below.refl _ _); clear hr hb)
    | (go_at_call 70; (with_reducible refine (slots_is 0 0 (Lib.hid rfl) (Nat.zero_le _) w2).mono ?_); rintro e w3 ⟨v, rfl, hr, hb⟩; obtain ⟨a3, c3, rfl⟩ := own_shape' hr; have HZ3 := Lib.hid (HZ2.out.trans (hb.mono HZ2.out.size)); clear hr hb)
    | (go_at_call 70; (with_reducible refine (slots_is 0 0 (Lib.hid rfl) (Nat.zero_le _) w3).mono ?_); rintro e w4 ⟨v, rfl, hr, hb⟩; obtain ⟨a4, c4, rfl⟩ := own_shape' hr; have HZ4 := Lib.hid (HZ3.out.trans (hb.mono HZ3.out.size)); clear hr hb)
    | (go_at_call 70; (with_reducible refine (slots_is 0 0 (Lib.hid rfl) (Nat.zero_le _) w4).mono ?_); rintro e w5 ⟨v, rfl, hr, hb⟩; obtain ⟨a5, c5, rfl⟩ := own_shape' hr; have HZ5 := Lib.hid (HZ4.out.trans (hb.mono HZ4.out.size)); clear hr hb)
    | (go_at_call 70; (with_reducible refine (slots_is 0 0 (Lib.hid rfl) (Nat.zero_le _) w5).mono ?_); rintro e w6 ⟨v, rfl, hr, hb⟩; obtain ⟨a6, c6, rfl⟩ := own_shape' hr; have HZ6 := Lib.hid (HZ5.out.trans (hb.mono HZ5.out.size)); clear hr hb))
  obtain ⟨w7, hw7⟩ : ∃ w7, w7 = w6.alloc (.cells #[.slice (some ⟨gN, 0, none⟩) n cN, .slice (some ⟨gP, 0, none⟩) m cP, .slice a3 0 c3, .slice a4 0 c4, .slice a5 0 c5, .slice a6 0 c6, .slice none 0 0, .slice none 0 0, .slice none 0 0, .slice none 0 0, .slice none 0 0, .slice none 0 0, .slice none 0 0, .slice none 0 0, .slice none 0 0, .int .i64 0] 138 (0, 0)) := ⟨_, rfl⟩
  have HX7 : Hid (SyBx w6 w7 w6.heap.size) := Lib.hid (by
    rw [hw7]
    exact ⟨(Below.refl _ _).alloc (Nat.le_refl _) _, rfl, ⟨_, own_box w6 _ _ _ 16 _ rfl rfl (Nat.le_refl _)⟩⟩)
  have HC7 : Hid (w7.cell? ⟨w6.heap.size, 0, none⟩ = some (.slice (some ⟨gN, 0, none⟩) n cN) ∧ w7.cell? ⟨w6.heap.size, 1, none⟩ = some (.slice (some ⟨gP, 0, none⟩) m cP)) := Lib.hid (by rw [hw7]; exact ⟨by simp, by simp⟩)
  have HL7 : Hid (w.heap.size ≤ w7.heap.size ∧ w6.heap.size ≤ w7.heap.size) := Lib.hid (by
    have h1 := HB1.out.size
    have h2 := HB2.out.size
    have h3 := HZ6.out.size
    have h7 := HX7.out.bel.size
    omega)
  have Hb80 : Hid (i0.bytes * n ≤ 281474976710656) := Lib.hid (by rw [HI.out.2.2.2]; omega)
  have Hb32 : Hid (i1.bytes * m ≤ 281474976710656) := Lib.hid (by rw [HJ.out.2.2.2]; omega)
  have HLn : Hid (n ≤ maxLen ∧ m ≤ maxLen) := Lib.hid (by unfold maxLen; omega)
  rw [← hw7]
  clear hw7
  go_wp2_with (first
    | (at_make; refine wpList_make_full _ rfl _ _ 127 rfl w.heap.size 28 i0 (.agg zs80.toArray) 80 Tryd.underlying127 HI.out.1 HI.out.2.1 HI.out.2.2.1 .i64 .i64 _ _ n rfl rfl rfl rfl Hb80.out HLn.out.1 HL7.out.1 ?_; intro w8 hown hgrow; have HN8 : Hid (w8.ownsRow w.heap.size 28 80 (.slice (some ⟨w7.heap.size, 0, none⟩) n n) n (flatS 80 (fun _ b => zc b) n)) := Lib.hid (by rw [show flatS 80 (fun _ b => zc b) n = flatV (fun _ b => zc b) n from rfl, ← flatV_made]; exact hown); have HX8 := Lib.hid (HX7.out.grow hgrow); have G78 := Lib.hid (grown_any (g := w6.heap.size) hgrow); have G78b : Hid (w8.heap[w6.heap.size]? = w7.heap[w6.heap.size]?) := Lib.hid (hgrow.block w6.heap.size HX7.out.lt (by simp)); obtain ⟨⟨u6, u6_⟩, z6⟩ := HX8.out.cell 6 (by decide); clear hown hgrow)
    | (at_make; refine wpList_make_full _ rfl _ _ 116 rfl w.heap.size 114 i1 (.agg (Array.replicate 32 (.int .u32 0))) 32 Tryd.underlying116 HJ.out.1 HJ.out.2.1 HJ.out.2.2.1 .i64 .i64 _ _ m rfl rfl rfl rfl Hb32.out HLn.out.2 (Nat.le_trans HL7.out.1 (Nat.le_trans G78.out.size (by simp))) ?_))
  intro w9 hown hgrow
  have e9 : (w8.setCell ⟨w6.heap.size, 6, none⟩ (.slice (some ⟨w7.heap.size, 0, none⟩) n n)).heap.size = w8.heap.size := by simp
  have HP9 : Hid (w9.ownsRow w.heap.size 114 32 (.slice (some ⟨w8.heap.size, 0, none⟩) m m) m (flatS 32 (wordsW fun _ _ => 0) m)) := Lib.hid (by rw [show flatS 32 (wordsW fun _ _ => 0) m = flat (fun _ _ => 0) m from rfl, ← flat_made]; exact hown)
  have HX9 := Lib.hid (HX8.out.next 6 _ hgrow)
  have G89 := Lib.hid (grown_chain (grown_set1 w8 w6.heap.size 6 (.slice (some ⟨w7.heap.size, 0, none⟩) n n)) (grown_any hgrow))
  have G99 : Hid (w9.grownBy w9 (some w6.heap.size)) := Lib.hid ⟨rfl, rfl, rfl, Nat.le_refl _, fun _ _ _ => rfl⟩
  have HC8 : Hid (w8.cell? ⟨w6.heap.size, 0, none⟩ = some (.slice (some ⟨gN, 0, none⟩) n cN) ∧ w8.cell? ⟨w6.heap.size, 1, none⟩ = some (.slice (some ⟨gP, 0, none⟩) m cP)) := Lib.hid (by
    exact ⟨(World.cell?_of_block (a := ⟨w6.heap.size, 0, none⟩) G78b.out).trans HC7.out.1, (World.cell?_of_block (a := ⟨w6.heap.size, 1, none⟩) G78b.out).trans HC7.out.2⟩)
  have S9 : Hid (w9.cell? ⟨w6.heap.size, 0, none⟩ = some (.slice (some ⟨gN, 0, none⟩) n cN) ∧ w9.cell? ⟨w6.heap.size, 1, none⟩ = some (.slice (some ⟨gP, 0, none⟩) m cP) ∧ w9.cell? ⟨w6.heap.size, 6, none⟩ = some (.slice (some ⟨w7.heap.size, 0, none⟩) n n)) := Lib.hid ⟨HX8.out.past (by decide) HC8.out.1 hgrow, HX8.out.past (by decide) HC8.out.2 hgrow, HX8.out.same (by decide) hgrow⟩
  obtain ⟨⟨u7, c7'⟩, z7⟩ := HX9.out.cell 7 (by decide)
  clear hown hgrow e9
  go_wp2_with (first
    | (at_make; refine wpList_make_full _ rfl _ _ 133 rfl 0 39 iD zzD iD.size Tryd.underlying133 HDm.out.1 HDm.out.2 rfl .i64 .i64 _ _ 0 rfl rfl rfl rfl (by rw [Nat.mul_zero]; exact Nat.zero_le _) (Nat.zero_le _) (Nat.zero_le _) ?_; intro w10 hown hgrow; have HX10 := Lib.hid (HX9.out.next 7 _ hgrow); have G910 := Lib.hid (grown_chain G99.out (grown_chain (grown_set1 _ w6.heap.size 7 _) (grown_any hgrow))); have T10 : Hid (C4 w10 w6.heap.size _ _ _ _) := Lib.hid ⟨HX9.out.past (by decide) S9.out.1 hgrow, HX9.out.past (by decide) S9.out.2.1 hgrow, HX9.out.past (by decide) S9.out.2.2 hgrow, HX9.out.same (by decide) hgrow⟩; obtain ⟨⟨u8, c8⟩, z8⟩ := HX10.out.cell 8 (by decide); clear hown hgrow)
    | (at_make; refine wpList_make_full _ rfl _ _ 134 rfl 0 230 iM zzM iM.size Tryd.underlying134 HMm.out.1 HMm.out.2 rfl .i64 .i64 _ _ 0 rfl rfl rfl rfl (by rw [Nat.mul_zero]; exact Nat.zero_le _) (Nat.zero_le _) (Nat.zero_le _) ?_; intro w11 hown hgrow; have HX11 := Lib.hid (HX10.out.next 8 _ hgrow); have G911 := Lib.hid (grown_chain G910.out (grown_chain (grown_set1 _ w6.heap.size 8 _) (grown_any hgrow))); have T11 := Lib.hid (T10.out.next HX10.out (by decide) hgrow); obtain ⟨⟨u9, c9⟩, z9⟩ := HX11.out.cell 9 (by decide); clear hown hgrow)
    | (at_make; refine wpList_make_full _ rfl _ _ 135 rfl 0 232 iB zzB iB.size Tryd.underlying135 HBm.out.1 HBm.out.2 rfl .i64 .i64 _ _ 0 rfl rfl rfl rfl (by rw [Nat.mul_zero]; exact Nat.zero_le _) (Nat.zero_le _) (Nat.zero_le _) ?_; intro w12 hown hgrow; have HX12 := Lib.hid (HX11.out.next 9 _ hgrow); have G912 := Lib.hid (grown_chain G911.out (grown_chain (grown_set1 _ w6.heap.size 9 _) (grown_any hgrow))); have T12 := Lib.hid (T11.out.next HX11.out (by decide) hgrow); obtain ⟨⟨u10, c10⟩, z10⟩ := HX12.out.cell 10 (by decide); clear hown hgrow)
    | (at_make; refine wpList_make_full _ rfl _ _ 136 rfl 0 176 iF zzF iF.size Tryd.underlying136 HFm.out.1 HFm.out.2 rfl .i64 .i64 _ _ 0 rfl rfl rfl rfl (by rw [Nat.mul_zero]; exact Nat.zero_le _) (Nat.zero_le _) (Nat.zero_le _) ?_; intro w13 hown hgrow; have HX13 := Lib.hid (HX12.out.next 10 _ hgrow); have G913 := Lib.hid (grown_chain G912.out (grown_chain (grown_set1 _ w6.heap.size 10 _) (grown_any hgrow))); have T13 := Lib.hid (T12.out.next HX12.out (by decide) hgrow); obtain ⟨⟨u11, c11⟩, z11⟩ := HX13.out.cell 11 (by decide); clear hown hgrow))
  go_ret
  have hlast := grown_none (w13.setCell ⟨w6.heap.size, 11, none⟩ (.slice (some ⟨w12.heap.size, 0, none⟩) 0 0))
  have T14 := T13.out.next HX13.out (by decide) hlast
  have HX14 := HX13.out.next 11 _ hlast
  have G914 := grown_chain G913.out (grown_set1 w13 w6.heap.size 11 (.slice (some ⟨w12.heap.size, 0, none⟩) 0 0))
  have b1 := HB1.out.size
  have b2 := HB2.out.size
  have b6 := HZ6.out.size
  have x8 := HX8.out.lt
  have l1 := HR1.out.lt gN rfl
  have l2 := HR2.out.lt gP rfl
  have l3 := (HN8.out.lt w7.heap.size rfl)
  have l4 := (HP9.out.lt w8.heap.size rfl)
  have x7 := HX7.out.lt
  have hNS := own_below (own_below (own_below HR1.out HB2.out) (HZ6.out.mono (Nat.le_refl _))) HX14.bel
  have hPS := own_below (own_below HR2.out HZ6.out) HX14.bel
  have hND := own_ne HN8.out (grown_chain G89.out G914) (by omega)
  have hPG := own_ne HP9.out G914 (by omega)
  refine ⟨⟨w6.heap.size, n, m, gN, cN, gP, cP, w7.heap.size, w8.heap.size⟩, rfl, ⟨by show w.heap.size ≤ w6.heap.size; omega, HX14.lt, T14.1, T14.2.1, T14.2.2.1, T14.2.2.2, hNS, own_base hPS (by omega), hND, hPG, ?_⟩, Lib.hid ⟨rfl, rfl⟩, ?_⟩
  · simp only
    refine ⟨by omega, by omega, by omega, by omega, by omega, by omega, by omega, by omega, by omega, by omega⟩
  · exact (HB1.out.trans (HB2.out.mono b1)).trans ((HZ6.out.trans (HX14.bel.mono b6)).mono (by omega))
end Go.Proofs.YtjkbfhojjjkgnaaDoor
namespace Go.Proofs.YtjkbfhojjjkgnaaDoor
open Go.ChangeShapes Go.WideShapes Go.ChangeAt Go.RowKit
set_option linter.unusedVariables false
theorem small_is (a0 a1 : Int) (n m : Nat) (hn : Hid (a0 = n ∧ a1 = m)) (n1 : 1 ≤ n) (n2 : n ≤ 256) (m1 : 1 ≤ m) (m2 : m ≤ 256) (w : World) :
    Calls Tryd.prog 31 #[.int .i64 a0, .int .i64 a1] w fun e w' => ∃ S : SyS, e = .returned (.pointer (some ⟨S.x, 0, none⟩)) ∧ SyAt w' w.heap.size S ⟨fun _ => false, fun _ => false, fun _ => 0, fun _ => -1, fun _ => false, fun _ => false, fun _ => 0, fun _ => -1, fun _ b => zc b, fun _ _ => 0⟩ ∧ Hid (S.n = n ∧ S.m = m) ∧ Below w.heap.size w w' := by
  go_enter Tryd.func31, Tryd.ntmps31
  go_wp2_with (first
    | (go_at_call 49; (with_reducible refine (sysnew_is a0 a1 n m hn n1 n2 m1 m2 _).mono ?_); rintro e w1 ⟨S, rfl, hs, hz, hb⟩; have HSy := Lib.hid hs; have HB := Lib.hid hb; clear hs hb))
  go_ret
  exact ⟨S, rfl, HSy.out, hz, HB.out⟩
/-- The first place that is neither there nor gone. -/
theorem take_is {base g n c : Nat} {lv gn : Nat → Bool} {vr ow : Nat → Int} (j : Nat) (hj : j < n) (hn : n ≤ 256) (hyes : Hid (lv j = false ∧ gn j = false)) (hno : Hid (∀ i, i < j → (!lv i && !gn i) = false)) (w : World) (h : w.ownsRow base 140 4 (.slice (some ⟨g, 0, none⟩) n c) n (flatS 4 (slW lv gn vr ow) n)) :
    Calls Tryd.prog 54 #[.slice (some ⟨g, 0, none⟩) n c] w fun e w' => e = .returned (.int .i64 j) ∧ Below w.heap.size w w' := by
  have H := Lib.hid h
  have cell : ∀ i, i < n → ∀ q, q < 4 → w.cell? ⟨g, i * 4 + q, none⟩ = some (slW lv gn vr ow i q) := fun i hi q hq => by rw [h.cellAt (i * 4 + q) (mid_lt hi hq), flatS_at 4 _ n i q hi hq]
  have HC := Lib.hid cell
  clear h cell
  go_enter Tryd.func54, Tryd.ntmps54
  go_wp2_with fail
  go_loopw [3] (fun z wr => ∃ k : Nat, k ≤ j ∧ z = .int .i64 k ∧ wr = w) (fun z _ => n - (intOf z).toNat)
  case atStart => exact ⟨0, by omega, rfl, rfl⟩
  case round =>
    obtain ⟨k, hk, rfl, rfl⟩ := hrel
    have k0 : (0 : Int) ≤ k := by omega
    have k1 : (k : Int) < n := by omega
    have c0 := HC.out k (by omega) 0 (by decide)
    have c1 := HC.out k (by omega) 1 (by decide)
    simp only [slW, if_true, if_false, Nat.add_zero, Nat.one_ne_zero] at c0 c1
    by_cases hkj : k < j
    · have hno' := hno.out k hkj
      cases hl : lv k with
      | true =>
        rw [hl] at c0
        clear hno' hl
        go_wp2_with fail
        go_roundw
        case rel => exact ⟨k + 1, by omega, by go_num, trivial⟩
        case measure => simp [intOf]; omega
      | false =>
        have hg : gn k = true := by rw [hl] at hno'; simpa using hno'
        rw [hl] at c0
        rw [hg] at c1
        clear hno' hl hg
        go_wp2_with fail
        go_roundw
        case rel => exact ⟨k + 1, by omega, by go_num, trivial⟩
        case measure => simp [intOf]; omega
    · obtain rfl : k = j := by omega
      rw [hyes.out.1] at c0
      rw [hyes.out.2] at c1
      go_wp2_with fail
      go_ret
      exact ⟨rfl, Below.refl _ _⟩
theorem sthere_in {base g n c : Nat} {lv gn : Nat → Bool} {vr ow : Nat → Int} (k : Nat) (hk : k < n) (t : Bool) (ht : Hid (lv k = t)) (w : World) (h : w.ownsRow base 140 4 (.slice (some ⟨g, 0, none⟩) n c) n (flatS 4 (slW lv gn vr ow) n)) :
    Calls Tryd.prog 76 #[.slice (some ⟨g, 0, none⟩) n c, .int .i64 k] w fun e w' => e = .returned (.bool t) ∧ w = w' := by
  have c0 : w.cell? ⟨g, k * 4, none⟩ = some (.bool (lv k)) := by
    have := h.cellAt (k * 4 + 0) (mid_lt hk (by decide))
    rw [flatS_at 4 _ n k 0 hk (by decide)] at this
    exact this
  rw [ht.out] at c0
  have k0 : (0 : Int) ≤ k := by omega
  have k1 : (k : Int) < n := by omega
  clear h
  go_enter Tryd.func76, Tryd.ntmps76
  go_wp2_with fail
  go_ret
  exact ⟨rfl, rfl⟩
set_option maxRecDepth 100000 in
theorem skey_in {base g n c : Nat} {lv gn : Nat → Bool} {vr ow : Nat → Int} (kd : Int) (k : Nat) (hk : k < n) (ht : Hid (lv k = true)) (v : Int) (hv : Hid (vr k = v)) (w : World) (h : w.ownsRow base 140 4 (.slice (some ⟨g, 0, none⟩) n c) n (flatS 4 (slW lv gn vr ow) n)) :
    Calls Tryd.prog 56 #[.int .i64 kd, .slice (some ⟨g, 0, none⟩) n c, .int .i64 k] w fun e w' => e = .returned (.agg #[.int .i64 kd, .int .i64 k, .int .i64 v, .int .i64 0, .int .u32 0]) ∧ Below w.heap.size w w' := by
  have hg := (h.lt g rfl).2
  have c2 : w.cell? ⟨g, k * 4 + 2, none⟩ = some (.int .i64 (vr k)) := by
    have := h.cellAt (k * 4 + 2) (mid_lt hk (by decide))
    rw [flatS_at 4 _ n k 2 hk (by decide)] at this
    exact this
  rw [hv.out] at c2
  have c2' : ∀ o, (w.alloc o).cell? ⟨g, k * 4 + 2, none⟩ = some (.int .i64 v) := fun o => (World.cell?_alloc_lt w o ⟨g, k * 4 + 2, none⟩ hg).trans c2
  have k0 : (0 : Int) ≤ k := by omega
  have k1 : (k : Int) < n := by omega
  have H := Lib.hid h
  clear h c2 hg
  go_enter Tryd.func56, Tryd.ntmps56
  go_wp2_with (first
    | (go_at_call 76; (with_reducible refine (sthere_in k hk true ht _ (H.out.alloc _)).mono ?_); rintro e w1 ⟨rfl, rfl⟩))
  refine bodyPost_ret (v := .agg #[.int .i64 kd, .int .i64 (k : Int), .int .i64 v, .int .i64 0, .int .u32 0]) (by simp [results, Tryd.results56, go_sem]) rfl ⟨rfl, ?_⟩
  exact (Below.refl _ _).alloc (Nat.le_refl _) _
set_option maxRecDepth 100000 in
theorem syskey_page {base : Nat} {S : SyS} {d : SyD} (k : Nat) (hk : k < S.m) (ht : Hid (d.lP k = true)) (v : Int) (hv : Hid (d.vP k = v)) (w : World) (h : SyAt w base S d) :
    Calls Tryd.prog 37 #[.pointer (some ⟨S.x, 0, none⟩), .int .i64 3, .int .i64 k] w fun e w' => e = .returned (.agg #[.int .i64 3, .int .i64 k, .int .i64 v, .int .i64 0, .int .u32 0]) ∧ Below w.heap.size w w' := by
  have H := Lib.hid (fun o => h.below ((Below.refl _ _).alloc (Nat.le_refl _) _ : Below w.heap.size w (w.alloc o)))
  have f1 : ∀ o, (w.alloc o).cell? ⟨S.x, 1, none⟩ = some (.slice (some ⟨S.gP, 0, none⟩) S.m S.cP) := fun o => (H.out o).f1
  clear h
  go_enter Tryd.func37, Tryd.ntmps37
  go_wp2_with (first
    | (go_at_call 56; (with_reducible refine (skey_in 3 k hk ht v hv _ (H.out _).ps).mono ?_); rintro e w1 ⟨rfl, hb⟩; have HB := Lib.hid (Below.trans ((Below.refl _ _).alloc (Nat.le_refl _) _) (hb.mono (by simp))); have hc := fun b o (hb0 : b < _) => hb.cell (p := ⟨b, o, none⟩) hb0; have hf := fun b o (hb0 : b < _) => hb.frozen (p := ⟨b, o, none⟩) hb0; clear hb))
  refine bodyPost_ret (v := .agg #[.int .i64 3, .int .i64 (k : Int), .int .i64 v, .int .i64 0, .int .u32 0]) (by simp [results, Tryd.results37, go_sem, hc]) rfl ⟨rfl, ?_⟩
  exact ((((HB.out.setCell (Nat.le_refl _) _).setCell (Nat.le_refl _) _).setCell (Nat.le_refl _) _).setCell (Nat.le_refl _) _).setCell (Nat.le_refl _) _
theorem zw_list : ((#[Value.int .u32 0, Value.int .u32 0, Value.int .u32 0, Value.int .u32 0, Value.int .u32 0, Value.int .u32 0, Value.int .u32 0, Value.int .u32 0, Value.int .u32 0, Value.int .u32 0, Value.int .u32 0, Value.int .u32 0, Value.int .u32 0, Value.int .u32 0, Value.int .u32 0, Value.int .u32 0, Value.int .u32 0, Value.int .u32 0, Value.int .u32 0, Value.int .u32 0, Value.int .u32 0, Value.int .u32 0, Value.int .u32 0, Value.int .u32 0, Value.int .u32 0, Value.int .u32 0, Value.int .u32 0, Value.int .u32 0, Value.int .u32 0, Value.int .u32 0, Value.int .u32 0, Value.int .u32 0] : Array Value)).toList = (List.replicate 32 (0 : Int)).map (Value.int .u32) := by kernel_rfl
theorem zw_one : ((#[Value.int .u32 0, Value.int .u32 0, Value.int .u32 0, Value.int .u32 0, Value.int .u32 0, Value.int .u32 0, Value.int .u32 0, Value.int .u32 0, Value.int .u32 0, Value.int .u32 0, Value.int .u32 0, Value.int .u32 0, Value.int .u32 0, Value.int .u32 0, Value.int .u32 0, Value.int .u32 0, Value.int .u32 0, Value.int .u32 0, Value.int .u32 0, Value.int .u32 0, Value.int .u32 0, Value.int .u32 0, Value.int .u32 0, Value.int .u32 0, Value.int .u32 0, Value.int .u32 0, Value.int .u32 0, Value.int .u32 0, Value.int .u32 0, Value.int .u32 0, Value.int .u32 0, Value.int .u32 0] : Array Value)).all (·.oneCell') = true := by kernel_rfl
theorem infoZW : (Tryd.prog.info? 114).map (·.size) = some ((#[Value.int .u32 0, Value.int .u32 0, Value.int .u32 0, Value.int .u32 0, Value.int .u32 0, Value.int .u32 0, Value.int .u32 0, Value.int .u32 0, Value.int .u32 0, Value.int .u32 0, Value.int .u32 0, Value.int .u32 0, Value.int .u32 0, Value.int .u32 0, Value.int .u32 0, Value.int .u32 0, Value.int .u32 0, Value.int .u32 0, Value.int .u32 0, Value.int .u32 0, Value.int .u32 0, Value.int .u32 0, Value.int .u32 0, Value.int .u32 0, Value.int .u32 0, Value.int .u32 0, Value.int .u32 0, Value.int .u32 0, Value.int .u32 0, Value.int .u32 0, Value.int .u32 0, Value.int .u32 0] : Array Value)).size := by kernel_rfl
/-- A page with its first k of two words. -/
def pg2 (W : Nat → Nat → Int) (j : Nat) (x y : Int) (k : Nat) : Nat → Nat → Int := fun a b => if a = j then (if b = 0 ∧ 0 < k then x else if b = 1 ∧ 1 < k then y else 0) else W a b
theorem pg2_zero (W : Nat → Nat → Int) (j : Nat) (x y : Int) (a b : Nat) (hb : b < 32) : (if a = j ∧ 0 ≤ b ∧ b < 0 + (List.replicate 32 (0 : Int)).length then (List.replicate 32 (0 : Int)).getD (b - 0) 0 else W a b) = pg2 W j x y 0 a b := by
  unfold pg2
  rw [List.length_replicate]
  by_cases e : a = j
  · rw [if_pos ⟨e, Nat.zero_le _, by omega⟩, if_pos e, if_neg (by omega), if_neg (by omega), List.getD_eq_getElem?_getD, List.getElem?_replicate]
    split <;> rfl
  · rw [if_neg (fun h => e h.1), if_neg e]
theorem pg2_one (W : Nat → Nat → Int) (j : Nat) (x y : Int) (a b : Nat) : (if a = j ∧ 0 ≤ b ∧ b < 0 + [x].length then [x].getD (b - 0) 0 else pg2 W j x y 0 a b) = pg2 W j x y 1 a b := by
  unfold pg2
  have hl : [x].length = 1 := rfl
  rw [hl]
  by_cases e : a = j
  · by_cases h0 : b = 0
    · subst h0
      rw [if_pos ⟨e, Nat.le_refl _, by omega⟩, if_pos e, if_pos ⟨rfl, by decide⟩]
      rfl
    · rw [if_neg (by omega), if_pos e, if_neg (by omega), if_neg (by omega), if_pos e, if_neg (by omega), if_neg (by omega)]
  · rw [if_neg (fun h => e h.1), if_neg e, if_neg e]
theorem pg2_two (W : Nat → Nat → Int) (j : Nat) (x y : Int) (a b : Nat) : (if a = j ∧ 1 ≤ b ∧ b < 1 + [y].length then [y].getD (b - 1) 0 else pg2 W j x y 1 a b) = pg2 W j x y 2 a b := by
  unfold pg2
  have hl : [y].length = 1 := rfl
  rw [hl]
  by_cases e : a = j
  · by_cases h1 : b = 1
    · subst h1
      rw [if_pos ⟨e, Nat.le_refl _, by omega⟩, if_pos e, if_neg (by omega), if_pos ⟨rfl, by decide⟩]
      rfl
    · rw [if_neg (by omega), if_pos e, if_pos e]
      by_cases h0 : b = 0
      · rw [if_pos ⟨h0, by decide⟩, if_pos ⟨h0, by decide⟩]
      · rw [if_neg (fun h => h0 h.1), if_neg (by omega), if_neg (fun h => h0 h.1), if_neg (fun h => h1 h.1)]
  · rw [if_neg (fun h => e h.1), if_neg e, if_neg e]
theorem slW_live (lv gn : Nat → Bool) (vr ow : Nat → Int) (j : Nat) (t : Bool) (a b : Nat) : updS (slW lv gn vr ow) j 0 [.bool t] a b = slW (upd lv j t) gn vr ow a b := by
  by_cases h : a = j ∧ b = 0
  · obtain ⟨rfl, rfl⟩ := h
    simp [updS, slW, upd]
  · rw [updS_other _ _ _ _ _ _ (by simp; omega)]
    unfold slW
    by_cases hb : b = 0
    · rw [if_pos hb, if_pos hb, upd_other _ _ _ _ (fun e => h ⟨e, hb⟩)]
    · rw [if_neg hb, if_neg hb]
theorem SyAt.there {w : World} {base : Nat} {S : SyS} {d : SyD} (h : SyAt w base S d) (i : Nat) (hi : i < S.m) : w.there S.bP (i * 32) 32 := fun j hj => by
  rw [h.pword i j hi hj]
  exact ⟨rfl, h.pg.frozenAt _⟩
set_option maxRecDepth 100000 in
set_option maxHeartbeats 4000000 in
theorem smakepage2 {base : Nat} {S : SyS} {d : SyD} (x y : Int) (b j : Nat) (hj : j < S.m) (hm : S.m ≤ 256) (hyes : Hid (d.lP j = false ∧ d.dP j = false)) (hno : Hid (∀ i, i < j → (!d.lP i && !d.dP i) = false)) (w : World) (h : SyAt w base S d) (hb : b < w.heap.size) (hne : b ≠ S.gP ∧ b ≠ S.bP) (c0 : w.cell? ⟨b, 0, none⟩ = some (.int .u32 x)) (c1 : w.cell? ⟨b, 1, none⟩ = some (.int .u32 y)) :
    Calls Tryd.prog 35 #[.pointer (some ⟨S.x, 0, none⟩), .slice (some ⟨b, 0, none⟩) 2 2] w fun e w' => e = .returned (.tuple #[.int .i64 j, .int .i64 0]) ∧ SyAt w' base S { d with lP := upd d.lP j true, wP := pg2 d.wP j x y 2 } ∧ PBelow w w' S.gP S.bP := by
  have H := Lib.hid h
  have HBk := Lib.hid (⟨hb, hne.1, hne.2, c0, c1⟩ : b < w.heap.size ∧ b ≠ S.gP ∧ b ≠ S.bP ∧ w.cell? ⟨b, 0, none⟩ = some (.int .u32 x) ∧ w.cell? ⟨b, 1, none⟩ = some (.int .u32 y))
  have f1 := h.f1
  have j0 : (0 : Int) ≤ j := by omega
  have j1 : (j : Int) < S.m := by omega
  have dj : decide ((j : Int) < 0) = false := decide_eq_false (by omega)
  clear h hb hne c0 c1
  go_enter Tryd.func35, Tryd.ntmps35
  go_wp2_with (first
    | (go_at_call 54; (with_reducible refine (take_is j hj hm hyes hno _ H.out.ps).mono ?_); rintro e w1 ⟨rfl, hb⟩; have H1 := Lib.hid (H.out.below hb); have P1 := Lib.hid (PBelow.of_below (B := S.gP) (G := S.bP) hb); have g1 := H1.out.f1; have l1 := (H1.out.pslot j hj).1; have y1 := H1.out.ps.frozenAt (j * 4); have hs2 := H1.out.slotP j 0 hj (.bool true) (by decide) (upd d.lP j true) d.dP d.vP d.oP (fun a b _ _ => slW_live _ _ _ _ j true a b); rw [Nat.add_zero] at hs2; have H2 := Lib.hid hs2.1; have P2 := Lib.hid (P1.out.trans (PBelow.of (G := S.bP) hs2.2 (.inl rfl))); have g7 := H2.out.f7; have HTh := Lib.hid (H2.out.there j hj); clear hb f1 hs2)
    | (refine wpList_store_mid (by rfl) _ _ _ (by rfl) S.bP (j * 32) (#[Value.int .u32 0, Value.int .u32 0, Value.int .u32 0, Value.int .u32 0, Value.int .u32 0, Value.int .u32 0, Value.int .u32 0, Value.int .u32 0, Value.int .u32 0, Value.int .u32 0, Value.int .u32 0, Value.int .u32 0, Value.int .u32 0, Value.int .u32 0, Value.int .u32 0, Value.int .u32 0, Value.int .u32 0, Value.int .u32 0, Value.int .u32 0, Value.int .u32 0, Value.int .u32 0, Value.int .u32 0, Value.int .u32 0, Value.int .u32 0, Value.int .u32 0, Value.int .u32 0, Value.int .u32 0, Value.int .u32 0, Value.int .u32 0, Value.int .u32 0, Value.int .u32 0, Value.int .u32 0] : Array Value) (by rfl) (by rfl) HTh.out infoZW zw_one ?_; obtain ⟨w3, hw3⟩ : ∃ w3, w3 = (w1.setCell ⟨S.gP, j * 4, none⟩ (.bool true)).setCells S.bP (j * 32) ((#[Value.int .u32 0, Value.int .u32 0, Value.int .u32 0, Value.int .u32 0, Value.int .u32 0, Value.int .u32 0, Value.int .u32 0, Value.int .u32 0, Value.int .u32 0, Value.int .u32 0, Value.int .u32 0, Value.int .u32 0, Value.int .u32 0, Value.int .u32 0, Value.int .u32 0, Value.int .u32 0, Value.int .u32 0, Value.int .u32 0, Value.int .u32 0, Value.int .u32 0, Value.int .u32 0, Value.int .u32 0, Value.int .u32 0, Value.int .u32 0, Value.int .u32 0, Value.int .u32 0, Value.int .u32 0, Value.int .u32 0, Value.int .u32 0, Value.int .u32 0, Value.int .u32 0, Value.int .u32 0] : Array Value)).toList := ⟨_, rfl⟩; rw [← hw3]; have hs3 := H2.out.words j 0 hj (List.replicate 32 0) (by simp) (pg2 d.wP j x y 0) (fun a b _ hb => pg2_zero _ _ _ _ a b hb); rw [Nat.add_zero, ← zw_list, ← hw3] at hs3; have H3 := Lib.hid hs3.1; have P3 := Lib.hid (P2.out.trans (PBelow.of (B := S.gP) hs3.2 (.inr rfl))); clear hw3 hs3))
  go_loopw [7] (fun z wr => ∃ k : Nat, k ≤ 2 ∧ z = .int .i64 k ∧ SyAt wr base S { d with lP := upd d.lP j true, wP := pg2 d.wP j x y k } ∧ PBelow w wr S.gP S.bP) (fun z _ => 2 - (intOf z).toNat)
  case atStart => exact ⟨0, by omega, rfl, H3.out, P3.out⟩
  case round =>
    obtain ⟨k, hk, rfl, hs, hp⟩ := hrel
    have H4 := Lib.hid hs
    have P4 := Lib.hid hp
    have hbk := hp.2.2.2.2 b HBk.out.1 HBk.out.2.1 HBk.out.2.2.1
    have b0 := (World.cell?_of_block (a := ⟨b, 0, none⟩) hbk).trans HBk.out.2.2.2.1
    have b1 := (World.cell?_of_block (a := ⟨b, 1, none⟩) hbk).trans HBk.out.2.2.2.2
    have f7 := H4.out.f7
    clear hs hp hbk H3 P3
    have k3 : k = 0 ∨ k = 1 ∨ k = 2 := by omega
    rcases k3 with rfl | rfl | rfl
    · have c0 := H4.out.pword j 0 hj (by decide)
      have z0 := H4.out.pg.frozenAt (j * 32)
      rw [Nat.add_zero] at c0
      have hs5 := H4.out.words j 0 hj [x] (by simp) (pg2 d.wP j x y 1) (fun a b _ _ => pg2_one _ _ _ _ a b)
      rw [Nat.add_zero] at hs5
      have H5 := Lib.hid hs5.1
      have P5 := Lib.hid (P4.out.trans (PBelow.of (B := S.gP) hs5.2 (.inr rfl)))
      clear hs5 b1
      go_wp2_with fail
      go_still_tail 12, (by kernel_rfl)
      change wpList _ _ _ _ _ wr.drew
      go_wp2_with fail
      go_roundw
      case rel => exact ⟨1, by omega, rfl, H5.out.below ((Below.refl _ _).drew), P5.out.trans (PBelow.of_below ((Below.refl _ _).drew))⟩
      case measure => simp [intOf]
    · have c1 := H4.out.pword j 1 hj (by decide)
      have z1 := H4.out.pg.frozenAt (j * 32 + 1)
      have hs5 := H4.out.words j 1 hj [y] (by simp) (pg2 d.wP j x y 2) (fun a b _ _ => pg2_two _ _ _ _ a b)
      have H5 := Lib.hid hs5.1
      have P5 := Lib.hid (P4.out.trans (PBelow.of (B := S.gP) hs5.2 (.inr rfl)))
      clear hs5 b0
      go_wp2_with fail
      go_still_tail 12, (by kernel_rfl)
      change wpList _ _ _ _ _ wr.drew
      go_wp2_with fail
      go_roundw
      case rel => exact ⟨2, by omega, rfl, H5.out.below ((Below.refl _ _).drew), P5.out.trans (PBelow.of_below ((Below.refl _ _).drew))⟩
      case measure => simp [intOf]
    · go_wp2_with fail
      go_ret2
      exact ⟨rfl, H4.out, P4.out⟩
end Go.Proofs.YtjkbfhojjjkgnaaDoor
namespace Go.Proofs.YtjkbfhojjjkgnaaDoor
open Go.ChangeShapes Go.WideShapes Go.ChangeAt Go.RowKit
set_option linter.unusedVariables false
theorem pbel_box {w1 w2 : World} {B G : Nat} {b : Nat} (h : PBelow w1 w2 B G) (hb : b < w1.heap.size) (h1 : b ≠ B) (h2 : b ≠ G) : (∀ o, w2.cell? ⟨b, o, none⟩ = w1.cell? ⟨b, o, none⟩) ∧ ∀ o, w2.frozen? ⟨b, o, none⟩ = w1.frozen? ⟨b, o, none⟩ := by
  have e := h.2.2.2.2 b hb h1 h2
  exact ⟨fun o => World.cell?_of_block (a := ⟨b, o, none⟩) e, fun o => World.frozen?_of_block (a := ⟨b, o, none⟩) e⟩
theorem pbel_set5 {w w1 : World} {B G : Nat} (h : PBelow w w1 B G) (b : Nat) (hb : w.heap.size ≤ b) (z0 z1 z2 z3 z4 : Value) : PBelow w (((((w1.setCell ⟨b, 0, none⟩ z0).setCell ⟨b, 1, none⟩ z1).setCell ⟨b, 2, none⟩ z2).setCell ⟨b, 3, none⟩ z3).setCell ⟨b, 4, none⟩ z4) B G := by
  have hg : ∀ (v : World) (j : Nat) (u : Value), PBelow w v B G → PBelow w (v.setCell ⟨b, j, none⟩ u) B G := fun v j u hv => by
    refine ⟨hv.1, hv.2.1, hv.2.2.1, by simpa using hv.2.2.2.1, fun k hk h1 h2 => ?_⟩
    rw [Below.heap_setCell _ _ _ _ (by simp; omega)]
    exact hv.2.2.2.2 k hk h1 h2
  exact hg _ _ _ (hg _ _ _ (hg _ _ _ (hg _ _ _ (hg _ _ _ h))))
theorem gset5 (w : World) (b i : Nat) (v : Value) : w.grownBy (w.setCell ⟨b, i, none⟩ v) (some b) := ⟨rfl, rfl, rfl, by simp [World.setCell], fun k hk hne => Below.heap_setCell _ _ _ _ (fun e => hne (by rw [show k = b from by simpa using e]))⟩
theorem sy_set5 {w : World} {base : Nat} {S : SyS} {d : SyD} (h : SyAt w base S d) (b : Nat) (hb : S.x ≠ b ∧ S.gN ≠ b ∧ S.gP ≠ b ∧ S.bN ≠ b ∧ S.bP ≠ b) (z0 z1 z2 z3 z4 : Value) : SyAt (((((w.setCell ⟨b, 0, none⟩ z0).setCell ⟨b, 1, none⟩ z1).setCell ⟨b, 2, none⟩ z2).setCell ⟨b, 3, none⟩ z3).setCell ⟨b, 4, none⟩ z4) base S d :=
  ((((h.far (gset5 _ _ _ _) hb).far (gset5 _ _ _ _) hb).far (gset5 _ _ _ _) hb).far (gset5 _ _ _ _) hb).far (gset5 _ _ _ _) hb
theorem syskey_at {base : Nat} {S : SyS} {d : SyD} (id : Int) (k : Nat) (hid : Hid (id = k)) (hk : k < S.m) (ht : Hid (d.lP k = true)) (v : Int) (hv : Hid (d.vP k = v)) (w : World) (h : SyAt w base S d) :
    Calls Tryd.prog 37 #[.pointer (some ⟨S.x, 0, none⟩), .int .i64 3, .int .i64 id] w fun e w' => e = .returned (.agg #[.int .i64 3, .int .i64 k, .int .i64 v, .int .i64 0, .int .u32 0]) ∧ Below w.heap.size w w' := by
  have e := hid.out
  subst e
  exact syskey_page k hk ht v hv w h
end Go.Proofs.YtjkbfhojjjkgnaaDoor
namespace Go.Proofs.YtjkbfhojjjkgnaaDoor
open Go.ChangeShapes Go.WideShapes Go.ChangeAt Go.RowKit
set_option linter.unusedVariables false
/-- How many words a key's memory has; 0: none. -/
def szP (k0 k4 : Int) : Int := if k0 = 3 then 32 else if k0 = 2 ∧ 1 ≤ k4 ∧ k4 ≤ 4 then 32 * 16 ^ k4.toNat else 0
def szB (k0 k4 : Int) : Bool := decide (k0 = 3 ∨ (k0 = 2 ∧ 1 ≤ k4 ∧ k4 ≤ 4))
theorem psize_page (k1 k2 k3 k4 : Int) (w : World) :
    Calls Tryd.prog 106 #[.agg #[.int .i64 3, .int .i64 k1, .int .i64 k2, .int .i64 k3, .int .u32 k4]] w fun e w' => e = .returned (.tuple #[.int .u32 32, .bool true]) ∧ Below w.heap.size w w' := by
  go_enter Tryd.func106, Tryd.ntmps106
  go_wp2_with fail
  go_ret2
  exact ⟨rfl, (Below.refl _ _).alloc (Nat.le_refl _) _⟩
theorem psize_other (k0 k1 k2 k3 k4 : Int) (h2 : ¬ k0 = 2) (h3 : ¬ k0 = 3) (w : World) :
    Calls Tryd.prog 106 #[(Value.agg #[.int .i64 k0, .int .i64 k1, .int .i64 k2, .int .i64 k3, .int .u32 k4])] w fun e w' => e = .returned (.tuple #[.int .u32 0, .bool false]) ∧ Below w.heap.size w w' := by
  have d2 : (k0 != 2) = true := by simpa using h2
  have d3 : decide (k0 = 3) = false := decide_eq_false h3
  go_enter Tryd.func106, Tryd.ntmps106
  go_wp2_with fail
  go_ret2
  exact ⟨rfl, (Below.refl _ _).alloc (Nat.le_refl _) _⟩
theorem psize_no (k1 k2 k3 k4 : Int) (h0 : 0 ≤ k4) (h : ¬ (1 ≤ k4 ∧ k4 ≤ 4)) (w : World) :
    Calls Tryd.prog 106 #[.agg #[.int .i64 2, .int .i64 k1, .int .i64 k2, .int .i64 k3, .int .u32 k4]] w fun e w' => e = .returned (.tuple #[.int .u32 0, .bool false]) ∧ Below w.heap.size w w' := by
  by_cases h1 : k4 < 1
  · have d1 : decide (k4 < 1) = true := decide_eq_true h1
    go_enter Tryd.func106, Tryd.ntmps106
    go_wp2_with fail
    go_ret2
    exact ⟨rfl, (Below.refl _ _).alloc (Nat.le_refl _) _⟩
  · have d1 : decide (k4 < 1) = false := decide_eq_false h1
    have d4 : decide (4 < k4) = true := decide_eq_true (by omega)
    go_enter Tryd.func106, Tryd.ntmps106
    go_wp2_with fail
    go_ret2
    exact ⟨rfl, (Below.refl _ _).alloc (Nat.le_refl _) _⟩
theorem p16 (n : Nat) (h : n < 4) : IntKind.u32.wrap ((32 * 16 ^ n : Int) * 16) = 32 * 16 ^ (n + 1) := by
  have : n = 0 ∨ n = 1 ∨ n = 2 ∨ n = 3 := by omega
  rcases this with rfl | rfl | rfl | rfl <;> decide
theorem psize_node (k1 k2 k3 : Int) (n : Nat) (h1 : 1 ≤ n) (h4 : n ≤ 4) (w : World) :
    Calls Tryd.prog 106 #[.agg #[.int .i64 2, .int .i64 k1, .int .i64 k2, .int .i64 k3, .int .u32 n]] w fun e w' => e = .returned (.tuple #[.int .u32 (32 * 16 ^ n), .bool true]) ∧ Below w.heap.size w w' := by
  have n1 : (1 : Int) ≤ n := by omega
  have n4 : (n : Int) ≤ 4 := by omega
  go_enter Tryd.func106, Tryd.ntmps106
  go_wp2_with fail
  go_loopw [23, 4] (fun z s wr => ∃ q : Nat, q ≤ n ∧ z = .int .u32 q ∧ s = .int .u32 (32 * 16 ^ q) ∧ wr = w.alloc (.cells #[.int .i64 2, .int .i64 k1, .int .i64 k2, .int .i64 k3, .int .u32 n] 27)) (fun z _ _ => n - (intOf z).toNat)
  case atStart => exact ⟨0, by omega, rfl, rfl, rfl⟩
  case round =>
    obtain ⟨q, hq, rfl, rfl, rfl⟩ := hrel
    by_cases hlt : q < n
    · have q0 : (0 : Int) ≤ q := by omega
      have q1 : (q : Int) < n := by omega
      have hp := p16 q (by omega)
      generalize hS : (32 * 16 ^ q : Int) = sz at hp
      go_wp2_with fail
      go_roundw
      case rel => exact ⟨q + 1, by omega, by go_num, by rw [← hp], trivial⟩
      case measure => simp [intOf]; omega
    · have hqn : q = n := by omega
      have q1 : ¬ (q : Int) < n := by omega
      go_wp2_with fail
      go_ret2
      exact ⟨rfl, (Below.refl _ _).alloc (Nat.le_refl _) _⟩
theorem psize_at (k0 k1 k2 k3 k4 : Int) (h0 : 0 ≤ k4) (s : Int) (t : Bool) (hs : Hid (szP k0 k4 = s ∧ szB k0 k4 = t)) (w : World) :
    Calls Tryd.prog 106 #[(Value.agg #[.int .i64 k0, .int .i64 k1, .int .i64 k2, .int .i64 k3, .int .u32 k4])] w fun e w' => e = .returned (.tuple #[.int .u32 s, .bool t]) ∧ Below w.heap.size w w' := by
  obtain ⟨e1, e2⟩ := hs.out
  subst e1
  subst e2
  by_cases h3 : k0 = 3
  · subst h3
    exact psize_page k1 k2 k3 k4 w
  · by_cases h2 : k0 = 2
    · subst h2
      by_cases h : 1 ≤ k4 ∧ k4 ≤ 4
      · have := psize_node k1 k2 k3 k4.toNat (by omega) (by omega) w
        rw [show ((k4.toNat : Nat) : Int) = k4 by omega] at this
        have e : szP 2 k4 = 32 * 16 ^ k4.toNat := by simp [szP, h]
        have e' : szB 2 k4 = true := by simp [szB, h]
        rw [e, e']
        exact this
      · have e : szP 2 k4 = 0 := by simp only [szP]; rw [if_neg (by decide), if_neg (fun x => h x.2)]
        have e' : szB 2 k4 = false := by simp only [szB]; exact decide_eq_false (fun x => by rcases x with x | x; exact absurd x (by decide); exact h x.2)
        rw [e, e']
        exact psize_no k1 k2 k3 k4 h0 h w
    · have e : szP k0 k4 = 0 := by simp only [szP]; rw [if_neg h3, if_neg (fun x => h2 x.1)]
      have e' : szB k0 k4 = false := by simp only [szB]; exact decide_eq_false (fun x => by rcases x with x | x; exact h3 x; exact h2 x.1)
      rw [e, e']
      exact psize_other k0 k1 k2 k3 k4 h2 h3 w
/-- What enter answers. -/
def entP (s : Int) (t l : Bool) (k0 k4 below addr : Int) : Int × Int := if (t && l) = false then (0, 2) else if k0 = 2 ∧ below ≤ k4 then (0, 5) else if s ≤ addr then (0, 3) else (s, 0)
set_option maxHeartbeats 1000000 in
theorem penter_at {S : Nat} {a b : Shp} {th : Nat → Bool} {vr_ : Nat → Int} {W : Nat → Nat → Value} {th2 : Nat → Bool} {vr2 : Nat → Int} {W2 : Nat → Nat → Int} (k0 k1 k2 k3 k4 below addr : Int) (h0 : 0 ≤ k4) (s : Int) (t l : Bool) (hs : Hid (szP k0 k4 = s ∧ szB k0 k4 = t)) (hl : Hid (liveB a b th vr_ th2 vr2 k0 k1 k2 = l)) (z f : Int) (hz : Hid (entP s t l k0 k4 below addr = (z, f))) (w : World) (h : (StAt w S a b th vr_ W th2 vr2 W2)) :
    Calls Tryd.prog 104 #[.pointer (some ⟨S, 0, none⟩), (Value.agg #[.int .i64 k0, .int .i64 k1, .int .i64 k2, .int .i64 k3, .int .u32 k4]), .int .u32 below, .int .u32 addr] w fun e w' => e = .returned (.tuple #[.int .u32 z, .int .i64 f]) ∧ Below w.heap.size w w' := by
  have H := Lib.hid (h.below ((Below.refl _ _).alloc (Nat.le_refl _) _ : Below w.heap.size w (w.alloc (.cells #[.int .i64 k0, .int .i64 k1, .int .i64 k2, .int .i64 k3, .int .u32 k4] 27))))
  clear h
  cases t
  · have e := hz.out
    simp only [entP, Bool.false_and, if_true] at e
    injection e with e1 e2
    subst e1
    subst e2
    go_enter Tryd.func104, Tryd.ntmps104
    go_wp2_with (first
      | (go_at_call 106; (with_reducible refine (psize_at k0 k1 k2 k3 k4 h0 s _ hs _).mono ?_); rintro e w1 ⟨rfl, hb⟩; have hc := fun o => hb.cell (p := ⟨w.heap.size, o, none⟩) (by simp); have HB := Lib.hid (((Below.refl _ _).alloc (Nat.le_refl _) _ : Below w.heap.size w _).trans (hb.mono (by simp))); have H1 := Lib.hid (H.out.below hb); have hlt := Lib.hid (Nat.lt_of_lt_of_le (show w.heap.size < (w.alloc (.cells #[.int .i64 k0, .int .i64 k1, .int .i64 k2, .int .i64 k3, .int .u32 k4] 27)).heap.size by simp) hb.size); simp at hc; clear hb))
    go_ret2
    exact ⟨rfl, HB.out⟩
  · cases l
    · have e := hz.out
      simp only [entP, Bool.and_false, if_true] at e
      injection e with e1 e2
      subst e1
      subst e2
      go_enter Tryd.func104, Tryd.ntmps104
      go_wp2_with (first
        | (go_at_call 106; (with_reducible refine (psize_at k0 k1 k2 k3 k4 h0 s _ hs _).mono ?_); rintro e w1 ⟨rfl, hb⟩; have hc := fun o => hb.cell (p := ⟨w.heap.size, o, none⟩) (by simp); have HB := Lib.hid (((Below.refl _ _).alloc (Nat.le_refl _) _ : Below w.heap.size w _).trans (hb.mono (by simp))); have H1 := Lib.hid (H.out.below hb); have hlt := Lib.hid (Nat.lt_of_lt_of_le (show w.heap.size < (w.alloc (.cells #[.int .i64 k0, .int .i64 k1, .int .i64 k2, .int .i64 k3, .int .u32 k4] 27)).heap.size by simp) hb.size); simp at hc; clear hb)
        | (go_at_call 107; (with_reducible refine (slive_at k0 k1 k2 k3 k4 _ hl _ H1.out).mono ?_); rintro e w2 ⟨rfl, hb⟩; have hc2 := fun o => hb.cell (p := ⟨w.heap.size, o, none⟩) hlt.out; have HB2 := Lib.hid (HB.out.trans (hb.mono HB.out.size)); clear hb))
      go_ret2
      exact ⟨rfl, HB2.out⟩
    · have e := hz.out
      simp only [entP, Bool.and_true, Bool.true_eq_false, if_false] at e
      clear hz
      by_cases h2 : k0 = 2
      · subst h2
        by_cases hd : below ≤ k4
        · have dd : decide (below ≤ k4) = true := decide_eq_true hd
          rw [if_pos ⟨rfl, hd⟩] at e
          injection e with e1 e2
          subst e1
          subst e2
          go_enter Tryd.func104, Tryd.ntmps104
          go_wp2_with (first
            | (go_at_call 106; (with_reducible refine (psize_at 2 k1 k2 k3 k4 h0 s _ hs _).mono ?_); rintro e w1 ⟨rfl, hb⟩; have hc := fun o => hb.cell (p := ⟨w.heap.size, o, none⟩) (by simp); have HB := Lib.hid (((Below.refl _ _).alloc (Nat.le_refl _) _ : Below w.heap.size w _).trans (hb.mono (by simp))); have H1 := Lib.hid (H.out.below hb); have hlt := Lib.hid (Nat.lt_of_lt_of_le (show w.heap.size < (w.alloc (.cells #[.int .i64 2, .int .i64 k1, .int .i64 k2, .int .i64 k3, .int .u32 k4] 27)).heap.size by simp) hb.size); simp at hc; clear hb)
            | (go_at_call 107; (with_reducible refine (slive_at 2 k1 k2 k3 k4 _ hl _ H1.out).mono ?_); rintro e w2 ⟨rfl, hb⟩; have hc2 := fun o => hb.cell (p := ⟨w.heap.size, o, none⟩) hlt.out; have HB2 := Lib.hid (HB.out.trans (hb.mono HB.out.size)); clear hb))
          go_ret2
          exact ⟨rfl, HB2.out⟩
        · have dd : decide (below ≤ k4) = false := decide_eq_false hd
          rw [if_neg (fun x => hd x.2)] at e
          by_cases ha : s ≤ addr
          · have da : decide (s ≤ addr) = true := decide_eq_true ha
            rw [if_pos ha] at e
            injection e with e1 e2
            subst e1
            subst e2
            go_enter Tryd.func104, Tryd.ntmps104
            go_wp2_with (first
              | (go_at_call 106; (with_reducible refine (psize_at 2 k1 k2 k3 k4 h0 s _ hs _).mono ?_); rintro e w1 ⟨rfl, hb⟩; have hc := fun o => hb.cell (p := ⟨w.heap.size, o, none⟩) (by simp); have HB := Lib.hid (((Below.refl _ _).alloc (Nat.le_refl _) _ : Below w.heap.size w _).trans (hb.mono (by simp))); have H1 := Lib.hid (H.out.below hb); have hlt := Lib.hid (Nat.lt_of_lt_of_le (show w.heap.size < (w.alloc (.cells #[.int .i64 2, .int .i64 k1, .int .i64 k2, .int .i64 k3, .int .u32 k4] 27)).heap.size by simp) hb.size); simp at hc; clear hb)
              | (go_at_call 107; (with_reducible refine (slive_at 2 k1 k2 k3 k4 _ hl _ H1.out).mono ?_); rintro e w2 ⟨rfl, hb⟩; have hc2 := fun o => hb.cell (p := ⟨w.heap.size, o, none⟩) hlt.out; have HB2 := Lib.hid (HB.out.trans (hb.mono HB.out.size)); clear hb))
            go_ret2
            exact ⟨rfl, HB2.out⟩
          · have da : decide (s ≤ addr) = false := decide_eq_false ha
            rw [if_neg ha] at e
            injection e with e1 e2
            subst e1
            subst e2
            go_enter Tryd.func104, Tryd.ntmps104
            go_wp2_with (first
              | (go_at_call 106; (with_reducible refine (psize_at 2 k1 k2 k3 k4 h0 s _ hs _).mono ?_); rintro e w1 ⟨rfl, hb⟩; have hc := fun o => hb.cell (p := ⟨w.heap.size, o, none⟩) (by simp); have HB := Lib.hid (((Below.refl _ _).alloc (Nat.le_refl _) _ : Below w.heap.size w _).trans (hb.mono (by simp))); have H1 := Lib.hid (H.out.below hb); have hlt := Lib.hid (Nat.lt_of_lt_of_le (show w.heap.size < (w.alloc (.cells #[.int .i64 2, .int .i64 k1, .int .i64 k2, .int .i64 k3, .int .u32 k4] 27)).heap.size by simp) hb.size); simp at hc; clear hb)
              | (go_at_call 107; (with_reducible refine (slive_at 2 k1 k2 k3 k4 _ hl _ H1.out).mono ?_); rintro e w2 ⟨rfl, hb⟩; have hc2 := fun o => hb.cell (p := ⟨w.heap.size, o, none⟩) hlt.out; have HB2 := Lib.hid (HB.out.trans (hb.mono HB.out.size)); clear hb))
            go_ret2
            exact ⟨rfl, HB2.out⟩
      · have h3 : k0 = 3 := by
          have := hs.out.2
          simp only [szB, decide_eq_true_eq] at this
          rcases this with x | x
          · exact x
          · exact absurd x.1 h2
        rw [if_neg (fun x => h2 x.1)] at e
        clear h2
        subst h3
        by_cases ha : s ≤ addr
        · have da : decide (s ≤ addr) = true := decide_eq_true ha
          rw [if_pos ha] at e
          injection e with e1 e2
          subst e1
          subst e2
          go_enter Tryd.func104, Tryd.ntmps104
          go_wp2_with (first
            | (go_at_call 106; (with_reducible refine (psize_at 3 k1 k2 k3 k4 h0 s _ hs _).mono ?_); rintro e w1 ⟨rfl, hb⟩; have hc := fun o => hb.cell (p := ⟨w.heap.size, o, none⟩) (by simp); have HB := Lib.hid (((Below.refl _ _).alloc (Nat.le_refl _) _ : Below w.heap.size w _).trans (hb.mono (by simp))); have H1 := Lib.hid (H.out.below hb); have hlt := Lib.hid (Nat.lt_of_lt_of_le (show w.heap.size < (w.alloc (.cells #[.int .i64 3, .int .i64 k1, .int .i64 k2, .int .i64 k3, .int .u32 k4] 27)).heap.size by simp) hb.size); simp at hc; clear hb)
            | (go_at_call 107; (with_reducible refine (slive_at 3 k1 k2 k3 k4 _ hl _ H1.out).mono ?_); rintro e w2 ⟨rfl, hb⟩; have hc2 := fun o => hb.cell (p := ⟨w.heap.size, o, none⟩) hlt.out; have HB2 := Lib.hid (HB.out.trans (hb.mono HB.out.size)); clear hb))
          go_ret2
          exact ⟨rfl, HB2.out⟩
        · have da : decide (s ≤ addr) = false := decide_eq_false ha
          rw [if_neg ha] at e
          injection e with e1 e2
          subst e1
          subst e2
          go_enter Tryd.func104, Tryd.ntmps104
          go_wp2_with (first
            | (go_at_call 106; (with_reducible refine (psize_at 3 k1 k2 k3 k4 h0 s _ hs _).mono ?_); rintro e w1 ⟨rfl, hb⟩; have hc := fun o => hb.cell (p := ⟨w.heap.size, o, none⟩) (by simp); have HB := Lib.hid (((Below.refl _ _).alloc (Nat.le_refl _) _ : Below w.heap.size w _).trans (hb.mono (by simp))); have H1 := Lib.hid (H.out.below hb); have hlt := Lib.hid (Nat.lt_of_lt_of_le (show w.heap.size < (w.alloc (.cells #[.int .i64 3, .int .i64 k1, .int .i64 k2, .int .i64 k3, .int .u32 k4] 27)).heap.size by simp) hb.size); simp at hc; clear hb)
            | (go_at_call 107; (with_reducible refine (slive_at 3 k1 k2 k3 k4 _ hl _ H1.out).mono ?_); rintro e w2 ⟨rfl, hb⟩; have hc2 := fun o => hb.cell (p := ⟨w.heap.size, o, none⟩) hlt.out; have HB2 := Lib.hid (HB.out.trans (hb.mono HB.out.size)); clear hb))
          go_ret2
          exact ⟨rfl, HB2.out⟩
end Go.Proofs.YtjkbfhojjjkgnaaDoor
namespace Go.Proofs.YtjkbfhojjjkgnaaDoor
open Go.ChangeShapes Go.WideShapes Go.ChangeAt Go.RowKit
set_option linter.unusedVariables false
set_option linter.unusedSimpArgs false
/-- What rights make read-only. -/
def roB (k3 : Int) : Bool := bits BinOp.and IntKind.i64 k3 5 != 0
/-- A way: from a key, found below such a height, to a place or a fault, through nodes. -/
inductive Way (a b : Shp) (th : Nat → Bool) (vr_ : Nat → Int) (W : Nat → Nat → Value) (th2 : Nat → Bool) (vr2 : Nat → Int) : Int → Int → Int → Int → Int → Int → Int → Bool → List Int → Int → Int → Bool → Int → Prop
  | fault {k0 k1 k2 k3 k4 below addr : Int} {ro : Bool} (s : Int) (t l : Bool) (f : Int) (h0 : 0 ≤ k4) (hs : szP k0 k4 = s ∧ szB k0 k4 = t) (hl : liveB a b th vr_ th2 vr2 k0 k1 k2 = l) (hz : entP s t l k0 k4 below addr = (0, f)) (hf : (f != 0) = true) : Way a b th vr_ W th2 vr2 k0 k1 k2 k3 k4 below addr ro [] 0 0 false f
  | page {k1 k2 k3 k4 below addr : Int} {ro : Bool} (h0 : 0 ≤ k4) (a0 : 0 ≤ addr) (hl : liveB a b th vr_ th2 vr2 3 k1 k2 = true) (ha : addr < 32) : Way a b th vr_ W th2 vr2 3 k1 k2 k3 k4 below addr ro [] k1 addr (ro || roB k3) 0
  | node {k1 k2 k3 k4 below addr : Int} {ro : Bool} {ids : List Int} {pg at_ : Int} {r : Bool} {f : Int} (h i q r' p ad : Nat) (y0 y1 y2 y3 y4 : Int) (hk : k4 = h) (hp : p = 2 * 16 ^ h) (ha : addr = ad) (had : ad = q * p + r') (h1 : 1 ≤ h) (h4 : h ≤ 4) (hl : liveB a b th vr_ th2 vr2 2 k1 k2 = true) (hd : (h : Int) < below) (hi : k1 = i) (hn : i < a.n) (ht : th i = true) (hq : q < 16) (hr : r' < p) (hy : KAt (W i) q y0 y1 y2 y3 y4) (next : Way a b th vr_ W th2 vr2 y0 y1 y2 y3 y4 h r' (ro || roB k3) ids pg at_ r f) : Way a b th vr_ W th2 vr2 2 k1 k2 k3 k4 below addr ro (k1 :: ids) pg at_ r f
/-- A place's cells. -/
structure PlC (w : World) (b : Nat) (x y : Int) (r : Bool) : Prop where
  lt : b < w.heap.size
  c0 : w.cell? ⟨b, 0, none⟩ = some (.int .i64 x)
  c1 : w.cell? ⟨b, 1, none⟩ = some (.int .i64 y)
  c2 : w.cell? ⟨b, 2, none⟩ = some (.bool r)
  fr : ∀ j, w.frozen? ⟨b, j, none⟩ = false
theorem PlC.below {w w' : World} {b : Nat} {x y : Int} {r : Bool} (h : PlC w b x y r) (hb : Below w.heap.size w w') : PlC w' b x y r :=
  ⟨Nat.lt_of_lt_of_le h.lt hb.size, (hb.cell (p := ⟨b, 0, none⟩) h.lt).trans h.c0, (hb.cell (p := ⟨b, 1, none⟩) h.lt).trans h.c1, (hb.cell (p := ⟨b, 2, none⟩) h.lt).trans h.c2, fun j => (hb.frozen (p := ⟨b, j, none⟩) h.lt).trans (h.fr j)⟩
theorem PlC.new (w : World) (x y : Int) (r : Bool) (T : TypeId) : PlC (w.alloc (.cells #[.int .i64 x, .int .i64 y, .bool r] T (0, 0))) w.heap.size x y r := ⟨by simp, by simp, by simp, by simp, fun j => by simp⟩
/-- A stretch of cells apart was written. -/
theorem PlC.far5 {w : World} {b g : Nat} {x y : Int} {r : Bool} (h : PlC w b x y r) (hg : b ≠ g) (z0 z1 z2 z3 z4 : Value) : PlC (((((w.setCell ⟨g, 0, none⟩ z0).setCell ⟨g, 1, none⟩ z1).setCell ⟨g, 2, none⟩ z2).setCell ⟨g, 3, none⟩ z3).setCell ⟨g, 4, none⟩ z4) b x y r := by
  have hb : ∀ (v : World) (j : Nat) (u : Value), (v.setCell ⟨g, j, none⟩ u).heap[b]? = v.heap[b]? := fun v j u => Below.heap_setCell _ _ _ _ (fun e => hg (by simpa using e))
  have e : (((((w.setCell ⟨g, 0, none⟩ z0).setCell ⟨g, 1, none⟩ z1).setCell ⟨g, 2, none⟩ z2).setCell ⟨g, 3, none⟩ z3).setCell ⟨g, 4, none⟩ z4).heap[b]? = w.heap[b]? := by rw [hb, hb, hb, hb, hb]
  exact ⟨by simpa using h.lt, (World.cell?_of_block (a := ⟨b, 0, none⟩) e).trans h.c0, (World.cell?_of_block (a := ⟨b, 1, none⟩) e).trans h.c1, (World.cell?_of_block (a := ⟨b, 2, none⟩) e).trans h.c2, fun j => (World.frozen?_of_block (a := ⟨b, j, none⟩) e).trans (h.fr j)⟩
theorem PlC.set {w : World} {b : Nat} {x y : Int} {r : Bool} (h : PlC w b x y r) (x' y' : Int) (r' : Bool) : PlC (((w.setCell ⟨b, 0, none⟩ (.int .i64 x')).setCell ⟨b, 1, none⟩ (.int .i64 y')).setCell ⟨b, 2, none⟩ (.bool r')) b x' y' r' := by
  have hs : ∀ j, j < [Value.int .i64 x', .int .i64 y', .bool r'].length → (w.cell? ⟨b, 0 + j, none⟩).isSome = true := by
    intro j hj
    have hj' : j = 0 ∨ j = 1 ∨ j = 2 := by simp at hj; omega
    rw [Nat.zero_add]
    rcases hj' with rfl | rfl | rfl
    · rw [h.c0]; rfl
    · rw [h.c1]; rfl
    · rw [h.c2]; rfl
  have all := World.cell?_setCells_in b [Value.int .i64 x', .int .i64 y', .bool r'] 0 w hs
  have hz : (w.setCells b 0 [Value.int .i64 x', .int .i64 y', .bool r']).heap.size = w.heap.size := by simp [World.setCells]
  exact ⟨Nat.lt_of_lt_of_le h.lt (Nat.le_of_eq hz.symm), all 0 (by simp), all 1 (by simp), all 2 (by simp), fun j => (World.frozen?_setCells b [Value.int .i64 x', .int .i64 y', .bool r'] 0 w ⟨b, j, none⟩).trans (h.fr j)⟩
theorem set3_below {N b : Nat} {W0 w : World} (h : Below N W0 w) (hb : N ≤ b) (z0 z1 z2 : Value) : Below N W0 (((w.setCell ⟨b, 0, none⟩ z0).setCell ⟨b, 1, none⟩ z1).setCell ⟨b, 2, none⟩ z2) :=
  ((h.setCell hb _).setCell hb _).setCell hb _
theorem KeyC.new3 (w : World) (o o' : Obj) (k0 k1 k2 k3 k4 : Int) (T : TypeId) : KeyC (((w.alloc o).alloc o').alloc (.cells #[.int .i64 k0, .int .i64 k1, .int .i64 k2, .int .i64 k3, .int .u32 k4] T (0, 0))) (w.heap.size + 1 + 1) k0 k1 k2 k3 k4 := by
  have h := KeyC.new ((w.alloc o).alloc o') k0 k1 k2 k3 k4 T
  rw [show ((w.alloc o).alloc o').heap.size = w.heap.size + 1 + 1 by simp] at h
  exact h
theorem PlC.new2 (w : World) (o o' : Obj) (x y : Int) (r : Bool) (T : TypeId) : PlC (((w.alloc o).alloc (.cells #[.int .i64 x, .int .i64 y, .bool r] T (0, 0))).alloc o') (w.heap.size + 1) x y r := by
  have h := (PlC.new (w.alloc o) x y r T).below ((Below.refl _ _).alloc (Nat.le_refl _) o')
  rw [show (w.alloc o).heap.size = w.heap.size + 1 by simp] at h
  exact h
theorem void_is (x : Int) (w : World) : Calls Tryd.prog 101 #[.int .i64 x] w fun e w' => e = .returned (.tuple #[]) ∧ w = w' := by
  go_enter Tryd.func101, Tryd.ntmps101
  apply wp_skip
  go_end0
  exact ⟨rfl, rfl⟩
theorem way_sz (h : Nat) (h1 : 1 ≤ h) (h4 : h ≤ 4) (p : Nat) (hp : p = 2 * 16 ^ h) : szP 2 h = ((16 * p : Nat) : Int) ∧ szB 2 h = true := by
  have h5 : h = 1 ∨ h = 2 ∨ h = 3 ∨ h = 4 := by omega
  subst hp
  rcases h5 with rfl | rfl | rfl | rfl <;> decide
theorem way_lt (q p r : Nat) (hq : q < 16) (hr : r < p) : q * p + r < 16 * p := by
  have : q * p ≤ 15 * p := Nat.mul_le_mul_right p (by omega)
  omega
theorem way_div (q p r : Nat) (hr : r < p) : ((q * p + r : Nat) : Int) / (p : Int) = q := by
  have : (q * p + r) / p = q := by
    rw [Nat.add_comm, Nat.add_mul_div_right _ _ (by omega), Nat.div_eq_of_lt hr, Nat.zero_add]
  omega
theorem way_mod (q p r : Nat) (hr : r < p) : ((q * p + r : Nat) : Int) % (p : Int) = r := by
  have : (q * p + r) % p = r := by
    rw [Nat.add_comm, Nat.add_mul_mod_self_right, Nat.mod_eq_of_lt hr]
  omega
theorem way_big (h : Nat) (h4 : h ≤ 4) : 2 * 16 ^ h ≤ 131072 := by
  have h5 : h = 0 ∨ h = 1 ∨ h = 2 ∨ h = 3 ∨ h = 4 := by omega
  rcases h5 with rfl | rfl | rfl | rfl | rfl <;> decide
abbrev fnVoid : Value := .func (.func 101) #[] #[]
set_option maxRecDepth 100000 in
set_option maxHeartbeats 4000000 in
theorem pwalk_is {S : Nat} {a b : Shp} {th : Nat → Bool} {vr_ : Nat → Int} {W : Nat → Nat → Value} {th2 : Nat → Bool} {vr2 : Nat → Int} {W2 : Nat → Nat → Int} (k0 k1 k2 k3 k4 addr : Int) (ids : List Int) (pg at_ : Int) (r : Bool) (f : Int) (hw : Hid (Way a b th vr_ W th2 vr2 k0 k1 k2 k3 k4 5 addr false ids pg at_ r f)) (w : World) (h : (StAt w S a b th vr_ W th2 vr2 W2)) :
    Calls Tryd.prog 100 #[.pointer (some ⟨S, 0, none⟩), (Value.agg #[.int .i64 k0, .int .i64 k1, .int .i64 k2, .int .i64 k3, .int .u32 k4]), .int .u32 addr, fnVoid] w fun e w' => e = .returned (.tuple #[.agg #[.int .i64 pg, .int .i64 at_, .bool r], .int .i64 f]) ∧ Below w.heap.size w w' := by
  have H := Lib.hid h
  clear h
  go_enter Tryd.func100, Tryd.ntmps100
  go_wp2_with fail
  go_loopw [2, 11, 12] (fun vA vB vR wr => ∃ k0 k1 k2 k3 k4 below addr ro ids, vA = .int .u32 addr ∧ vB = .int .u32 below ∧ vR = .bool ro ∧ Way a b th vr_ W th2 vr2 k0 k1 k2 k3 k4 below addr ro ids pg at_ r f ∧ KeyC wr (w.heap.size + 1 + 1) k0 k1 k2 k3 k4 ∧ PlC wr (w.heap.size + 1) 0 0 false ∧ Below w.heap.size w wr) (fun _ vB _ _ => (intOf vB).toNat)
  case atStart =>
    refine ⟨k0, k1, k2, k3, k4, 5, addr, false, ids, rfl, rfl, rfl, hw.out, ?_, ?_, ?_⟩
    · exact KeyC.new3 _ _ _ _ _ _ _ _ _
    · exact PlC.new2 _ _ _ _ _ _ _
    · exact (((Below.refl _ _).alloc (Nat.le_refl _) _ : Below w.heap.size w _).alloc (by simp) _).alloc (by simp; omega) _
  case round =>
    obtain ⟨k0, k1, k2, k3, k4, below, addr, ro, ids, rfl, rfl, rfl, hW, hK, hP, hB⟩ := hrel
    have q0 := hK.c0
    have q1 := hK.c1
    have q2 := hK.c2
    have q3 := hK.c3
    have q4 := hK.c4
    have HK := Lib.hid hK
    have HP := Lib.hid hP
    have HB := Lib.hid hB
    have H1 := Lib.hid (H.out.below hB)
    clear hK hP hB
    cases hW with
    | fault s t l f h0 hs hl hz hf =>
      have HS := Lib.hid hs
      have HL := Lib.hid hl
      have HZ := Lib.hid hz
      clear hs hl hz
      go_wp2_with (first
        | (go_at_call 104; (with_reducible refine (penter_at k0 k1 k2 k3 k4 below addr h0 s t l HS HL 0 f HZ _ H1.out).mono ?_); rintro e w1 ⟨rfl, hb⟩; have HB1 := Lib.hid (HB.out.trans (hb.mono HB.out.size)); have hP1 := HP.out.below hb; have HP1 := Lib.hid hP1; have p0 := hP1.c0; have p1 := hP1.c1; have p2 := hP1.c2; have pf0 := hP1.fr 0; have pf1 := hP1.fr 1; have pf2 := hP1.fr 2; clear hb hP1))
      refine bodyPost_ret (v := .tuple #[.agg #[.int .i64 0, .int .i64 0, .bool false], .int .i64 f]) (by have d := HP1.out.set 0 0 false; have d0 := d.c0; have d1 := d.c1; have d2 := d.c2; simp [results, Tryd.results100, go_sem, d0, d1, d2]) rfl ⟨rfl, ?_⟩
      exact set3_below HB1.out (by omega) _ _ _
    | page h0 ha0 hl ha =>
      have HL := Lib.hid hl
      have hwr : wrap64 at_ = at_ := by unfold wrap64; omega
      have HZ : Hid (entP 32 true true 3 k4 below at_ = (32, 0)) := Lib.hid (by unfold entP; rw [if_neg (by decide), if_neg (by omega), if_neg (by omega)])
      clear hl ha
      cases ro <;> (
        go_wp2_with (first
          | (go_at_call 104; (with_reducible refine (penter_at 3 pg k2 k3 k4 below at_ h0 32 true true (Lib.hid ⟨rfl, rfl⟩) HL 32 0 HZ _ H1.out).mono ?_); rintro e w1 ⟨rfl, hb⟩; have HB1 := Lib.hid (HB.out.trans (hb.mono HB.out.size)); have hP1 := HP.out.below hb; have HP1 := Lib.hid hP1; have p0 := hP1.c0; have p1 := hP1.c1; have p2 := hP1.c2; have pf0 := hP1.fr 0; have pf1 := hP1.fr 1; have pf2 := hP1.fr 2; have hK1 := HK.out.below hb; have q0 := hK1.c0; have q1 := hK1.c1; have q2 := hK1.c2; have q3 := hK1.c3; have q4 := hK1.c4; clear hb hP1 hK1))
        first
          | (refine bodyPost_ret (v := .tuple #[.agg #[.int .i64 pg, .int .i64 at_, .bool true], .int .i64 0]) (by have d := HP1.out.set pg at_ true; have d0 := d.c0; have d1 := d.c1; have d2 := d.c2; simp [results, Tryd.results100, go_sem, d0, d1, d2]) rfl ⟨rfl, ?_⟩; exact set3_below HB1.out (by omega) _ _ _)
          | (refine bodyPost_ret (v := .tuple #[.agg #[.int .i64 pg, .int .i64 at_, .bool (bits BinOp.and IntKind.i64 k3 5 != 0)], .int .i64 0]) (by have d := HP1.out.set pg at_ (bits BinOp.and IntKind.i64 k3 5 != 0); have d0 := d.c0; have d1 := d.c1; have d2 := d.c2; simp [results, Tryd.results100, go_sem, d0, d1, d2]) rfl ⟨rfl, ?_⟩; exact set3_below HB1.out (by omega) _ _ _)
)
    | node h i q r' p ad y0 y1 y2 y3 y4 hk hp ha had h1 h4 hl hd hi hn ht hq hr hy next =>
      subst hk
      subst hi
      subst ha
      have HS : Hid (szP 2 h = ((16 * p : Nat) : Int) ∧ szB 2 h = true) := Lib.hid (way_sz h h1 h4 p hp)
      have hlt : ad < 16 * p := by rw [had]; exact way_lt q p r' hq hr
      have hp5 : p ≤ 131072 := by rw [hp]; exact way_big h h4
      have e1 : ((16 * p : Nat) : Int).tdiv 16 % 4294967296 = p := by rw [Int.tdiv_eq_ediv_of_nonneg (by omega)]; omega
      have E2 : Hid (IntKind.i64.wrap ((ad : Int) / p % 4294967296) = q) := Lib.hid (by rw [had, way_div q p r' hr, IntKind.wrap_i64]; omega)
      have E3 : Hid ((ad : Int) % p = r') := Lib.hid (by rw [had, way_mod q p r' hr])
      have e5 : ¬ p = 0 := by omega
      have E5 : Hid (IntKind.u32.wrap ((ad : Int) / p) = q) := Lib.hid (by rw [had, way_div q p r' hr, IntKind.wrap_u32]; omega)
      have E6 : Hid (IntKind.i64.wrap (q : Int) = q) := Lib.hid (by rw [IntKind.wrap_i64]; omega)
      have g0 : Hid (W i (q * 5) = .int .i64 y0) := Lib.hid hy.1
      have g1 : Hid (W i (q * 5 + 1) = .int .i64 y1) := Lib.hid hy.2.1
      have g2 : Hid (W i (q * 5 + 2) = .int .i64 y2) := Lib.hid hy.2.2.1
      have g3 : Hid (W i (q * 5 + 3) = .int .i64 y3) := Lib.hid hy.2.2.2.1
      have g4 : Hid (W i (q * 5 + 4) = .int .u32 y4) := Lib.hid hy.2.2.2.2
      have HT : Hid (th i = true) := Lib.hid ht
      have HZ : Hid (entP ((16 * p : Nat) : Int) true true 2 h below ad = (((16 * p : Nat) : Int), 0)) := Lib.hid (by unfold entP; rw [if_neg (by decide), if_neg (by omega), if_neg (by omega)])
      have HL := Lib.hid hl
      have H0 : Hid ((0 : Int) ≤ h) := Lib.hid (by omega)
      obtain ⟨sz, Hsz⟩ : ∃ sz : Int, Hid (((16 * p : Nat) : Int) = sz) := ⟨_, Lib.hid rfl⟩
      rw [Hsz.out] at HS HZ e1
      clear hl had hp hlt hy ht
      go_upto_region 5 with (first
        | (go_at_call 104; (with_reducible refine (penter_at 2 i k2 k3 h below ad H0.out _ true true HS HL _ 0 HZ _ H1.out).mono ?_); rintro e w1 ⟨rfl, hb⟩; have HB1 := Lib.hid (HB.out.trans (hb.mono HB.out.size)); have HP1 := Lib.hid (HP.out.below hb); have hK1 := HK.out.below hb; have HK1 := Lib.hid hK1; have q0 := hK1.c0; have q1 := hK1.c1; have q2 := hK1.c2; have q3 := hK1.c3; have q4 := hK1.c4; have H2 := Lib.hid (H1.out.below hb); clear hb hK1))
      go_cut [12] (fun v wx => v = .bool (ro || roB k3) ∧ w1 = wx)
      case first =>
        cases ro <;> (go_wp2_with fail; go_meet; exact ⟨rfl, rfl⟩)
      case rest =>
        obtain ⟨rfl, rfl⟩ := hcut
        obtain ⟨rb, Hrb⟩ : ∃ rb, Hid ((ro || roB k3) = rb) := ⟨_, Lib.hid rfl⟩
        rw [Hrb.out] at next ⊢
        clear Hrb
        go_upto_region 10 with (first
          | (go_at_call 101; (with_reducible refine (void_is _ _).mono ?_); rintro e w2 ⟨rfl, rfl⟩))
        rw [e1]
        go_cut [16, 17] (fun u o wx => ∃ bx : Nat, u = .pointer (some ⟨bx, 0, none⟩) ∧ o = .bool true ∧ Below w.heap.size w wx ∧ KeyC wx bx y0 y1 y2 y3 y4 ∧ KeyC wx (w.heap.size + 1 + 1) 2 i k2 k3 h ∧ PlC wx (w.heap.size + 1) 0 0 false ∧ w.heap.size + 1 + 1 < bx)
        case first =>
          have hz := HB1.out.size
          have hz2 : w.heap.size + 1 + 1 < w1.heap.size := HK1.out.lt
          have hSS : Hid (∀ w', Below w1.heap.size w1 w' → World.cell? w' ⟨S, 0, none⟩ = some (.pointer (some ⟨a.P, 0, none⟩)) ∧ World.cell? w' ⟨w.heap.size + 1 + 1, 1, none⟩ = some (.int .i64 i)) := Lib.hid (fun w' hb => ⟨(H2.out.below hb).s0, (HK1.out.below hb).c1⟩)
          refine wp_region_noPanic ?_
          refine wp_region_held_drew (S := fun w' => World.cell? w' ⟨S, 0, none⟩ = some (.pointer (some ⟨a.P, 0, none⟩)) ∧ World.cell? w' ⟨w.heap.size + 1 + 1, 1, none⟩ = some (.int .i64 i)) (by kernel_rfl) ⟨(H2.out.below (Below.refl w1.heap.size w1).drew).s0, (HK1.out.below (Below.refl w1.heap.size w1).drew).c1⟩ (fun hHeld => ?_)
          refine wpAnyH_take (i := 0) (v := ?_) (by rfl) (by kernel_rfl) (by kernel_rfl) (by kernel_rfl) (fun _ _ _ h => h) (Or.inl ⟨by kernel_rfl, ?_⟩) (by assumption) ?_; rotate_left 1; (focus (intro w hSw; (try dsimp only at hSw); simp only [List.getElem_toArray, List.getElem_cons_succ, List.getElem_cons_zero]; all_goals go_simp; all_goals (try with_reducible rfl))); (try simp only [Act.put, List.getElem_toArray, List.getElem_cons_succ, List.getElem_cons_zero, List.setIfInBounds_toArray, List.set_cons_zero, List.set_cons_succ])
          refine wpAnyH_take (i := 1) (v := ?_) (by rfl) (by kernel_rfl) (by kernel_rfl) (by kernel_rfl) (fun _ _ _ h => h) (Or.inl ⟨by kernel_rfl, ?_⟩) (by assumption) ?_; rotate_left 1; (focus (intro w hSw; (try dsimp only at hSw); simp only [List.getElem_toArray, List.getElem_cons_succ, List.getElem_cons_zero]; all_goals go_simp; all_goals (try with_reducible rfl))); (try simp only [Act.put, List.getElem_toArray, List.getElem_cons_succ, List.getElem_cons_zero, List.setIfInBounds_toArray, List.set_cons_zero, List.set_cons_succ])
          refine wpAnyH_take (i := 2) (v := ?_) (by rfl) (by kernel_rfl) (by kernel_rfl) (by kernel_rfl) (fun _ _ _ h => h) (Or.inl ⟨by kernel_rfl, ?_⟩) (by assumption) ?_; rotate_left 1; (focus (intro w hSw; (try dsimp only at hSw); simp only [List.getElem_toArray, List.getElem_cons_succ, List.getElem_cons_zero]; all_goals go_simp; all_goals (try with_reducible rfl))); (try simp only [Act.put, List.getElem_toArray, List.getElem_cons_succ, List.getElem_cons_zero, List.setIfInBounds_toArray, List.set_cons_zero, List.set_cons_succ])
          refine wpAnyH_take (i := 3) (v := ?_) (by rfl) (by kernel_rfl) (by kernel_rfl) (by kernel_rfl) (fun _ _ _ h => h) (Or.inl ⟨by kernel_rfl, ?_⟩) (by assumption) ?_; rotate_left 1; (focus (intro w hSw; (try dsimp only at hSw); simp only [List.getElem_toArray, List.getElem_cons_succ, List.getElem_cons_zero]; all_goals go_simp; all_goals (try with_reducible rfl))); (try simp only [Act.put, List.getElem_toArray, List.getElem_cons_succ, List.getElem_cons_zero, List.setIfInBounds_toArray, List.set_cons_zero, List.set_cons_succ])
          refine wpAnyH_take (i := 4) (v := ?_) (by rfl) (by kernel_rfl) (by kernel_rfl) (by kernel_rfl) (fun _ _ _ h => h) (Or.inl ⟨by kernel_rfl, ?_⟩) (by assumption) ?_; rotate_left 1; (focus (intro w hSw; (try dsimp only at hSw); simp only [List.getElem_toArray, List.getElem_cons_succ, List.getElem_cons_zero]; all_goals go_simp; all_goals (try with_reducible rfl))); (try simp only [Act.put, List.getElem_toArray, List.getElem_cons_succ, List.getElem_cons_zero, List.setIfInBounds_toArray, List.set_cons_zero, List.set_cons_succ])
          refine wpAnyH_take (i := 5) (v := ?_) (by rfl) (by kernel_rfl) (by kernel_rfl) (by kernel_rfl) (fun _ _ _ h => h) (Or.inl ⟨by kernel_rfl, ?_⟩) (by assumption) ?_; rotate_left 1; (focus (intro w hSw; (try dsimp only at hSw); simp only [List.getElem_toArray, List.getElem_cons_succ, List.getElem_cons_zero]; all_goals go_simp; all_goals (try with_reducible rfl))); (try simp only [Act.put, List.getElem_toArray, List.getElem_cons_succ, List.getElem_cons_zero, List.setIfInBounds_toArray, List.set_cons_zero, List.set_cons_succ])
          refine wpAnyH_take (i := 6) (v := ?_) (by rfl) (by kernel_rfl) (by kernel_rfl) (by kernel_rfl) (fun _ _ _ h => h) (Or.inl ⟨by kernel_rfl, ?_⟩) (by assumption) ?_; rotate_left 1; (focus (intro w hSw; (try dsimp only at hSw); simp only [List.getElem_toArray, List.getElem_cons_succ, List.getElem_cons_zero]; all_goals go_simp; all_goals (try with_reducible rfl))); (try simp only [Act.put, List.getElem_toArray, List.getElem_cons_succ, List.getElem_cons_zero, List.setIfInBounds_toArray, List.set_cons_zero, List.set_cons_succ])
          refine wpAnyH_take (i := 7) (v := ?_) (by rfl) (by kernel_rfl) (by kernel_rfl) (by kernel_rfl) (fun _ _ _ h => h) (Or.inl ⟨by kernel_rfl, ?_⟩) (by assumption) ?_; rotate_left 1; (focus (intro w hSw; (try dsimp only at hSw); simp only [List.getElem_toArray, List.getElem_cons_succ, List.getElem_cons_zero]; all_goals go_simp; all_goals (try with_reducible rfl))); (try simp only [Act.put, List.getElem_toArray, List.getElem_cons_succ, List.getElem_cons_zero, List.setIfInBounds_toArray, List.set_cons_zero, List.set_cons_succ])
          refine wpAnyH_take (i := 8) (v := .int .u32 q) (by rfl) (by kernel_rfl) (by kernel_rfl) (by kernel_rfl) (fun _ _ _ h => h) (Or.inl ⟨by kernel_rfl, ?_⟩) (by assumption) ?_
          · intro w hSw
            simp only [List.getElem_toArray, List.getElem_cons_succ, List.getElem_cons_zero]
            go_simp
            first | rfl | rw [E5.out]
          simp only [Act.put, List.getElem_toArray, List.getElem_cons_succ, List.getElem_cons_zero, List.setIfInBounds_toArray, List.set_cons_zero, List.set_cons_succ]
          refine wpAnyH_take (i := 9) (v := .int .i64 q) (by rfl) (by kernel_rfl) (by kernel_rfl) (by kernel_rfl) (fun _ _ _ h => h) (Or.inl ⟨by kernel_rfl, ?_⟩) (by assumption) ?_
          · intro w hSw
            simp only [List.getElem_toArray, List.getElem_cons_succ, List.getElem_cons_zero]
            go_simp
            first | rfl | rw [E6.out]
          simp only [Act.put, List.getElem_toArray, List.getElem_cons_succ, List.getElem_cons_zero, List.setIfInBounds_toArray, List.set_cons_zero, List.set_cons_succ]
          refine wpAnyH_ready (rs := [10, 14]) (by kernel_rfl) (by simp) ?_
          refine AllReadyH.cons (by rfl) (fun K hK => ?_) (AllReadyH.cons (by rfl) (fun K hK => ?_) AllReadyH.nil)
          · skip
            rw [if_pos (by kernel_rfl)]
            simp only [List.getElem_toArray, List.getElem_cons_succ, List.getElem_cons_zero]
            go_wp2_with (first | (go_at_call 105; (with_reducible refine (nget_at i q i q (Lib.hid rfl) (Lib.hid rfl) hn hq HT y0 y1 y2 y3 y4 g0 g1 g2 g3 g4 _ (H2.out.below (Below.refl w1.heap.size w1).drew).nd).mono ?_); rintro e w2 ⟨rfl, hb⟩; have HBB := Lib.hid ((Below.refl w1.heap.size w1).drew.trans (hb.mono (by simp))); clear hb))
            refine hK.out _ _ (hSS.out _ HBB.out) (fun hHeld => ?_)
            clear hK K
            (try simp only [Act.put, List.getElem_toArray, List.getElem_cons_succ, List.getElem_cons_zero, List.setIfInBounds_toArray, List.set_cons_zero, List.set_cons_succ])
            refine wpAnyH_take (i := 11) (v := ?_) (by rfl) (by kernel_rfl) (by kernel_rfl) (by kernel_rfl) (fun _ _ _ h => h) (Or.inl ⟨by kernel_rfl, ?_⟩) (by assumption) ?_; rotate_left 1; (focus (intro w hSw; (try dsimp only at hSw); simp only [List.getElem_toArray, List.getElem_cons_succ, List.getElem_cons_zero]; all_goals go_simp; all_goals (try with_reducible rfl))); (try simp only [Act.put, List.getElem_toArray, List.getElem_cons_succ, List.getElem_cons_zero, List.setIfInBounds_toArray, List.set_cons_zero, List.set_cons_succ])
            refine wpAnyH_take (i := 12) (v := ?_) (by rfl) (by kernel_rfl) (by kernel_rfl) (by kernel_rfl) (fun _ _ _ h => h) (Or.inl ⟨by kernel_rfl, ?_⟩) (by assumption) ?_; rotate_left 1; (focus (intro w hSw; (try dsimp only at hSw); simp only [List.getElem_toArray, List.getElem_cons_succ, List.getElem_cons_zero]; all_goals go_simp; all_goals (try with_reducible rfl))); (try simp only [Act.put, List.getElem_toArray, List.getElem_cons_succ, List.getElem_cons_zero, List.setIfInBounds_toArray, List.set_cons_zero, List.set_cons_succ])
            refine wpAnyH_take (i := 13) (v := ?_) (by rfl) (by kernel_rfl) (by kernel_rfl) (by kernel_rfl) (fun _ _ _ h => h) (Or.inl ⟨by kernel_rfl, ?_⟩) (by assumption) ?_; rotate_left 1; (focus (intro w hSw; (try dsimp only at hSw); simp only [List.getElem_toArray, List.getElem_cons_succ, List.getElem_cons_zero]; all_goals go_simp; all_goals (try with_reducible rfl))); (try simp only [Act.put, List.getElem_toArray, List.getElem_cons_succ, List.getElem_cons_zero, List.setIfInBounds_toArray, List.set_cons_zero, List.set_cons_succ])
            refine wpAnyH_ready (rs := [14]) (by kernel_rfl) (by simp) ?_
            refine AllReadyH.cons (by rfl) (fun K hK => ?_) AllReadyH.nil
            rw [if_pos (by kernel_rfl)]
            simp only [List.getElem_toArray, List.getElem_cons_succ, List.getElem_cons_zero]
            go_wp2_with fail
            refine hK.out _ _ (hSS.out _ (HBB.out.alloc HBB.out.size _)) (fun hHeld => ?_)
            clear hK K
            (try simp only [Act.put, List.getElem_toArray, List.getElem_cons_succ, List.getElem_cons_zero, List.setIfInBounds_toArray, List.set_cons_zero, List.set_cons_succ])
            refine wpAnyH_ready (rs := [15]) (by kernel_rfl) (by simp) ?_
            refine AllReadyH.cons (by rfl) (fun K hK => ?_) AllReadyH.nil
            rw [if_pos (by kernel_rfl)]
            simp only [List.getElem_toArray, List.getElem_cons_succ, List.getElem_cons_zero]
            go_wp2_with fail
            refine hK.out _ _ (hSS.out _ (HBB.out.alloc HBB.out.size _)) (fun hHeld => ?_)
            clear hK K
            (try simp only [Act.put, List.getElem_toArray, List.getElem_cons_succ, List.getElem_cons_zero, List.setIfInBounds_toArray, List.set_cons_zero, List.set_cons_succ])
            refine wpAnyH_take (i := 16) (v := ?_) (by rfl) (by kernel_rfl) (by kernel_rfl) (by kernel_rfl) (fun _ _ _ h => h) (Or.inl ⟨by kernel_rfl, ?_⟩) (by assumption) ?_; rotate_left 1; (focus (intro w hSw; (try dsimp only at hSw); simp only [List.getElem_toArray, List.getElem_cons_succ, List.getElem_cons_zero]; all_goals go_simp; all_goals (try with_reducible rfl))); (try simp only [Act.put, List.getElem_toArray, List.getElem_cons_succ, List.getElem_cons_zero, List.setIfInBounds_toArray, List.set_cons_zero, List.set_cons_succ])
            refine wpAnyH_done (by kernel_rfl) ?_ _
            refine NoPanic.normal ?_
            go_wp2_with fail
            go_meet
            have hb := HBB.out.alloc (Nat.le_trans HBB.out.size (Nat.le_refl _)) (.cells #[.int .i64 y0, .int .i64 y1, .int .i64 y2, .int .i64 y3, .int .u32 y4] 27 (0, 0))
            exact ⟨_, rfl, rfl, HB1.out.trans (hb.mono hz), KeyC.new _ y0 y1 y2 y3 y4 _, HK1.out.below hb, HP1.out.below hb, Nat.lt_of_lt_of_le hz2 HBB.out.size⟩
          · skip
            rw [if_pos (by kernel_rfl)]
            simp only [List.getElem_toArray, List.getElem_cons_succ, List.getElem_cons_zero]
            go_wp2_with fail
            refine hK.out _ _ (hSS.out _ ((Below.refl w1.heap.size w1).alloc (Nat.le_refl _) _).drew) (fun hHeld => ?_)
            clear hK K
            (try simp only [Act.put, List.getElem_toArray, List.getElem_cons_succ, List.getElem_cons_zero, List.setIfInBounds_toArray, List.set_cons_zero, List.set_cons_succ])
            refine wpAnyH_ready (rs := [10]) (by kernel_rfl) (by simp) ?_
            refine AllReadyH.cons (by rfl) (fun K hK => ?_) AllReadyH.nil
            rw [if_pos (by kernel_rfl)]
            simp only [List.getElem_toArray, List.getElem_cons_succ, List.getElem_cons_zero]
            go_wp2_with (first | (go_at_call 105; (with_reducible refine (nget_at i q i q (Lib.hid rfl) (Lib.hid rfl) hn hq HT y0 y1 y2 y3 y4 g0 g1 g2 g3 g4 _ (H2.out.below ((Below.refl w1.heap.size w1).alloc (Nat.le_refl _) _).drew).nd).mono ?_); rintro e w2 ⟨rfl, hb⟩; have HBA := Lib.hid (((Below.refl w1.heap.size w1).alloc (Nat.le_refl _) _).drew.trans (hb.mono (by simp; try omega))); have hKB := ((KeyC.new w1 0 0 0 0 0 27).below (Below.refl _ _).drew).below hb; have kc0 := hKB.c0; have kc1 := hKB.c1; have kc2 := hKB.c2; have kc3 := hKB.c3; have kc4 := hKB.c4; have kf0 := hKB.fr 0; have kf1 := hKB.fr 1; have kf2 := hKB.fr 2; have kf3 := hKB.fr 3; have kf4 := hKB.fr 4; have HKB := Lib.hid hKB; clear hb hKB))
            refine hK.out _ _ (hSS.out _ HBA.out) (fun hHeld => ?_)
            clear hK K
            (try simp only [Act.put, List.getElem_toArray, List.getElem_cons_succ, List.getElem_cons_zero, List.setIfInBounds_toArray, List.set_cons_zero, List.set_cons_succ])
            refine wpAnyH_take (i := 11) (v := ?_) (by rfl) (by kernel_rfl) (by kernel_rfl) (by kernel_rfl) (fun _ _ _ h => h) (Or.inl ⟨by kernel_rfl, ?_⟩) (by assumption) ?_; rotate_left 1; (focus (intro w hSw; (try dsimp only at hSw); simp only [List.getElem_toArray, List.getElem_cons_succ, List.getElem_cons_zero]; all_goals go_simp; all_goals (try with_reducible rfl))); (try simp only [Act.put, List.getElem_toArray, List.getElem_cons_succ, List.getElem_cons_zero, List.setIfInBounds_toArray, List.set_cons_zero, List.set_cons_succ])
            refine wpAnyH_take (i := 12) (v := ?_) (by rfl) (by kernel_rfl) (by kernel_rfl) (by kernel_rfl) (fun _ _ _ h => h) (Or.inl ⟨by kernel_rfl, ?_⟩) (by assumption) ?_; rotate_left 1; (focus (intro w hSw; (try dsimp only at hSw); simp only [List.getElem_toArray, List.getElem_cons_succ, List.getElem_cons_zero]; all_goals go_simp; all_goals (try with_reducible rfl))); (try simp only [Act.put, List.getElem_toArray, List.getElem_cons_succ, List.getElem_cons_zero, List.setIfInBounds_toArray, List.set_cons_zero, List.set_cons_succ])
            refine wpAnyH_take (i := 13) (v := ?_) (by rfl) (by kernel_rfl) (by kernel_rfl) (by kernel_rfl) (fun _ _ _ h => h) (Or.inl ⟨by kernel_rfl, ?_⟩) (by assumption) ?_; rotate_left 1; (focus (intro w hSw; (try dsimp only at hSw); simp only [List.getElem_toArray, List.getElem_cons_succ, List.getElem_cons_zero]; all_goals go_simp; all_goals (try with_reducible rfl))); (try simp only [Act.put, List.getElem_toArray, List.getElem_cons_succ, List.getElem_cons_zero, List.setIfInBounds_toArray, List.set_cons_zero, List.set_cons_succ])
            refine wpAnyH_ready (rs := [15]) (by kernel_rfl) (by simp) ?_
            refine AllReadyH.cons (by rfl) (fun K hK => ?_) AllReadyH.nil
            rw [if_pos (by kernel_rfl)]
            simp only [List.getElem_toArray, List.getElem_cons_succ, List.getElem_cons_zero]
            go_wp2_with fail
            have hb := below_set5 HBA.out (Nat.le_refl _) y0 y1 y2 y3 y4
            refine hK.out _ _ (hSS.out _ hb) (fun hHeld => ?_)
            clear hK K
            (try simp only [Act.put, List.getElem_toArray, List.getElem_cons_succ, List.getElem_cons_zero, List.setIfInBounds_toArray, List.set_cons_zero, List.set_cons_succ])
            refine wpAnyH_take (i := 16) (v := ?_) (by rfl) (by kernel_rfl) (by kernel_rfl) (by kernel_rfl) (fun _ _ _ h => h) (Or.inl ⟨by kernel_rfl, ?_⟩) (by assumption) ?_; rotate_left 1; (focus (intro w hSw; (try dsimp only at hSw); simp only [List.getElem_toArray, List.getElem_cons_succ, List.getElem_cons_zero]; all_goals go_simp; all_goals (try with_reducible rfl))); (try simp only [Act.put, List.getElem_toArray, List.getElem_cons_succ, List.getElem_cons_zero, List.setIfInBounds_toArray, List.set_cons_zero, List.set_cons_succ])
            refine wpAnyH_done (by kernel_rfl) ?_ _
            refine NoPanic.normal ?_
            go_wp2_with fail
            go_meet
            exact ⟨_, rfl, rfl, HB1.out.trans (hb.mono hz), HKB.out.set y0 y1 y2 y3 y4, HK1.out.below hb, HP1.out.below hb, hz2⟩
        case rest =>
          obtain ⟨bx, rfl, rfl, hb, ky, kk, kp, hl⟩ := hcut
          have y0' := ky.c0
          have y1' := ky.c1
          have y2' := ky.c2
          have y3' := ky.c3
          have y4' := ky.c4
          have q0 := kk.c0
          have q1 := kk.c1
          have q2 := kk.c2
          have q3 := kk.c3
          have q4 := kk.c4
          have f0 := kk.fr 0
          have f1 := kk.fr 1
          have f2 := kk.fr 2
          have f3 := kk.fr 3
          have f4 := kk.fr 4
          have HC := Lib.hid hb
          have HKK := Lib.hid kk
          have HPP := Lib.hid kp
          clear hb ky kk kp
          go_wp2_with fail
          go_region
          all_goals (go_wp2_with fail; go_roundw)
          case rel =>
            have hd := (Below.refl wc.heap.size wc).drew
            refine ⟨y0, y1, y2, y3, y4, h, r', _, _, ?_, rfl, rfl, next, (HKK.out.below hd).set y0 y1 y2 y3 y4, (HPP.out.below hd).far5 (by omega) _ _ _ _ _, below_set5 (HC.out.trans (hd.mono HC.out.size)) (by omega) y0 y1 y2 y3 y4⟩
            rw [E3.out]
          case measure =>
            simp [intOf]; omega
end Go.Proofs.YtjkbfhojjjkgnaaDoor
namespace Go.Proofs.YtjkbfhojjjkgnaaDoor
open Go.ChangeShapes Go.WideShapes Go.ChangeAt Go.RowKit
set_option linter.unusedVariables false
/-- Which pages are there. -/
def th9 (k : Nat) : Nat → Bool := if k = 0 then fun _ => false else upd (fun _ => false) 0 true
theorem th9_0 : th9 0 = fun _ => false := if_pos rfl
theorem th9_s (k : Nat) (h : 0 < k) : th9 k = upd (fun _ => false) 0 true := if_neg (by omega)
theorem srcu_page {w : World} {base : Nat} {S : SyS} {d : SyD} (h : SyAt w base S d) (i : Nat) (hi : i < S.m) (xs : List Int) (hx : xs = (List.range 32).map (d.wP i)) (B G : Nat) (h1 : S.bP ≠ B) (h2 : S.bP ≠ G) : SrcU w (some ⟨S.bP, i * 32, none⟩) xs B G := ⟨fun j hj => by
  subst hx
  have hj' : j < 32 := by simpa using hj
  refine ⟨_, rfl, (h.pg.lt S.bP rfl).2, h1, h2, ?_⟩
  have := h.pword i j hi hj'
  rw [Addr.add_mid]
  simpa [hj'] using this⟩
theorem KeyC.same {w w' : World} {b : Nat} {k0 k1 k2 k3 k4 : Int} (h : KeyC w b k0 k1 k2 k3 k4) (hs : w.heap.size ≤ w'.heap.size) (hb : w'.heap[b]? = w.heap[b]?) : KeyC w' b k0 k1 k2 k3 k4 :=
  ⟨Nat.lt_of_lt_of_le h.lt hs, (World.cell?_of_block (a := ⟨b, 0, none⟩) hb).trans h.c0, (World.cell?_of_block (a := ⟨b, 1, none⟩) hb).trans h.c1, (World.cell?_of_block (a := ⟨b, 2, none⟩) hb).trans h.c2, (World.cell?_of_block (a := ⟨b, 3, none⟩) hb).trans h.c3, (World.cell?_of_block (a := ⟨b, 4, none⟩) hb).trans h.c4, fun j => (World.frozen?_of_block (a := ⟨b, j, none⟩) hb).trans (h.fr j)⟩
section
variable {w w' : World} {S : Nat} {a b : Shp} {th : Nat → Bool} {vr_ : Nat → Int} {W : Nat → Nat → Value} {th2 : Nat → Bool} {vr2 : Nat → Int} {W2 : Nat → Nat → Int}
/-- What is written below a store leaves it. -/
theorem StAt.low (h : (StAt w S a b th vr_ W th2 vr2 W2)) (hs : w.heap.size ≤ w'.heap.size) (hk : ∀ k, a.b ≤ k → k < w.heap.size → w'.heap[k]? = w.heap[k]?) : (StAt w' S a b th vr_ W th2 vr2 W2) := by
  have hS := hk S (Nat.le_trans h.ab h.hs.1) h.sl
  have g1 := h.nd.ar.lt
  have g2 := h.nd.row.lt a.G rfl
  have g3 := h.pg.ar.lt
  have g4 := h.pg.row.lt b.G rfl
  have g5 := h.ab
  refine ⟨(World.cell?_of_block (a := ⟨S, 0, none⟩) hS).trans h.s0, (World.cell?_of_block (a := ⟨S, 1, none⟩) hS).trans h.s1, Nat.lt_of_lt_of_le h.sl hs, ?_, ?_, h.ab, h.hi, h.hs⟩
  · exact h.nd.same hs (hk _ h.nd.pb h.nd.pl) (hk _ h.nd.ar.pb h.nd.ar.pl) (hk _ g1.1 g1.2) (hk _ g2.1 g2.2)
  · exact h.pg.same hs (hk _ (Nat.le_trans g5 h.pg.pb) h.pg.pl) (hk _ (Nat.le_trans g5 h.pg.ar.pb) h.pg.ar.pl) (hk _ (Nat.le_trans g5 g3.1) g3.2) (hk _ (Nat.le_trans g5 g4.1) g4.2)
theorem StAt.low5 (h : (StAt w S a b th vr_ W th2 vr2 W2)) (g : Nat) (hg : g < a.b) (z0 z1 z2 z3 z4 : Int) : (StAt (((((w.setCell ⟨g, 0, none⟩ (.int .i64 z0)).setCell ⟨g, 1, none⟩ (.int .i64 z1)).setCell ⟨g, 2, none⟩ (.int .i64 z2)).setCell ⟨g, 3, none⟩ (.int .i64 z3)).setCell ⟨g, 4, none⟩ (.int .u32 z4)) S a b th vr_ W th2 vr2 W2) := by
  refine h.low (by simp) (fun k hk _ => ?_)
  have hb : ∀ (v : World) (j : Nat) (u : Value), (v.setCell ⟨g, j, none⟩ u).heap[k]? = v.heap[k]? := fun v j u => Below.heap_setCell _ _ _ _ (Nat.ne_of_gt (Nat.lt_of_lt_of_le hg hk))
  rw [hb, hb, hb, hb, hb]
end
end Go.Proofs.YtjkbfhojjjkgnaaDoor
namespace Go.Proofs.YtjkbfhojjjkgnaaDoor
open Go.ChangeShapes Go.WideShapes Go.ChangeAt Go.RowKit
set_option linter.unusedVariables false
theorem PlC.of2 {w w' : World} {x y : Int} {r : Bool} {T : TypeId} {o : Obj} (hb : Below ((w.alloc o).alloc (.cells #[.int .i64 x, .int .i64 y, .bool r] T (0, 0))).heap.size ((w.alloc o).alloc (.cells #[.int .i64 x, .int .i64 y, .bool r] T (0, 0))) w') : PlC w' (w.heap.size + 1) x y r := by
  have h := (PlC.new (w.alloc o) x y r T).below hb
  have e : (w.alloc o).heap.size = w.heap.size + 1 := by simp
  rw [e] at h
  exact h
set_option maxRecDepth 100000 in
theorem pWalk_is {S : Nat} {a b : Shp} {th : Nat → Bool} {vr_ : Nat → Int} {W : Nat → Nat → Value} {th2 : Nat → Bool} {vr2 : Nat → Int} {W2 : Nat → Nat → Int} (k0 k1 k2 k3 k4 addr : Int) (ids : List Int) (pg at_ : Int) (r : Bool) (f : Int) (hw : Hid (Way a b th vr_ W th2 vr2 k0 k1 k2 k3 k4 5 addr false ids pg at_ r f)) (w : World) (h : (StAt w S a b th vr_ W th2 vr2 W2)) :
    Calls Tryd.prog 94 #[.pointer (some ⟨S, 0, none⟩), (Value.agg #[.int .i64 k0, .int .i64 k1, .int .i64 k2, .int .i64 k3, .int .u32 k4]), .int .u32 addr] w fun e w' => e = .returned (.tuple #[.agg #[.int .i64 pg, .int .i64 at_, .bool r], .int .i64 f]) ∧ Below w.heap.size w w' := by
  have hb2 : ∀ o o', Below w.heap.size w ((w.alloc o).alloc o') := fun o o' => ((Below.refl _ _).alloc (Nat.le_refl _) _ : Below w.heap.size w (w.alloc o)).alloc (by simp) o'
  have H := Lib.hid (fun o o' => h.below (hb2 o o'))
  have HB := Lib.hid hb2
  clear h hb2
  go_enter Tryd.func94, Tryd.ntmps94
  go_wp2_with (first
    | (go_at_call 100; (with_reducible refine (pwalk_is k0 k1 k2 k3 k4 addr ids pg at_ r f hw _ (H.out _ _)).mono ?_); rintro e w1 ⟨rfl, hb⟩; have HP := Lib.hid (PlC.of2 hb); have p0 := HP.out.c0; have p1 := HP.out.c1; have p2 := HP.out.c2; have f0 := HP.out.fr 0; have f1 := HP.out.fr 1; have f2 := HP.out.fr 2; have HB1 := Lib.hid ((HB.out _ _).trans (hb.mono (by simp; omega))); clear hb))
  have d := HP.out.set pg at_ r
  have d0 := d.c0
  have d1 := d.c1
  have d2 := d.c2
  refine bodyPost_ret (v := .tuple #[.agg #[.int .i64 pg, .int .i64 at_, .bool r], .int .i64 f]) (by simp [results, Tryd.results94, go_sem, d0, d1, d2]) rfl ⟨rfl, ?_⟩
  exact set3_below HB1.out (by omega) _ _ _
end Go.Proofs.YtjkbfhojjjkgnaaDoor
namespace Go.Proofs.YtjkbfhojjjkgnaaDoor
open Go.ChangeShapes Go.WideShapes Go.ChangeAt Go.RowKit
set_option linter.unusedVariables false
/-- A store's blocks lie below N. -/
structure StLo (S : Nat) (a b : Shp) (N : Nat) : Prop where
  s : S < N
  n : a.P < N ∧ a.p < N ∧ a.B < N ∧ a.G < N
  p : b.P < N ∧ b.p < N ∧ b.B < N ∧ b.G < N
section
variable {w0 w w' : World} {S : Nat} {a b : Shp} {th : Nat → Bool} {vr_ : Nat → Int} {W : Nat → Nat → Value} {th2 : Nat → Bool} {vr2 : Nat → Int} {W2 : Nat → Nat → Int} {N : Nat}
theorem StAt.lo (h : (StAt w S a b th vr_ W th2 vr2 W2)) : StLo S a b w.heap.size := ⟨h.sl, ⟨h.nd.pl, h.nd.ar.pl, h.nd.ar.lt.2, (h.nd.row.lt a.G rfl).2⟩, ⟨h.pg.pl, h.pg.ar.pl, h.pg.ar.lt.2, (h.pg.row.lt b.G rfl).2⟩⟩
theorem StLo.mono {M : Nat} (h : StLo S a b N) (hm : N ≤ M) : StLo S a b M := by
  have h1 := h.s
  have h2 := h.n
  have h3 := h.p
  exact ⟨by omega, by omega, by omega⟩
theorem StAt.under (h : (StAt w S a b th vr_ W th2 vr2 W2)) (hl : StLo S a b N) (hs : w.heap.size ≤ w'.heap.size) (hk : ∀ k, k < N → w'.heap[k]? = w.heap[k]?) : (StAt w' S a b th vr_ W th2 vr2 W2) := by
  have hS := hk S hl.s
  refine ⟨(World.cell?_of_block (a := ⟨S, 0, none⟩) hS).trans h.s0, (World.cell?_of_block (a := ⟨S, 1, none⟩) hS).trans h.s1, Nat.lt_of_lt_of_le h.sl hs, ?_, ?_, h.ab, h.hi, h.hs⟩
  · exact h.nd.same hs (hk _ hl.n.1) (hk _ hl.n.2.1) (hk _ hl.n.2.2.1) (hk _ hl.n.2.2.2)
  · exact h.pg.same hs (hk _ hl.p.1) (hk _ hl.p.2.1) (hk _ hl.p.2.2.1) (hk _ hl.p.2.2.2)
theorem set_heap (w : World) (g k j : Nat) (u : Value) (h : k ≠ g) : (w.setCell ⟨g, j, none⟩ u).heap[k]? = w.heap[k]? := Below.heap_setCell _ _ _ _ h
theorem SV.put1 (h : SV w0 w S a b th vr_ W th2 vr2 W2) (hl : StLo S a b N) (g j : Nat) (hg : N ≤ g) (h0 : w0.heap.size ≤ N) (u : Value) : SV w0 (w.setCell ⟨g, j, none⟩ u) S a b th vr_ W th2 vr2 W2 :=
  ⟨h.bel.setCell (Nat.le_trans h0 hg) _, h.wb, h.st.under hl (by simp) (fun k hk => set_heap _ _ _ _ _ (by omega))⟩
theorem SV.put5 (h : SV w0 w S a b th vr_ W th2 vr2 W2) (hl : StLo S a b N) (g : Nat) (hg : N ≤ g) (h0 : w0.heap.size ≤ N) (u0 u1 u2 u3 u4 : Value) : SV w0 (((((w.setCell ⟨g, 0, none⟩ u0).setCell ⟨g, 1, none⟩ u1).setCell ⟨g, 2, none⟩ u2).setCell ⟨g, 3, none⟩ u3).setCell ⟨g, 4, none⟩ u4) S a b th vr_ W th2 vr2 W2 :=
  ((((h.put1 hl g 0 hg h0 u0).put1 hl g 1 hg h0 u1).put1 hl g 2 hg h0 u2).put1 hl g 3 hg h0 u3).put1 hl g 4 hg h0 u4
end
theorem KeyC.set3 {w : World} {b : Nat} {k0 k1 k2 k3 k4 : Int} (h : KeyC w b k0 k1 k2 k3 k4) (z : Int) : KeyC (w.setCell ⟨b, 3, none⟩ (.int .i64 z)) b k0 k1 k2 z k4 := by
  refine ⟨by simpa using h.lt, ?_, ?_, ?_, ?_, ?_, fun j => by simpa using h.fr j⟩
  · rw [World.cell?_setCell_other _ _ _ _ (by simp)]; exact h.c0
  · rw [World.cell?_setCell_other _ _ _ _ (by simp)]; exact h.c1
  · rw [World.cell?_setCell_other _ _ _ _ (by simp)]; exact h.c2
  · exact World.cell?_setCell_same _ _ _ h.c3
  · rw [World.cell?_setCell_other _ _ _ _ (by simp)]; exact h.c4
/-- A way that ends well is one in a store that has more nodes. -/
theorem Way.more {a b : Shp} {th th' : Nat → Bool} {vr_ : Nat → Int} {W W' : Nat → Nat → Value} {th2 : Nat → Bool} {vr2 : Nat → Int} (hn : ∀ i, i < a.n → th i = true → th' i = true ∧ ∀ j y0 y1 y2 y3 y4, KAt (W i) j y0 y1 y2 y3 y4 → KAt (W' i) j y0 y1 y2 y3 y4)
    {k0 k1 k2 k3 k4 below addr : Int} {ro : Bool} {ids : List Int} {pg at_ : Int} {r : Bool} {f : Int} (h : Way a b th vr_ W th2 vr2 k0 k1 k2 k3 k4 below addr ro ids pg at_ r f) (hf : f = 0) : Way a b th' vr_ W' th2 vr2 k0 k1 k2 k3 k4 below addr ro ids pg at_ r f := by
  induction h with
  | fault s t l f h0 hs hl hz hf' => subst hf; simp at hf'
  | page h0 a0 hl ha => exact .page h0 a0 hl ha
  | node h i q r' p ad y0 y1 y2 y3 y4 hk hp ha had h1 h4 hl hd hi hn' ht hq hr hy next ih =>
    have hx := hn i hn' ht
    refine .node h i q r' p ad y0 y1 y2 y3 y4 hk hp ha had h1 h4 ?_ hd hi hn' hx.1 hq hr (hx.2 _ _ _ _ _ _ hy) (ih hf)
    subst hi
    simp [liveB, thereB, ht, hx.1] at hl ⊢
    exact hl
/-- The two errors that a key's test names. -/
theorem errs2 {l : List (String × DataW Unit)} {w : World} (h : laidMet Tryd.prog l w) (h1 : ∃ t, ("turnkey/api.ErrShape", DataW.iface "*errors.errorString" (.ptr (.agg [.lit (.string t)]))) ∈ l) (h2 : ∃ t, ("turnkey/api.ErrRange", DataW.iface "*errors.errorString" (.ptr (.agg [.lit (.string t)]))) ∈ l) : ∃ vs vr, ErrsAt vs vr w := by
  obtain ⟨t1, h1⟩ := h1
  obtain ⟨t2, h2⟩ := h2
  have E := errs_are (gs := [5, 3]) h (by
    intro g hg
    simp at hg
    rcases hg with rfl | rfl
    · exact ⟨_, t1, h1, gErrShape, tErrShape⟩
    · exact ⟨_, t2, h2, gErrRange, tErrRange⟩)
  obtain ⟨s1, s2, -⟩ := E.1 5 (by simp)
  obtain ⟨r1, r2, -⟩ := E.1 3 (by simp)
  exact ⟨_, _, s1, r1, s2, r2⟩
end Go.Proofs.YtjkbfhojjjkgnaaDoor
namespace Go.Proofs.YtjkbfhojjjkgnaaDoor
open Go.RowKit
theorem andN (x : Int) (m : Nat) (hm : m < 256) : bits BinOp.and IntKind.i64 x (m : Int) = (((BitVec.ofInt 64 x).toNat &&& m : Nat) : Int) := by
  show IntKind.i64.wrap ((BitVec.ofInt 64 x &&& BitVec.ofInt 64 (m : Int)).toNat : Int) = _
  rw [BitVec.toNat_and, BitVec.ofInt_natCast, BitVec.toNat_ofNat, Nat.mod_eq_of_lt (a := m) (by omega)]
  have : (BitVec.ofInt 64 x).toNat &&& m ≤ m := Nat.and_le_right
  rw [IntKind.wrap_i64]
  omega
theorem and3_in (x : Int) : ∃ n : Nat, n ≤ 3 ∧ bits BinOp.and IntKind.i64 x 3 = n := ⟨_, Nat.and_le_right, andN x 3 (by decide)⟩
theorem and7_in (x : Int) : ∃ n : Nat, n ≤ 7 ∧ bits BinOp.and IntKind.i64 x 7 = n := ⟨_, Nat.and_le_right, andN x 7 (by decide)⟩
theorem and15_in (x : Int) : ∃ n : Nat, n ≤ 15 ∧ bits BinOp.and IntKind.i64 x 15 = n := ⟨_, Nat.and_le_right, andN x 15 (by decide)⟩
theorem and75 (x : Int) : bits BinOp.and IntKind.i64 (bits BinOp.and IntKind.i64 x 7) 5 = bits BinOp.and IntKind.i64 x 5 := by
  have h7 := andN x 7 (by decide)
  have h5 := andN x 5 (by decide)
  have e := andN (((BitVec.ofInt 64 x).toNat &&& 7 : Nat) : Int) 5 (by decide)
  have hl : (BitVec.ofInt 64 x).toNat &&& 7 ≤ 7 := Nat.and_le_right
  rw [BitVec.ofInt_natCast, BitVec.toNat_ofNat, Nat.mod_eq_of_lt (a := (BitVec.ofInt 64 x).toNat &&& 7) (by omega), Nat.and_assoc] at e
  rw [show bits BinOp.and IntKind.i64 x 7 = (((BitVec.ofInt 64 x).toNat &&& 7 : Nat) : Int) from h7, show bits BinOp.and IntKind.i64 x 5 = (((BitVec.ofInt 64 x).toNat &&& 5 : Nat) : Int) from h5]
  exact e
end Go.Proofs.YtjkbfhojjjkgnaaDoor
namespace Go.Proofs.YtjkbfhojjjkgnaaDoor
open Go.ChangeShapes Go.WideShapes Go.ChangeAt Go.RowKit
set_option linter.unusedVariables false
theorem KeyC.set2 {w : World} {b : Nat} {k0 k1 k2 k3 k4 : Int} (h : KeyC w b k0 k1 k2 k3 k4) (z : Int) : KeyC (w.setCell ⟨b, 2, none⟩ (.int .i64 z)) b k0 k1 z k3 k4 := by
  refine ⟨by simpa using h.lt, ?_, ?_, ?_, ?_, ?_, fun j => by simpa using h.fr j⟩
  · rw [World.cell?_setCell_other _ _ _ _ (by simp)]; exact h.c0
  · rw [World.cell?_setCell_other _ _ _ _ (by simp)]; exact h.c1
  · exact World.cell?_setCell_same _ _ _ h.c2
  · rw [World.cell?_setCell_other _ _ _ _ (by simp)]; exact h.c3
  · rw [World.cell?_setCell_other _ _ _ _ (by simp)]; exact h.c4
/-- Node i of some: each slot holds a key. -/
def All16 (f : Nat → Value) : Prop := ∀ j, j < 16 → ∃ y0 y1 y2 y3 y4, KAt f j y0 y1 y2 y3 y4
theorem All16.one {f : Nat → Value} (h : All16 f) : ∀ b, b < 80 → (f b).oneCell' = true := KAt.one h
theorem All16.set {W : Nat → Nat → Value} {i : Nat} (h : All16 (W i)) (k s : Nat) (y0 y1 y2 y3 y4 : Int) : All16 (updV W k (s * 5) (k5 y0 y1 y2 y3 y4) i) := fun j hj => by
  by_cases e : i = k ∧ j = s
  · obtain ⟨rfl, rfl⟩ := e
    exact ⟨_, _, _, _, _, updV_key W i j y0 y1 y2 y3 y4⟩
  · obtain ⟨x0, x1, x2, x3, x4, hx⟩ := h j hj
    exact ⟨x0, x1, x2, x3, x4, updV_rest W k s i j y0 y1 y2 y3 y4 e hx⟩
theorem All16.fresh (W : Nat → Nat → Value) (i : Nat) (kk : Nat → Nat → Int) : All16 (freshV W i (kcs kk 0) i) := fun j hj => ⟨_, _, _, _, _, freshV_nokey W i kk 0 j (Nat.zero_le _) hj⟩
theorem All16.rest {W : Nat → Nat → Value} {a : Nat} (h : All16 (W a)) (i : Nat) (xs : List Value) (hne : a ≠ i) : All16 (freshV W i xs a) := fun j hj => by
  obtain ⟨x0, x1, x2, x3, x4, hx⟩ := h j hj
  exact ⟨x0, x1, x2, x3, x4, freshV_rest W i xs a j hne hx⟩
theorem fit64 {a : Int} (h : (Lit.int .i64 a).wf = true) : -9223372036854775808 ≤ a ∧ a ≤ 9223372036854775807 := by simpa [Lit.wf, IntKind.min, IntKind.max, IntKind.signed, IntKind.bits] using h
theorem fit32 {a : Int} (h : (Lit.int .u32 a).wf = true) : 0 ≤ a ∧ a ≤ 4294967295 := by simpa [Lit.wf, IntKind.min, IntKind.max, IntKind.signed, IntKind.bits] using h
theorem way_split (p : Nat) (hp : 0 < p) (m : Nat) (hm : m < 16 * p) : ∃ q s : Nat, q < 16 ∧ s < p ∧ m = q * p + s :=
  ⟨m / p, m % p, by rw [Nat.div_lt_iff_lt_mul hp]; exact hm, Nat.mod_lt _ hp, by rw [Nat.mul_comm]; exact (Nat.div_add_mod m p).symm⟩
/-- One step of a way: node i of height h, by slot q. -/
theorem way_at {a b : Shp} {th : Nat → Bool} {vr_ : Nat → Int} {W : Nat → Nat → Value} {th2 : Nat → Bool} {vr2 : Nat → Int} {k1 k2 k3 k4 below addr : Int} {ro : Bool} {ids : List Int} {pg at_ : Int} {r : Bool} {f : Int} (h i q s : Nat) (y0 y1 y2 y3 y4 : Int) (hk : k4 = h) (h1 : 1 ≤ h) (h4 : h ≤ 4) (ha : addr = ((q * (2 * 16 ^ h) + s : Nat) : Int)) (hd : (h : Int) < below) (hi : k1 = i) (hn : i < a.n) (ht : th i = true) (hv : vr_ i = k2) (hq : q < 16) (hr : s < 2 * 16 ^ h) (hy : KAt (W i) q y0 y1 y2 y3 y4) (next : Way a b th vr_ W th2 vr2 y0 y1 y2 y3 y4 h s (ro || roB k3) ids pg at_ r f) : Way a b th vr_ W th2 vr2 2 k1 k2 k3 k4 below addr ro (k1 :: ids) pg at_ r f :=
  .node h i q s (2 * 16 ^ h) _ y0 y1 y2 y3 y4 hk rfl ha rfl h1 h4 (by subst hi; simp [liveB, thereB, hn, ht, hv]) hd hi hn ht hq hr hy next
end Go.Proofs.YtjkbfhojjjkgnaaDoor
namespace Go.Proofs.YtjkbfhojjjkgnaaDoor
open Go.ChangeShapes Go.WideShapes Go.ChangeAt Go.RowKit
set_option linter.unusedVariables false
set_option linter.unusedSimpArgs false
theorem infoInt8 : (Tryd.prog.info? 3).map (fun i => (i.zero, i.size, i.bytes)) = some (some (.int .i64 0), 1, 8) := by kernel_rfl
/-- A slice of numbers, of one's own, in a variable that is caught. -/
structure IdAt (W0 w : World) (ib : Nat) (v : Value) (l : List Int) : Prop where
  bel : Below W0.heap.size W0 w
  ib0 : W0.heap.size ≤ ib
  ibl : ib < w.heap.size
  c : w.cell? ⟨ib, 0, none⟩ = some v
  fr : w.frozen? ⟨ib, 0, none⟩ = false
  row : w.ownsRow W0.heap.size 3 1 v l.length (l.map (Value.int .i64))
  ne : ∀ g, v.ownBlock = some g → g ≠ ib
theorem IdAt.same {W0 w w' : World} {ib : Nat} {v : Value} {l : List Int} (h : IdAt W0 w ib v l) (hb : Below W0.heap.size W0 w') (hs : w.heap.size ≤ w'.heap.size) (h1 : w'.heap[ib]? = w.heap[ib]?) (h2 : ∀ g, v.ownBlock = some g → w'.heap[g]? = w.heap[g]?) : IdAt W0 w' ib v l :=
  ⟨hb, h.ib0, Nat.lt_of_lt_of_le h.ibl hs, (World.cell?_of_block (a := ⟨ib, 0, none⟩) h1).trans h.c, (World.frozen?_of_block (a := ⟨ib, 0, none⟩) h1).trans h.fr, row_same' h.row h2, h.ne⟩
theorem IdAt.below {W0 w w' : World} {ib : Nat} {v : Value} {l : List Int} (h : IdAt W0 w ib v l) (hb : Below w.heap.size w w') : IdAt W0 w' ib v l :=
  h.same (h.bel.trans (hb.mono h.bel.size)) hb.size (hb.block ib h.ibl) (fun g hg => hb.block g (h.row.lt g hg).2)
theorem IdAt.put {W0 w : World} {ib : Nat} {v : Value} {l : List Int} (h : IdAt W0 w ib v l) (g j : Nat) (h1 : ib ≠ g) (h2 : v.ownBlock ≠ some g) (h0 : W0.heap.size ≤ g) (u : Value) : IdAt W0 (w.setCell ⟨g, j, none⟩ u) ib v l :=
  h.same (h.bel.setCell h0 _) (by simp) (set_heap _ _ _ _ _ h1) (fun k hk => set_heap _ _ _ _ _ (fun e => h2 (by rw [hk, e])))
theorem IdAt.put3 {W0 w : World} {ib : Nat} {v : Value} {l : List Int} (h : IdAt W0 w ib v l) (g : Nat) (h1 : ib ≠ g) (h2 : v.ownBlock ≠ some g) (h0 : W0.heap.size ≤ g) (u0 u1 u2 : Value) : IdAt W0 (((w.setCell ⟨g, 0, none⟩ u0).setCell ⟨g, 1, none⟩ u1).setCell ⟨g, 2, none⟩ u2) ib v l :=
  ((h.put g 0 h1 h2 h0 u0).put g 1 h1 h2 h0 u1).put g 2 h1 h2 h0 u2
theorem IdAt.put5 {W0 w : World} {ib : Nat} {v : Value} {l : List Int} (h : IdAt W0 w ib v l) (g : Nat) (h1 : ib ≠ g) (h2 : v.ownBlock ≠ some g) (h0 : W0.heap.size ≤ g) (y0 y1 y2 y3 y4 : Int) : IdAt W0 (((((w.setCell ⟨g, 0, none⟩ (.int .i64 y0)).setCell ⟨g, 1, none⟩ (.int .i64 y1)).setCell ⟨g, 2, none⟩ (.int .i64 y2)).setCell ⟨g, 3, none⟩ (.int .i64 y3)).setCell ⟨g, 4, none⟩ (.int .u32 y4)) ib v l :=
  ((((h.put g 0 h1 h2 h0 _).put g 1 h1 h2 h0 _).put g 2 h1 h2 h0 _).put g 3 h1 h2 h0 _).put g 4 h1 h2 h0 _
/-- The row lies in no box of the walk. -/
def OwnFar (v : Value) (n : Nat) : Prop := v.ownBlock ≠ some (n + 1 + 1) ∧ v.ownBlock ≠ some (n + 1)
theorem ownFar_nil (n : Nat) : OwnFar (.slice none 0 0) n := ⟨by simp [Value.ownBlock], by simp [Value.ownBlock]⟩
theorem OwnFar.next {v v' : Value} {n m : Nat} (h : OwnFar v n) (hm : n + 1 + 1 < m) (hv : v'.ownBlock = v.ownBlock ∨ ∃ g, m ≤ g ∧ v'.ownBlock = some g) : OwnFar v' n := by
  rcases hv with e | ⟨g, hg, e⟩
  · unfold OwnFar; rw [e]; exact h
  · unfold OwnFar; rw [e]; exact ⟨fun x => by injection x with x; omega, fun x => by injection x with x; omega⟩
theorem PlC.same {w w' : World} {b : Nat} {x y : Int} {r : Bool} (h : PlC w b x y r) (hs : w.heap.size ≤ w'.heap.size) (e : w'.heap[b]? = w.heap[b]?) : PlC w' b x y r :=
  ⟨Nat.lt_of_lt_of_le h.lt hs, (World.cell?_of_block (a := ⟨b, 0, none⟩) e).trans h.c0, (World.cell?_of_block (a := ⟨b, 1, none⟩) e).trans h.c1, (World.cell?_of_block (a := ⟨b, 2, none⟩) e).trans h.c2, fun j => (World.frozen?_of_block (a := ⟨b, j, none⟩) e).trans (h.fr j)⟩
theorem one_new (w : World) (x : Int) (t : TypeId) : ∀ j u, [Value.int .i64 x][j]? = some u → (w.alloc (.cells #[.int .i64 x] t (0, 0))).cell? (Addr.add ⟨w.heap.size, 0, none⟩ j) = some u := by
  intro j u hj
  match j, hj with
  | 0, hj => simp at hj; subst hj; simp [Addr.add]
set_option maxRecDepth 100000 in
theorem push_is {W0 : World} {ib : Nat} {v : Value} {l : List Int} (x : Int) (hl : Hid (l.length + 1 ≤ 1000)) (w : World) (h : IdAt W0 w ib v l) :
    Calls Tryd.prog 103 #[.int .i64 x, .pointer (some ⟨ib, 0, none⟩)] w fun e w' => e = .returned (.tuple #[]) ∧ ∃ v', IdAt W0 w' ib v' (l ++ [x]) ∧ (w.heap.size ≤ w'.heap.size ∧ ∀ k, k < w.heap.size → k ≠ ib → v.ownBlock ≠ some k → w'.heap[k]? = w.heap[k]?) ∧ (v'.ownBlock = v.ownBlock ∨ ∃ g, w.heap.size ≤ g ∧ v'.ownBlock = some g) := by
  obtain ⟨i0, hi, hz0, hz1, hz2⟩ := info_parts infoInt8
  have HI := Lib.hid (⟨hi, hz0, hz1, hz2⟩ : Tryd.prog.info? 3 = some i0 ∧ i0.zero = some (.int .i64 0) ∧ i0.size = 1 ∧ i0.bytes = 8)
  have H := Lib.hid h
  have c0 := h.c
  have c1 : ∀ o, (w.alloc o).cell? ⟨ib, 0, none⟩ = some v := fun o => (h.below ((Below.refl _ _).alloc (Nat.le_refl _) _)).c
  obtain ⟨n, Hn⟩ : ∃ n, Hid (l.length = n) := ⟨_, Lib.hid rfl⟩
  have HRow : Hid (w.ownsRow W0.heap.size 3 1 v n (l.map (Value.int .i64))) := Lib.hid (by rw [← Hn.out]; exact h.row)
  have HM : Hid (n + 1 ≤ maxLen ∧ (n + 1) * 8 ≤ 140737488355328) := Lib.hid (by have := hl.out; have := Hn.out; unfold maxLen; omega)
  clear h hi hz0 hz1 hz2
  go_enter Tryd.func103, Tryd.ntmps103
  go_wp2_with (first
    | (at_builtin; refine wpList_append_own_at _ rfl _ _ 37 rfl W0.heap.size 3 i0 (.int .i64 0) 1 8 Tryd.underlying37 HI.out.1 HI.out.2.1 HI.out.2.2.1 HI.out.2.2.2 rfl (by decide) v n _ rfl (HRow.out.alloc _) ⟨w.heap.size, 0, none⟩ 1 1 [.int .i64 x] rfl rfl (one_new _ _ _) (by intro u hu; simp at hu; subst hu; rfl) HM.out.1 HM.out.2 (by have := H.out.bel.size; simp; omega) ?_; intro v' w9 hown hgrow hnil hloc; obtain ⟨va, vc, rfl⟩ := own_shape' hown; have HOW := Lib.hid hown; have HGR := Lib.hid hgrow; have HLC : Hid ((Value.slice va (n + 1) vc).ownBlock = v.ownBlock ∨ _) := Lib.hid hloc; have hib := (World.cell?_of_block (a := ⟨ib, 0, none⟩) (HGR.out.block ib (by have := H.out.ibl; simp; omega) (fun e => H.out.ne ib e.symm rfl))).trans (H.out.below ((Below.refl _ _).alloc (Nat.le_refl _) _)).c; have hif := (World.frozen?_of_block (a := ⟨ib, 0, none⟩) (HGR.out.block ib (by have := H.out.ibl; simp; omega) (fun e => H.out.ne ib e.symm rfl))).trans (H.out.below ((Below.refl _ _).alloc (Nat.le_refl _) _)).fr; clear hown hgrow hnil hloc))
  go_end0
  have hs1 : w.heap.size + 1 ≤ w9.heap.size := by have := HGR.out.size; simpa using this
  obtain ⟨v', hv0⟩ : ∃ v', v' = Value.slice va (n + 1) vc := ⟨_, rfl⟩
  rw [← hv0] at HOW HLC ⊢
  have hv' : ∀ g, v'.ownBlock = some g → g ≠ ib := by
    intro g hg
    rcases HLC.out with e | e
    · exact H.out.ne g (by rw [← e]; exact hg)
    · rw [e] at hg; injection hg with hg; have := H.out.ibl; simp at hg; omega
  have hbk : ∀ k, k < w.heap.size → k ≠ ib → v.ownBlock ≠ some k → (w9.setCell ⟨ib, 0, none⟩ v').heap[k]? = w.heap[k]? := fun k hk hki hkv => by
    rw [set_heap _ _ _ _ _ hki, HGR.out.block k (by simp; omega) (fun e => hkv e.symm)]
    exact ((Below.refl _ _).alloc (Nat.le_refl _) _ : Below w.heap.size w (w.alloc _)).block k hk
  refine ⟨rfl, v', ⟨?_, H.out.ib0, ?_, ?_, ?_, ?_, hv'⟩, ⟨by simp; omega, hbk⟩, ?_⟩
  · exact ((H.out.bel.alloc H.out.bel.size _).grown HGR.out (by have := H.out.bel.size; simp; omega) (fun g hg => (HRow.out.lt g hg).1)).setCell H.out.ib0 _
  · have := H.out.ibl; simp; omega
  · exact World.cell?_setCell_same _ _ _ hib
  · simpa using hif
  · have hr := HOW.out
    rw [← Hn.out] at hr
    have e : (l ++ [x]).length = l.length + 1 := by simp
    rw [e, List.map_append]
    exact row_same' hr (fun g hg => set_heap _ _ _ _ _ (hv' g hg))
  · rcases HLC.out with e | e
    · exact .inl e
    · exact .inr ⟨w.heap.size + 1, by omega, by rw [e]; simp⟩
end Go.Proofs.YtjkbfhojjjkgnaaDoor
namespace Go.Proofs.YtjkbfhojjjkgnaaDoor
open Go.ChangeShapes Go.WideShapes Go.ChangeAt Go.RowKit
set_option linter.unusedVariables false
set_option linter.unusedSimpArgs false
set_option maxRecDepth 100000 in
set_option maxHeartbeats 4000000 in
theorem pwalk1_is {S : Nat} {a b : Shp} {th : Nat → Bool} {vr_ : Nat → Int} {W : Nat → Nat → Value} {th2 : Nat → Bool} {vr2 : Nat → Int} {W2 : Nat → Nat → Int} (k0 k1 k2 k3 k4 addr : Int) (L : List Int) (hL : Hid (L.length ≤ 100)) (pg at_ : Int) (r : Bool) (f : Int) (hw : Hid (Way a b th vr_ W th2 vr2 k0 k1 k2 k3 k4 5 addr false L pg at_ r f)) (W0 w : World) (h : (StAt W0 S a b th vr_ W th2 vr2 W2)) (ib : Nat) (hI : IdAt W0 w ib (.slice none 0 0) []) :
    Calls Tryd.prog 100 #[.pointer (some ⟨S, 0, none⟩), (Value.agg #[.int .i64 k0, .int .i64 k1, .int .i64 k2, .int .i64 k3, .int .u32 k4]), .int .u32 addr, .func (.func 103) #[] #[.pointer (some ⟨ib, 0, none⟩)]] w fun e w' => e = .returned (.tuple #[.agg #[.int .i64 pg, .int .i64 at_, .bool r], .int .i64 f]) ∧ ∃ v, IdAt W0 w' ib v L := by
  have H := Lib.hid h
  have HI := Lib.hid hI
  have HW0 := Lib.hid hI.bel.size
  have HIB := Lib.hid hI.ibl
  clear h hI
  go_enter Tryd.func100, Tryd.ntmps100
  go_wp2_with fail
  go_loopw [2, 11, 12] (fun vA vB vR wr => ∃ k0 k1 k2 k3 k4 below addr ro ids v l, vA = .int .u32 addr ∧ vB = .int .u32 below ∧ vR = .bool ro ∧ Way a b th vr_ W th2 vr2 k0 k1 k2 k3 k4 below addr ro ids pg at_ r f ∧ KeyC wr (w.heap.size + 1 + 1) k0 k1 k2 k3 k4 ∧ PlC wr (w.heap.size + 1) 0 0 false ∧ Below W0.heap.size W0 wr ∧ IdAt W0 wr ib v l ∧ l ++ ids = L ∧ OwnFar v w.heap.size) (fun _ vB _ _ => (intOf vB).toNat)
  case atStart =>
    refine ⟨k0, k1, k2, k3, k4, 5, addr, false, L, _, [], rfl, rfl, rfl, hw.out, ?_, ?_, ?_, ?_, rfl, ownFar_nil _⟩
    · exact KeyC.new3 _ _ _ _ _ _ _ _ _
    · exact PlC.new2 _ _ _ _ _ _ _
    · exact ((HI.out.bel.alloc HW0.out _).alloc (by have := HW0.out; simp; omega) _).alloc (by have := HW0.out; simp; omega) _
    · exact ((HI.out.below ((Below.refl _ _).alloc (Nat.le_refl _) _)).below ((Below.refl _ _).alloc (Nat.le_refl _) _)).below ((Below.refl _ _).alloc (Nat.le_refl _) _)
  case round =>
    obtain ⟨k0, k1, k2, k3, k4, below, addr, ro, ids, v, l, rfl, rfl, rfl, hW, hK, hP, hB, hI, hl, hO⟩ := hrel
    have HIr := Lib.hid hI
    have HLr := Lib.hid hl
    have HOr := Lib.hid hO
    clear hI hl hO
    have q0 := hK.c0
    have q1 := hK.c1
    have q2 := hK.c2
    have q3 := hK.c3
    have q4 := hK.c4
    have HK := Lib.hid hK
    have HP := Lib.hid hP
    have HB := Lib.hid hB
    have H1 := Lib.hid (H.out.below hB)
    clear hK hP hB
    cases hW with
    | fault s t l f h0 hs hl hz hf =>
      have HS := Lib.hid hs
      have HL := Lib.hid hl
      have HZ := Lib.hid hz
      clear hs hl hz
      go_wp2_with (first
        | (go_at_call 104; (with_reducible refine (penter_at k0 k1 k2 k3 k4 below addr h0 s t l HS HL 0 f HZ _ H1.out).mono ?_); rintro e w1 ⟨rfl, hb⟩; have HB1 := Lib.hid (HB.out.trans (hb.mono HB.out.size)); have HI1 := Lib.hid (HIr.out.below hb); have hP1 := HP.out.below hb; have HP1 := Lib.hid hP1; have p0 := hP1.c0; have p1 := hP1.c1; have p2 := hP1.c2; have pf0 := hP1.fr 0; have pf1 := hP1.fr 1; have pf2 := hP1.fr 2; clear hb hP1))
      refine bodyPost_ret (v := .tuple #[.agg #[.int .i64 0, .int .i64 0, .bool false], .int .i64 f]) (by have d := HP1.out.set 0 0 false; have d0 := d.c0; have d1 := d.c1; have d2 := d.c2; simp [results, Tryd.results100, go_sem, d0, d1, d2]) rfl ⟨rfl, ?_⟩
      exact ⟨v, by have e := HLr.out; rw [List.append_nil] at e; rw [← e]; exact HI1.out.put3 _ (by have := HIB.out; omega) HOr.out.2 (by have := HW0.out; omega) _ _ _⟩
    | page h0 ha0 hl ha =>
      have HL := Lib.hid hl
      have hwr : wrap64 at_ = at_ := by unfold wrap64; omega
      have HZ : Hid (entP 32 true true 3 k4 below at_ = (32, 0)) := Lib.hid (by unfold entP; rw [if_neg (by decide), if_neg (by omega), if_neg (by omega)])
      clear hl ha
      cases ro <;> (
        go_wp2_with (first
          | (go_at_call 104; (with_reducible refine (penter_at 3 pg k2 k3 k4 below at_ h0 32 true true (Lib.hid ⟨rfl, rfl⟩) HL 32 0 HZ _ H1.out).mono ?_); rintro e w1 ⟨rfl, hb⟩; have HB1 := Lib.hid (HB.out.trans (hb.mono HB.out.size)); have HI1 := Lib.hid (HIr.out.below hb); have hP1 := HP.out.below hb; have HP1 := Lib.hid hP1; have p0 := hP1.c0; have p1 := hP1.c1; have p2 := hP1.c2; have pf0 := hP1.fr 0; have pf1 := hP1.fr 1; have pf2 := hP1.fr 2; have hK1 := HK.out.below hb; have q0 := hK1.c0; have q1 := hK1.c1; have q2 := hK1.c2; have q3 := hK1.c3; have q4 := hK1.c4; clear hb hP1 hK1))
        first
          | (refine bodyPost_ret (v := .tuple #[.agg #[.int .i64 pg, .int .i64 at_, .bool true], .int .i64 0]) (by have d := HP1.out.set pg at_ true; have d0 := d.c0; have d1 := d.c1; have d2 := d.c2; simp [results, Tryd.results100, go_sem, d0, d1, d2]) rfl ⟨rfl, ?_⟩; exact ⟨v, by have e := HLr.out; rw [List.append_nil] at e; rw [← e]; exact HI1.out.put3 _ (by have := HIB.out; omega) HOr.out.2 (by have := HW0.out; omega) _ _ _⟩)
          | (refine bodyPost_ret (v := .tuple #[.agg #[.int .i64 pg, .int .i64 at_, .bool (bits BinOp.and IntKind.i64 k3 5 != 0)], .int .i64 0]) (by have d := HP1.out.set pg at_ (bits BinOp.and IntKind.i64 k3 5 != 0); have d0 := d.c0; have d1 := d.c1; have d2 := d.c2; simp [results, Tryd.results100, go_sem, d0, d1, d2]) rfl ⟨rfl, ?_⟩; exact ⟨v, by have e := HLr.out; rw [List.append_nil] at e; rw [← e]; exact HI1.out.put3 _ (by have := HIB.out; omega) HOr.out.2 (by have := HW0.out; omega) _ _ _⟩)
)
    | node h i q r' p ad y0 y1 y2 y3 y4 hk hp ha had h1 h4 hl hd hi hn ht hq hr hy next =>
      subst hk
      subst hi
      subst ha
      have HS : Hid (szP 2 h = ((16 * p : Nat) : Int) ∧ szB 2 h = true) := Lib.hid (way_sz h h1 h4 p hp)
      have hlt : ad < 16 * p := by rw [had]; exact way_lt q p r' hq hr
      have hp5 : p ≤ 131072 := by rw [hp]; exact way_big h h4
      have e1 : ((16 * p : Nat) : Int).tdiv 16 % 4294967296 = p := by rw [Int.tdiv_eq_ediv_of_nonneg (by omega)]; omega
      have E2 : Hid (IntKind.i64.wrap ((ad : Int) / p % 4294967296) = q) := Lib.hid (by rw [had, way_div q p r' hr, IntKind.wrap_i64]; omega)
      have E3 : Hid ((ad : Int) % p = r') := Lib.hid (by rw [had, way_mod q p r' hr])
      have e5 : ¬ p = 0 := by omega
      have E5 : Hid (IntKind.u32.wrap ((ad : Int) / p) = q) := Lib.hid (by rw [had, way_div q p r' hr, IntKind.wrap_u32]; omega)
      have E6 : Hid (IntKind.i64.wrap (q : Int) = q) := Lib.hid (by rw [IntKind.wrap_i64]; omega)
      have g0 : Hid (W i (q * 5) = .int .i64 y0) := Lib.hid hy.1
      have g1 : Hid (W i (q * 5 + 1) = .int .i64 y1) := Lib.hid hy.2.1
      have g2 : Hid (W i (q * 5 + 2) = .int .i64 y2) := Lib.hid hy.2.2.1
      have g3 : Hid (W i (q * 5 + 3) = .int .i64 y3) := Lib.hid hy.2.2.2.1
      have g4 : Hid (W i (q * 5 + 4) = .int .u32 y4) := Lib.hid hy.2.2.2.2
      have HT : Hid (th i = true) := Lib.hid ht
      have HZ : Hid (entP ((16 * p : Nat) : Int) true true 2 h below ad = (((16 * p : Nat) : Int), 0)) := Lib.hid (by unfold entP; rw [if_neg (by decide), if_neg (by omega), if_neg (by omega)])
      have HLen : Hid (l.length + 1 ≤ 1000) := Lib.hid (by have e := HLr.out; have := hL.out; rw [← e] at this; simp at this; omega)
      have HL := Lib.hid hl
      have H0 : Hid ((0 : Int) ≤ h) := Lib.hid (by omega)
      obtain ⟨sz, Hsz⟩ : ∃ sz : Int, Hid (((16 * p : Nat) : Int) = sz) := ⟨_, Lib.hid rfl⟩
      rw [Hsz.out] at HS HZ e1
      clear hl had hp hlt hy ht
      go_upto_region 5 with (first
        | (go_at_call 104; (with_reducible refine (penter_at 2 i k2 k3 h below ad H0.out _ true true HS HL _ 0 HZ _ H1.out).mono ?_); rintro e w1 ⟨rfl, hb⟩; have HB1 := Lib.hid (HB.out.trans (hb.mono HB.out.size)); have HI1 := Lib.hid (HIr.out.below hb); have HP1 := Lib.hid (HP.out.below hb); have hK1 := HK.out.below hb; have HK1 := Lib.hid hK1; have q0 := hK1.c0; have q1 := hK1.c1; have q2 := hK1.c2; have q3 := hK1.c3; have q4 := hK1.c4; have H2 := Lib.hid (H1.out.below hb); clear hb hK1))
      go_cut [12] (fun vq wx => vq = .bool (ro || roB k3) ∧ w1 = wx)
      case first =>
        cases ro <;> (go_wp2_with fail; go_meet; exact ⟨rfl, rfl⟩)
      case rest =>
        obtain ⟨rfl, rfl⟩ := hcut
        obtain ⟨rb, Hrb⟩ : ∃ rb, Hid ((ro || roB k3) = rb) := ⟨_, Lib.hid rfl⟩
        rw [Hrb.out] at next ⊢
        clear Hrb
        go_upto_region 10 with (first
          | (go_at_call 103; (with_reducible refine (push_is (i : Int) HLen _ HI1.out).mono ?_); rintro e w2 ⟨rfl, v', hI2, hkeep, hown⟩; have HI2 := Lib.hid hI2; have HKP := Lib.hid hkeep; have HOW := Lib.hid (HOr.out.next (by have := HK1.out.lt; omega) hown); clear hI2 hkeep hown))
        have HK1' := Lib.hid (HK1.out.same HKP.out.1 (HKP.out.2 _ HK1.out.lt (by have := HIB.out; omega) HOr.out.1))
        have HP1' := Lib.hid (HP1.out.same HKP.out.1 (HKP.out.2 _ HP1.out.lt (by have := HIB.out; omega) HOr.out.2))
        have H2' := Lib.hid (H.out.below HI2.out.bel)
        have HB1' := Lib.hid HI2.out.bel
        clear q0 q1 q2 q3 q4 HK1 HP1 H2 HB1 HI1
        have HK1 := HK1'
        have HP1 := HP1'
        have H2 := H2'
        have HB1 := HB1'
        have HI1 := HI2
        have q0 := HK1.out.c0
        have q1 := HK1.out.c1
        have q2 := HK1.out.c2
        have q3 := HK1.out.c3
        have q4 := HK1.out.c4
        rw [e1]
        go_cut [16, 17] (fun u o wx => ∃ bx : Nat, u = .pointer (some ⟨bx, 0, none⟩) ∧ o = .bool true ∧ Below W0.heap.size W0 wx ∧ KeyC wx bx y0 y1 y2 y3 y4 ∧ KeyC wx (w.heap.size + 1 + 1) 2 i k2 k3 h ∧ PlC wx (w.heap.size + 1) 0 0 false ∧ w.heap.size + 1 + 1 < bx ∧ IdAt W0 wx ib v' (l ++ [(i : Int)]))
        case first =>
          have hz := HB1.out.size
          have hz2 : w.heap.size + 1 + 1 < w2.heap.size := HK1.out.lt
          have hSS : Hid (∀ w', Below w2.heap.size w2 w' → World.cell? w' ⟨S, 0, none⟩ = some (.pointer (some ⟨a.P, 0, none⟩)) ∧ World.cell? w' ⟨w.heap.size + 1 + 1, 1, none⟩ = some (.int .i64 i)) := Lib.hid (fun w' hb => ⟨(H2.out.below hb).s0, (HK1.out.below hb).c1⟩)
          refine wp_region_noPanic ?_
          refine wp_region_held_drew (S := fun w' => World.cell? w' ⟨S, 0, none⟩ = some (.pointer (some ⟨a.P, 0, none⟩)) ∧ World.cell? w' ⟨w.heap.size + 1 + 1, 1, none⟩ = some (.int .i64 i)) (by kernel_rfl) ⟨(H2.out.below (Below.refl w2.heap.size w2).drew).s0, (HK1.out.below (Below.refl w2.heap.size w2).drew).c1⟩ (fun hHeld => ?_)
          refine wpAnyH_take (i := 0) (v := ?_) (by rfl) (by kernel_rfl) (by kernel_rfl) (by kernel_rfl) (fun _ _ _ h => h) (Or.inl ⟨by kernel_rfl, ?_⟩) (by assumption) ?_; rotate_left 1; (focus (intro w hSw; (try dsimp only at hSw); simp only [List.getElem_toArray, List.getElem_cons_succ, List.getElem_cons_zero]; all_goals go_simp; all_goals (try with_reducible rfl))); (try simp only [Act.put, List.getElem_toArray, List.getElem_cons_succ, List.getElem_cons_zero, List.setIfInBounds_toArray, List.set_cons_zero, List.set_cons_succ])
          refine wpAnyH_take (i := 1) (v := ?_) (by rfl) (by kernel_rfl) (by kernel_rfl) (by kernel_rfl) (fun _ _ _ h => h) (Or.inl ⟨by kernel_rfl, ?_⟩) (by assumption) ?_; rotate_left 1; (focus (intro w hSw; (try dsimp only at hSw); simp only [List.getElem_toArray, List.getElem_cons_succ, List.getElem_cons_zero]; all_goals go_simp; all_goals (try with_reducible rfl))); (try simp only [Act.put, List.getElem_toArray, List.getElem_cons_succ, List.getElem_cons_zero, List.setIfInBounds_toArray, List.set_cons_zero, List.set_cons_succ])
          refine wpAnyH_take (i := 2) (v := ?_) (by rfl) (by kernel_rfl) (by kernel_rfl) (by kernel_rfl) (fun _ _ _ h => h) (Or.inl ⟨by kernel_rfl, ?_⟩) (by assumption) ?_; rotate_left 1; (focus (intro w hSw; (try dsimp only at hSw); simp only [List.getElem_toArray, List.getElem_cons_succ, List.getElem_cons_zero]; all_goals go_simp; all_goals (try with_reducible rfl))); (try simp only [Act.put, List.getElem_toArray, List.getElem_cons_succ, List.getElem_cons_zero, List.setIfInBounds_toArray, List.set_cons_zero, List.set_cons_succ])
          refine wpAnyH_take (i := 3) (v := ?_) (by rfl) (by kernel_rfl) (by kernel_rfl) (by kernel_rfl) (fun _ _ _ h => h) (Or.inl ⟨by kernel_rfl, ?_⟩) (by assumption) ?_; rotate_left 1; (focus (intro w hSw; (try dsimp only at hSw); simp only [List.getElem_toArray, List.getElem_cons_succ, List.getElem_cons_zero]; all_goals go_simp; all_goals (try with_reducible rfl))); (try simp only [Act.put, List.getElem_toArray, List.getElem_cons_succ, List.getElem_cons_zero, List.setIfInBounds_toArray, List.set_cons_zero, List.set_cons_succ])
          refine wpAnyH_take (i := 4) (v := ?_) (by rfl) (by kernel_rfl) (by kernel_rfl) (by kernel_rfl) (fun _ _ _ h => h) (Or.inl ⟨by kernel_rfl, ?_⟩) (by assumption) ?_; rotate_left 1; (focus (intro w hSw; (try dsimp only at hSw); simp only [List.getElem_toArray, List.getElem_cons_succ, List.getElem_cons_zero]; all_goals go_simp; all_goals (try with_reducible rfl))); (try simp only [Act.put, List.getElem_toArray, List.getElem_cons_succ, List.getElem_cons_zero, List.setIfInBounds_toArray, List.set_cons_zero, List.set_cons_succ])
          refine wpAnyH_take (i := 5) (v := ?_) (by rfl) (by kernel_rfl) (by kernel_rfl) (by kernel_rfl) (fun _ _ _ h => h) (Or.inl ⟨by kernel_rfl, ?_⟩) (by assumption) ?_; rotate_left 1; (focus (intro w hSw; (try dsimp only at hSw); simp only [List.getElem_toArray, List.getElem_cons_succ, List.getElem_cons_zero]; all_goals go_simp; all_goals (try with_reducible rfl))); (try simp only [Act.put, List.getElem_toArray, List.getElem_cons_succ, List.getElem_cons_zero, List.setIfInBounds_toArray, List.set_cons_zero, List.set_cons_succ])
          refine wpAnyH_take (i := 6) (v := ?_) (by rfl) (by kernel_rfl) (by kernel_rfl) (by kernel_rfl) (fun _ _ _ h => h) (Or.inl ⟨by kernel_rfl, ?_⟩) (by assumption) ?_; rotate_left 1; (focus (intro w hSw; (try dsimp only at hSw); simp only [List.getElem_toArray, List.getElem_cons_succ, List.getElem_cons_zero]; all_goals go_simp; all_goals (try with_reducible rfl))); (try simp only [Act.put, List.getElem_toArray, List.getElem_cons_succ, List.getElem_cons_zero, List.setIfInBounds_toArray, List.set_cons_zero, List.set_cons_succ])
          refine wpAnyH_take (i := 7) (v := ?_) (by rfl) (by kernel_rfl) (by kernel_rfl) (by kernel_rfl) (fun _ _ _ h => h) (Or.inl ⟨by kernel_rfl, ?_⟩) (by assumption) ?_; rotate_left 1; (focus (intro w hSw; (try dsimp only at hSw); simp only [List.getElem_toArray, List.getElem_cons_succ, List.getElem_cons_zero]; all_goals go_simp; all_goals (try with_reducible rfl))); (try simp only [Act.put, List.getElem_toArray, List.getElem_cons_succ, List.getElem_cons_zero, List.setIfInBounds_toArray, List.set_cons_zero, List.set_cons_succ])
          refine wpAnyH_take (i := 8) (v := .int .u32 q) (by rfl) (by kernel_rfl) (by kernel_rfl) (by kernel_rfl) (fun _ _ _ h => h) (Or.inl ⟨by kernel_rfl, ?_⟩) (by assumption) ?_
          · intro w hSw
            simp only [List.getElem_toArray, List.getElem_cons_succ, List.getElem_cons_zero]
            go_simp
            first | rfl | rw [E5.out]
          simp only [Act.put, List.getElem_toArray, List.getElem_cons_succ, List.getElem_cons_zero, List.setIfInBounds_toArray, List.set_cons_zero, List.set_cons_succ]
          refine wpAnyH_take (i := 9) (v := .int .i64 q) (by rfl) (by kernel_rfl) (by kernel_rfl) (by kernel_rfl) (fun _ _ _ h => h) (Or.inl ⟨by kernel_rfl, ?_⟩) (by assumption) ?_
          · intro w hSw
            simp only [List.getElem_toArray, List.getElem_cons_succ, List.getElem_cons_zero]
            go_simp
            first | rfl | rw [E6.out]
          simp only [Act.put, List.getElem_toArray, List.getElem_cons_succ, List.getElem_cons_zero, List.setIfInBounds_toArray, List.set_cons_zero, List.set_cons_succ]
          refine wpAnyH_ready (rs := [10, 14]) (by kernel_rfl) (by simp) ?_
          refine AllReadyH.cons (by rfl) (fun K hK => ?_) (AllReadyH.cons (by rfl) (fun K hK => ?_) AllReadyH.nil)
          · skip
            rw [if_pos (by kernel_rfl)]
            simp only [List.getElem_toArray, List.getElem_cons_succ, List.getElem_cons_zero]
            go_wp2_with (first | (go_at_call 105; (with_reducible refine (nget_at i q i q (Lib.hid rfl) (Lib.hid rfl) hn hq HT y0 y1 y2 y3 y4 g0 g1 g2 g3 g4 _ (H2.out.below (Below.refl w2.heap.size w2).drew).nd).mono ?_); rintro e w3 ⟨rfl, hb⟩; have HBB := Lib.hid ((Below.refl w2.heap.size w2).drew.trans (hb.mono (by simp))); clear hb))
            refine hK.out _ _ (hSS.out _ HBB.out) (fun hHeld => ?_)
            clear hK K
            (try simp only [Act.put, List.getElem_toArray, List.getElem_cons_succ, List.getElem_cons_zero, List.setIfInBounds_toArray, List.set_cons_zero, List.set_cons_succ])
            refine wpAnyH_take (i := 11) (v := ?_) (by rfl) (by kernel_rfl) (by kernel_rfl) (by kernel_rfl) (fun _ _ _ h => h) (Or.inl ⟨by kernel_rfl, ?_⟩) (by assumption) ?_; rotate_left 1; (focus (intro w hSw; (try dsimp only at hSw); simp only [List.getElem_toArray, List.getElem_cons_succ, List.getElem_cons_zero]; all_goals go_simp; all_goals (try with_reducible rfl))); (try simp only [Act.put, List.getElem_toArray, List.getElem_cons_succ, List.getElem_cons_zero, List.setIfInBounds_toArray, List.set_cons_zero, List.set_cons_succ])
            refine wpAnyH_take (i := 12) (v := ?_) (by rfl) (by kernel_rfl) (by kernel_rfl) (by kernel_rfl) (fun _ _ _ h => h) (Or.inl ⟨by kernel_rfl, ?_⟩) (by assumption) ?_; rotate_left 1; (focus (intro w hSw; (try dsimp only at hSw); simp only [List.getElem_toArray, List.getElem_cons_succ, List.getElem_cons_zero]; all_goals go_simp; all_goals (try with_reducible rfl))); (try simp only [Act.put, List.getElem_toArray, List.getElem_cons_succ, List.getElem_cons_zero, List.setIfInBounds_toArray, List.set_cons_zero, List.set_cons_succ])
            refine wpAnyH_take (i := 13) (v := ?_) (by rfl) (by kernel_rfl) (by kernel_rfl) (by kernel_rfl) (fun _ _ _ h => h) (Or.inl ⟨by kernel_rfl, ?_⟩) (by assumption) ?_; rotate_left 1; (focus (intro w hSw; (try dsimp only at hSw); simp only [List.getElem_toArray, List.getElem_cons_succ, List.getElem_cons_zero]; all_goals go_simp; all_goals (try with_reducible rfl))); (try simp only [Act.put, List.getElem_toArray, List.getElem_cons_succ, List.getElem_cons_zero, List.setIfInBounds_toArray, List.set_cons_zero, List.set_cons_succ])
            refine wpAnyH_ready (rs := [14]) (by kernel_rfl) (by simp) ?_
            refine AllReadyH.cons (by rfl) (fun K hK => ?_) AllReadyH.nil
            rw [if_pos (by kernel_rfl)]
            simp only [List.getElem_toArray, List.getElem_cons_succ, List.getElem_cons_zero]
            go_wp2_with fail
            refine hK.out _ _ (hSS.out _ (HBB.out.alloc HBB.out.size _)) (fun hHeld => ?_)
            clear hK K
            (try simp only [Act.put, List.getElem_toArray, List.getElem_cons_succ, List.getElem_cons_zero, List.setIfInBounds_toArray, List.set_cons_zero, List.set_cons_succ])
            refine wpAnyH_ready (rs := [15]) (by kernel_rfl) (by simp) ?_
            refine AllReadyH.cons (by rfl) (fun K hK => ?_) AllReadyH.nil
            rw [if_pos (by kernel_rfl)]
            simp only [List.getElem_toArray, List.getElem_cons_succ, List.getElem_cons_zero]
            go_wp2_with fail
            refine hK.out _ _ (hSS.out _ (HBB.out.alloc HBB.out.size _)) (fun hHeld => ?_)
            clear hK K
            (try simp only [Act.put, List.getElem_toArray, List.getElem_cons_succ, List.getElem_cons_zero, List.setIfInBounds_toArray, List.set_cons_zero, List.set_cons_succ])
            refine wpAnyH_take (i := 16) (v := ?_) (by rfl) (by kernel_rfl) (by kernel_rfl) (by kernel_rfl) (fun _ _ _ h => h) (Or.inl ⟨by kernel_rfl, ?_⟩) (by assumption) ?_; rotate_left 1; (focus (intro w hSw; (try dsimp only at hSw); simp only [List.getElem_toArray, List.getElem_cons_succ, List.getElem_cons_zero]; all_goals go_simp; all_goals (try with_reducible rfl))); (try simp only [Act.put, List.getElem_toArray, List.getElem_cons_succ, List.getElem_cons_zero, List.setIfInBounds_toArray, List.set_cons_zero, List.set_cons_succ])
            refine wpAnyH_done (by kernel_rfl) ?_ _
            refine NoPanic.normal ?_
            go_wp2_with fail
            go_meet
            have hb := HBB.out.alloc (Nat.le_trans HBB.out.size (Nat.le_refl _)) (.cells #[.int .i64 y0, .int .i64 y1, .int .i64 y2, .int .i64 y3, .int .u32 y4] 27 (0, 0))
            exact ⟨_, rfl, rfl, HB1.out.trans (hb.mono hz), KeyC.new _ y0 y1 y2 y3 y4 _, HK1.out.below hb, HP1.out.below hb, Nat.lt_of_lt_of_le hz2 HBB.out.size, HI1.out.below hb⟩
          · skip
            rw [if_pos (by kernel_rfl)]
            simp only [List.getElem_toArray, List.getElem_cons_succ, List.getElem_cons_zero]
            go_wp2_with fail
            refine hK.out _ _ (hSS.out _ ((Below.refl w2.heap.size w2).alloc (Nat.le_refl _) _).drew) (fun hHeld => ?_)
            clear hK K
            (try simp only [Act.put, List.getElem_toArray, List.getElem_cons_succ, List.getElem_cons_zero, List.setIfInBounds_toArray, List.set_cons_zero, List.set_cons_succ])
            refine wpAnyH_ready (rs := [10]) (by kernel_rfl) (by simp) ?_
            refine AllReadyH.cons (by rfl) (fun K hK => ?_) AllReadyH.nil
            rw [if_pos (by kernel_rfl)]
            simp only [List.getElem_toArray, List.getElem_cons_succ, List.getElem_cons_zero]
            go_wp2_with (first | (go_at_call 105; (with_reducible refine (nget_at i q i q (Lib.hid rfl) (Lib.hid rfl) hn hq HT y0 y1 y2 y3 y4 g0 g1 g2 g3 g4 _ (H2.out.below ((Below.refl w2.heap.size w2).alloc (Nat.le_refl _) _).drew).nd).mono ?_); rintro e w3 ⟨rfl, hb⟩; have HBA := Lib.hid (((Below.refl w2.heap.size w2).alloc (Nat.le_refl _) _).drew.trans (hb.mono (by simp; try omega))); have hKB := ((KeyC.new w2 0 0 0 0 0 27).below (Below.refl _ _).drew).below hb; have kc0 := hKB.c0; have kc1 := hKB.c1; have kc2 := hKB.c2; have kc3 := hKB.c3; have kc4 := hKB.c4; have kf0 := hKB.fr 0; have kf1 := hKB.fr 1; have kf2 := hKB.fr 2; have kf3 := hKB.fr 3; have kf4 := hKB.fr 4; have HKB := Lib.hid hKB; clear hb hKB))
            refine hK.out _ _ (hSS.out _ HBA.out) (fun hHeld => ?_)
            clear hK K
            (try simp only [Act.put, List.getElem_toArray, List.getElem_cons_succ, List.getElem_cons_zero, List.setIfInBounds_toArray, List.set_cons_zero, List.set_cons_succ])
            refine wpAnyH_take (i := 11) (v := ?_) (by rfl) (by kernel_rfl) (by kernel_rfl) (by kernel_rfl) (fun _ _ _ h => h) (Or.inl ⟨by kernel_rfl, ?_⟩) (by assumption) ?_; rotate_left 1; (focus (intro w hSw; (try dsimp only at hSw); simp only [List.getElem_toArray, List.getElem_cons_succ, List.getElem_cons_zero]; all_goals go_simp; all_goals (try with_reducible rfl))); (try simp only [Act.put, List.getElem_toArray, List.getElem_cons_succ, List.getElem_cons_zero, List.setIfInBounds_toArray, List.set_cons_zero, List.set_cons_succ])
            refine wpAnyH_take (i := 12) (v := ?_) (by rfl) (by kernel_rfl) (by kernel_rfl) (by kernel_rfl) (fun _ _ _ h => h) (Or.inl ⟨by kernel_rfl, ?_⟩) (by assumption) ?_; rotate_left 1; (focus (intro w hSw; (try dsimp only at hSw); simp only [List.getElem_toArray, List.getElem_cons_succ, List.getElem_cons_zero]; all_goals go_simp; all_goals (try with_reducible rfl))); (try simp only [Act.put, List.getElem_toArray, List.getElem_cons_succ, List.getElem_cons_zero, List.setIfInBounds_toArray, List.set_cons_zero, List.set_cons_succ])
            refine wpAnyH_take (i := 13) (v := ?_) (by rfl) (by kernel_rfl) (by kernel_rfl) (by kernel_rfl) (fun _ _ _ h => h) (Or.inl ⟨by kernel_rfl, ?_⟩) (by assumption) ?_; rotate_left 1; (focus (intro w hSw; (try dsimp only at hSw); simp only [List.getElem_toArray, List.getElem_cons_succ, List.getElem_cons_zero]; all_goals go_simp; all_goals (try with_reducible rfl))); (try simp only [Act.put, List.getElem_toArray, List.getElem_cons_succ, List.getElem_cons_zero, List.setIfInBounds_toArray, List.set_cons_zero, List.set_cons_succ])
            refine wpAnyH_ready (rs := [15]) (by kernel_rfl) (by simp) ?_
            refine AllReadyH.cons (by rfl) (fun K hK => ?_) AllReadyH.nil
            rw [if_pos (by kernel_rfl)]
            simp only [List.getElem_toArray, List.getElem_cons_succ, List.getElem_cons_zero]
            go_wp2_with fail
            have hb := below_set5 HBA.out (Nat.le_refl _) y0 y1 y2 y3 y4
            refine hK.out _ _ (hSS.out _ hb) (fun hHeld => ?_)
            clear hK K
            (try simp only [Act.put, List.getElem_toArray, List.getElem_cons_succ, List.getElem_cons_zero, List.setIfInBounds_toArray, List.set_cons_zero, List.set_cons_succ])
            refine wpAnyH_take (i := 16) (v := ?_) (by rfl) (by kernel_rfl) (by kernel_rfl) (by kernel_rfl) (fun _ _ _ h => h) (Or.inl ⟨by kernel_rfl, ?_⟩) (by assumption) ?_; rotate_left 1; (focus (intro w hSw; (try dsimp only at hSw); simp only [List.getElem_toArray, List.getElem_cons_succ, List.getElem_cons_zero]; all_goals go_simp; all_goals (try with_reducible rfl))); (try simp only [Act.put, List.getElem_toArray, List.getElem_cons_succ, List.getElem_cons_zero, List.setIfInBounds_toArray, List.set_cons_zero, List.set_cons_succ])
            refine wpAnyH_done (by kernel_rfl) ?_ _
            refine NoPanic.normal ?_
            go_wp2_with fail
            go_meet
            exact ⟨_, rfl, rfl, HB1.out.trans (hb.mono hz), HKB.out.set y0 y1 y2 y3 y4, HK1.out.below hb, HP1.out.below hb, hz2, HI1.out.below hb⟩
        case rest =>
          obtain ⟨bx, rfl, rfl, hb, ky, kk, kp, hl, hI⟩ := hcut
          have HIC := Lib.hid hI
          clear hI
          have y0' := ky.c0
          have y1' := ky.c1
          have y2' := ky.c2
          have y3' := ky.c3
          have y4' := ky.c4
          have q0 := kk.c0
          have q1 := kk.c1
          have q2 := kk.c2
          have q3 := kk.c3
          have q4 := kk.c4
          have f0 := kk.fr 0
          have f1 := kk.fr 1
          have f2 := kk.fr 2
          have f3 := kk.fr 3
          have f4 := kk.fr 4
          have HC := Lib.hid hb
          have HKK := Lib.hid kk
          have HPP := Lib.hid kp
          clear hb ky kk kp
          go_wp2_with fail
          go_region
          all_goals (go_wp2_with fail; go_roundw)
          case rel =>
            have hd := (Below.refl wc.heap.size wc).drew
            refine ⟨y0, y1, y2, y3, y4, h, r', _, _, v', l ++ [(i : Int)], ?_, rfl, rfl, next, (HKK.out.below hd).set y0 y1 y2 y3 y4, (HPP.out.below hd).far5 (by omega) _ _ _ _ _, below_set5 (HC.out.trans (hd.mono HC.out.size)) (by have := HW0.out; omega) y0 y1 y2 y3 y4, (HIC.out.below hd).put5 _ (by have := HIB.out; omega) HOW.out.1 (by have := HW0.out; omega) y0 y1 y2 y3 y4, by rw [List.append_assoc]; exact HLr.out, HOW.out⟩
            rw [E3.out]
          case measure =>
            simp [intOf]; omega
end Go.Proofs.YtjkbfhojjjkgnaaDoor
namespace Go.Proofs.YtjkbfhojjjkgnaaDoor
open Go.ChangeShapes Go.WideShapes Go.ChangeAt Go.RowKit
set_option linter.unusedVariables false
theorem idat_new (w : World) (o : Obj) : IdAt w ((w.alloc o).alloc (.cells #[.slice none 0 0] 37 (0, 0))) (w.heap.size + 1) (.slice none 0 0) [] :=
  ⟨((Below.refl _ _).alloc (Nat.le_refl _) _ : Below w.heap.size w (w.alloc o)).alloc (by simp) _, by omega, by simp, by
    have : ((w.alloc o).alloc (.cells #[.slice none 0 0] 37 (0, 0))).cell? ⟨(w.alloc o).heap.size, 0, none⟩ = some (.slice none 0 0) := by simp
    rwa [show (w.alloc o).heap.size = w.heap.size + 1 by simp] at this, by
    have : ((w.alloc o).alloc (.cells #[.slice none 0 0] 37 (0, 0))).frozen? ⟨(w.alloc o).heap.size, 0, none⟩ = false := by simp
    rwa [show (w.alloc o).heap.size = w.heap.size + 1 by simp] at this, World.ownsRow_nil _ _ _ _, fun g hg => by simp [Value.ownBlock] at hg⟩
set_option maxRecDepth 100000 in
theorem pNodes_is {S : Nat} {a b : Shp} {th : Nat → Bool} {vr_ : Nat → Int} {W : Nat → Nat → Value} {th2 : Nat → Bool} {vr2 : Nat → Int} {W2 : Nat → Nat → Int} (k0 k1 k2 k3 k4 addr : Int) (ids : List Int) (hlen : Hid (ids.length ≤ 100)) (pg at_ : Int) (r : Bool) (f : Int) (hw : Hid (Way a b th vr_ W th2 vr2 k0 k1 k2 k3 k4 5 addr false ids pg at_ r f)) (w : World) (h : (StAt w S a b th vr_ W th2 vr2 W2)) :
    Calls Tryd.prog 96 #[.pointer (some ⟨S, 0, none⟩), (Value.agg #[.int .i64 k0, .int .i64 k1, .int .i64 k2, .int .i64 k3, .int .u32 k4]), .int .u32 addr] w fun e w' => ∃ v, e = .returned v ∧ w'.ownsRow w.heap.size 3 1 v ids.length (ids.map (Value.int .i64)) ∧ Below w.heap.size w w' := by
  have H := Lib.hid h
  clear h
  go_enter Tryd.func96, Tryd.ntmps96
  go_wp2_with (first
    | (go_at_call 100; (with_reducible refine (pwalk1_is k0 k1 k2 k3 k4 addr ids hlen pg at_ r f hw w _ H.out (w.heap.size + 1) (idat_new _ _)).mono ?_); rintro e w1 ⟨rfl, v, hI⟩; have HI := Lib.hid hI; have c := hI.c; clear hI))
  go_ret
  exact ⟨v, rfl, HI.out.row, HI.out.bel⟩
end Go.Proofs.YtjkbfhojjjkgnaaDoor
namespace Go.Proofs.YtjkbfhojjjkgnaaDoor
open Go.ChangeShapes Go.WideShapes Go.ChangeAt Go.RowKit
set_option linter.unusedVariables false
section
variable {a b : Shp} {th : Nat → Bool} {vr_ : Nat → Int} {W : Nat → Nat → Value} {th2 : Nat → Bool} {vr2 : Nat → Int}
theorem entP_in {s k0 k4 below addr : Int} (h : ¬ (k0 = 2 ∧ below ≤ k4)) (ha : ¬ s ≤ addr) : entP s true true k0 k4 below addr = (s, 0) := by
  unfold entP
  rw [if_neg (by decide), if_neg h, if_neg ha]
theorem way_div_uniq {q q' p r r' : Nat} (hr : r < p) (hr' : r' < p) (h : q * p + r = q' * p + r') : q = q' ∧ r = r' := by
  have e1 : (q * p + r) / p = q := by rw [Nat.add_comm, Nat.add_mul_div_right _ _ (by omega), Nat.div_eq_of_lt hr, Nat.zero_add]
  have e2 : (q' * p + r') / p = q' := by rw [Nat.add_comm, Nat.add_mul_div_right _ _ (by omega), Nat.div_eq_of_lt hr', Nat.zero_add]
  have : q = q' := by rw [← e1, ← e2, h]
  subst this
  exact ⟨rfl, by omega⟩
theorem KAt.uniq {f : Nat → Value} {j : Nat} {y0 y1 y2 y3 y4 z0 z1 z2 z3 z4 : Int} (h : KAt f j y0 y1 y2 y3 y4) (g : KAt f j z0 z1 z2 z3 z4) : y0 = z0 ∧ y1 = z1 ∧ y2 = z2 ∧ y3 = z3 ∧ y4 = z4 := by
  obtain ⟨h0, h1, h2, h3, h4⟩ := h
  obtain ⟨g0, g1, g2, g3, g4⟩ := g
  rw [h0] at g0; rw [h1] at g1; rw [h2] at g2; rw [h3] at g3; rw [h4] at g4
  injection g0 with _ g0; injection g1 with _ g1; injection g2 with _ g2; injection g3 with _ g3; injection g4 with _ g4
  exact ⟨g0, g1, g2, g3, g4⟩
theorem Way.det {k0 k1 k2 k3 k4 below addr : Int} {ro : Bool} {ids ids' : List Int} {pg at_ pg' at_' : Int} {r r' : Bool} {f f' : Int} (h : Way a b th vr_ W th2 vr2 k0 k1 k2 k3 k4 below addr ro ids pg at_ r f) (g : Way a b th vr_ W th2 vr2 k0 k1 k2 k3 k4 below addr ro ids' pg' at_' r' f') : ids = ids' ∧ pg = pg' ∧ at_ = at_' ∧ r = r' ∧ f = f' := by
  induction h generalizing ids' pg' at_' r' f' with
  | fault s t l f h0 hs hl hz hf =>
    obtain ⟨rfl, rfl⟩ := hs
    subst hl
    cases g with
    | fault s' t' l' f'' h0' hs' hl' hz' hf' =>
      obtain ⟨rfl, rfl⟩ := hs'
      subst hl'
      rw [hz] at hz'
      injection hz' with _ e
      exact ⟨rfl, rfl, rfl, rfl, e⟩
    | page h0' a0' hl' ha' =>
      rw [hl', show szP 3 _ = 32 from rfl, show szB 3 _ = true by simp [szB], entP_in (by omega) (by omega)] at hz
      injection hz with _ e
      subst e
      simp at hf
    | node h i q r'' p ad y0 y1 y2 y3 y4 hk hp ha had h1 h4 hl' hd hi hn ht hq hr hy next =>
      have hs := way_sz h h1 h4 p hp
      subst hk
      rw [hl', hs.1, hs.2, entP_in (by omega) (by rw [ha, had]; have := way_lt q p r'' hq hr; omega)] at hz
      injection hz with _ e
      subst e
      simp at hf
  | page h0 a0 hl ha =>
    cases g with
    | fault s' t' l' f'' h0' hs' hl' hz' hf' =>
      obtain ⟨rfl, rfl⟩ := hs'
      subst hl'
      rw [hl, show szP 3 _ = 32 from rfl, show szB 3 _ = true by simp [szB], entP_in (by omega) (by omega)] at hz'
      injection hz' with _ e
      subst e
      simp at hf'
    | page h0' a0' hl' ha' => exact ⟨rfl, rfl, rfl, rfl, rfl⟩
  | node h i q r0 p ad y0 y1 y2 y3 y4 hk hp ha had h1 h4 hl hd hi hn ht hq hr hy next ih =>
    cases g with
    | fault s' t' l' f'' h0' hs' hl' hz' hf' =>
      obtain ⟨rfl, rfl⟩ := hs'
      subst hl'
      have hs := way_sz h h1 h4 p hp
      subst hk
      rw [hl, hs.1, hs.2, entP_in (by omega) (by rw [ha, had]; have := way_lt q p r0 hq hr; omega)] at hz'
      injection hz' with _ e
      subst e
      simp at hf'
    | node h' i' q' r0' p' ad' z0 z1 z2 z3 z4 hk' hp' ha' had' h1' h4' hl' hd' hi' hn' ht' hq' hr' hy' next' =>
      obtain rfl : h = h' := by omega
      obtain rfl : i = i' := by omega
      obtain rfl : p = p' := by rw [hp, hp']
      obtain rfl : ad = ad' := by omega
      obtain ⟨rfl, rfl⟩ := way_div_uniq hr hr' (had.symm.trans had')
      obtain ⟨rfl, rfl, rfl, rfl, rfl⟩ := hy.uniq hy'
      obtain ⟨e1, e2, e3, e4, e5⟩ := ih next'
      exact ⟨by rw [e1], e2, e3, e4, e5⟩
/-- All addresses of one page's words go one way. -/
theorem Way.sheet {k0 k1 k2 k3 k4 below addr : Int} {ro : Bool} {ids : List Int} {pg at_ : Int} {r : Bool} {f : Int} (h : Way a b th vr_ W th2 vr2 k0 k1 k2 k3 k4 below addr ro ids pg at_ r f) (hf : f = 0) : at_ = addr % 32 ∧ ∀ x : Int, 0 ≤ x → x < 32 → Way a b th vr_ W th2 vr2 k0 k1 k2 k3 k4 below (addr / 32 * 32 + x) ro ids pg x r f := by
  induction h with
  | fault s t l f h0 hs hl hz hf' => subst hf; simp at hf'
  | page h0 a0 hl ha =>
    refine ⟨by omega, fun x x0 x1 => ?_⟩
    rename_i addr' _
    rw [show addr' / 32 * 32 + x = x by omega]
    exact .page h0 x0 hl x1
  | node h i q r0 p ad y0 y1 y2 y3 y4 hk hp ha had h1 h4 hl hd hi hn ht hq hr hy next ih =>
    obtain ⟨e, g⟩ := ih hf
    obtain ⟨c, hc⟩ : ∃ c, p = c * 32 := by
      have h5 : h = 1 ∨ h = 2 ∨ h = 3 ∨ h = 4 := by omega
      rcases h5 with rfl | rfl | rfl | rfl
      · exact ⟨1, by rw [hp]⟩
      · exact ⟨16, by rw [hp]⟩
      · exact ⟨256, by rw [hp]⟩
      · exact ⟨4096, by rw [hp]⟩
    have hqp : q * p = q * c * 32 := by rw [hc, Nat.mul_assoc]
    obtain ⟨u, hu⟩ : ∃ u, q * c = u := ⟨_, rfl⟩
    rw [hu] at hqp
    refine ⟨by omega, fun x x0 x1 => ?_⟩
    have gx := g x x0 x1
    obtain ⟨y, rfl⟩ := Int.eq_ofNat_of_zero_le x0
    rw [show ((r0 : Nat) : Int) / 32 * 32 + ((y : Nat) : Int) = ((r0 / 32 * 32 + y : Nat) : Int) by omega] at gx
    refine .node h i q (r0 / 32 * 32 + y) p (q * p + (r0 / 32 * 32 + y)) y0 y1 y2 y3 y4 hk hp ?_ rfl h1 h4 hl hd hi hn ht hq (by omega) hy gx
    rw [ha, had]
    omega
/-- Nodes that a way does not go through may be turned. -/
theorem Way.keep {th' : Nat → Bool} {W' : Nat → Nat → Value} {k0 k1 k2 k3 k4 below addr : Int} {ro : Bool} {ids : List Int} {pg at_ : Int} {r : Bool} {f : Int} (h : Way a b th vr_ W th2 vr2 k0 k1 k2 k3 k4 below addr ro ids pg at_ r f) (hf : f = 0)
    (hn : ∀ i : Nat, (i : Int) ∈ ids → i < a.n → th i = true → th' i = true ∧ ∀ j y0 y1 y2 y3 y4, KAt (W i) j y0 y1 y2 y3 y4 → KAt (W' i) j y0 y1 y2 y3 y4) : Way a b th' vr_ W' th2 vr2 k0 k1 k2 k3 k4 below addr ro ids pg at_ r f := by
  induction h with
  | fault s t l f h0 hs hl hz hf' => subst hf; simp at hf'
  | page h0 a0 hl ha => exact .page h0 a0 hl ha
  | node h i q r0 p ad y0 y1 y2 y3 y4 hk hp ha had h1 h4 hl hd hi hn' ht hq hr hy next ih =>
    have hx := hn i (by rw [hi]; exact .head _) hn' ht
    refine .node h i q r0 p ad y0 y1 y2 y3 y4 hk hp ha had h1 h4 ?_ hd hi hn' hx.1 hq hr (hx.2 _ _ _ _ _ _ hy) (ih hf (fun j hj => hn j (.tail _ hj)))
    subst hi
    simp [liveB, thereB, ht, hx.1] at hl ⊢
    exact hl
theorem Way.ids_len {k0 k1 k2 k3 k4 below addr : Int} {ro : Bool} {ids : List Int} {pg at_ : Int} {r : Bool} {f : Int} (h : Way a b th vr_ W th2 vr2 k0 k1 k2 k3 k4 below addr ro ids pg at_ r f) : (ids.length : Int) ≤ max below 0 := by
  induction h with
  | fault => simp; omega
  | page => simp; omega
  | node h i q r0 p ad y0 y1 y2 y3 y4 hk hp ha had h1 h4 hl hd hi hn' ht hq hr hy next ih =>
    simp only [List.length_cons]
    omega
end
end Go.Proofs.YtjkbfhojjjkgnaaDoor
