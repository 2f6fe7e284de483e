/-
  Nodes: a key in a slot.
-/
import Derived.Test.YtncopdhhchmpeaaGreatDoorNd4
namespace Go.Proofs.YtncopdhhchmpeaaGreatDoor
open Go.ChangeShapes Go.WideShapes Go.ChangeAt Go.RowKit
set_option linter.unusedVariables false
/-- A key lies in a slot. -/
def KAt (f : Nat → Value) (j : Nat) (y0 y1 y2 y3 y4 : Int) : Prop := f (j * 5) = .int .i64 y0 ∧ f (j * 5 + 1) = .int .i64 y1 ∧ f (j * 5 + 2) = .int .i64 y2 ∧ f (j * 5 + 3) = .int .i64 y3 ∧ f (j * 5 + 4) = .int .u32 y4
theorem freshV_q (W : Nat → Nat → Value) (i : Nat) (kk : Nat → Nat → Int) (m j q : Nat) (hj : j < m) (hq : q < 5) : freshV W i (kcs kk m) i (j * 5 + q) = kval q (kk j q) := by
  have h1 := freshV_in W i (kcs kk m) (j * 5 + q) (by rw [kcs_len]; omega)
  rw [kcs_at kk m j q hj hq] at h1
  exact Option.some.inj h1
theorem freshV_key (W : Nat → Nat → Value) (i : Nat) (kk : Nat → Nat → Int) (m j : Nat) (hj : j < m) : KAt (freshV W i (kcs kk m) i) j (kk j 0) (kk j 1) (kk j 2) (kk j 3) (kk j 4) :=
  ⟨freshV_q W i kk m j 0 hj (by decide), freshV_q W i kk m j 1 hj (by decide), freshV_q W i kk m j 2 hj (by decide), freshV_q W i kk m j 3 hj (by decide), freshV_q W i kk m j 4 hj (by decide)⟩
theorem zc_q (j q : Nat) (hq : q < 5) : zc (j * 5 + q) = kval q 0 := by
  have e : (j * 5 + q) % 5 = q := by omega
  unfold zc kval
  rw [e]
theorem freshV_nokey (W : Nat → Nat → Value) (i : Nat) (kk : Nat → Nat → Int) (m j : Nat) (hj : m ≤ j) (h16 : j < 16) : KAt (freshV W i (kcs kk m) i) j 0 0 0 0 0 := by
  have h : ∀ q, q < 5 → freshV W i (kcs kk m) i (j * 5 + q) = kval q 0 := fun q hq => (freshV_out W i _ _ (by rw [kcs_len]; omega) (by omega)).trans (zc_q j q hq)
  exact ⟨h 0 (by decide), h 1 (by decide), h 2 (by decide), h 3 (by decide), h 4 (by decide)⟩
theorem freshV_rest (W : Nat → Nat → Value) (i : Nat) (xs : List Value) (a j : Nat) (h : a ≠ i) {y0 y1 y2 y3 y4 : Int} (hk : KAt (W a) j y0 y1 y2 y3 y4) : KAt (freshV W i xs a) j y0 y1 y2 y3 y4 := by
  unfold KAt at hk ⊢
  simp only [freshV_other W i xs a _ h]
  exact hk
theorem updV_q (W : Nat → Nat → Value) (i s : Nat) (y0 y1 y2 y3 y4 : Int) (q : Nat) (hq : q < 5) : some (updV W i (s * 5) (k5 y0 y1 y2 y3 y4) i (s * 5 + q)) = (k5 y0 y1 y2 y3 y4)[q]? := by
  have hl : (k5 y0 y1 y2 y3 y4).length = 5 := rfl
  unfold updV
  rw [if_pos ⟨rfl, by omega, by rw [hl]; omega⟩, show s * 5 + q - s * 5 = q by omega]
  rcases five q hq with rfl | rfl | rfl | rfl | rfl <;> rfl
theorem updV_key (W : Nat → Nat → Value) (i s : Nat) (y0 y1 y2 y3 y4 : Int) : KAt (updV W i (s * 5) (k5 y0 y1 y2 y3 y4) i) s y0 y1 y2 y3 y4 :=
  ⟨Option.some.inj (updV_q W i s y0 y1 y2 y3 y4 0 (by decide)), Option.some.inj (updV_q W i s y0 y1 y2 y3 y4 1 (by decide)), Option.some.inj (updV_q W i s y0 y1 y2 y3 y4 2 (by decide)), Option.some.inj (updV_q W i s y0 y1 y2 y3 y4 3 (by decide)), Option.some.inj (updV_q W i s y0 y1 y2 y3 y4 4 (by decide))⟩
theorem updV_rest (W : Nat → Nat → Value) (i s a j : Nat) (z0 z1 z2 z3 z4 : Int) (h : ¬ (a = i ∧ j = s)) {y0 y1 y2 y3 y4 : Int} (hk : KAt (W a) j y0 y1 y2 y3 y4) : KAt (updV W i (s * 5) (k5 z0 z1 z2 z3 z4) a) j y0 y1 y2 y3 y4 := by
  have hl : (k5 z0 z1 z2 z3 z4).length = 5 := rfl
  have e : ∀ q, q < 5 → updV W i (s * 5) (k5 z0 z1 z2 z3 z4) a (j * 5 + q) = W a (j * 5 + q) := fun q hq => by
    unfold updV
    rw [if_neg (by rw [hl]; omega)]
  have e0 := e 0 (by decide)
  rw [Nat.add_zero] at e0
  unfold KAt at hk ⊢
  rw [e0, e 1 (by decide), e 2 (by decide), e 3 (by decide), e 4 (by decide)]
  exact hk
theorem KAt.one {f : Nat → Value} (h : ∀ j, j < 16 → ∃ y0 y1 y2 y3 y4, KAt f j y0 y1 y2 y3 y4) : ∀ b, b < 80 → (f b).oneCell' = true := by
  intro b hb
  obtain ⟨y0, y1, y2, y3, y4, h0, h1, h2, h3, h4⟩ := h (b / 5) (by omega)
  have e : b = b / 5 * 5 + b % 5 := by omega
  rcases five (b % 5) (by omega) with hq | hq | hq | hq | hq
  · rw [e, hq, Nat.add_zero, h0]; rfl
  · rw [e, hq, h1]; rfl
  · rw [e, hq, h2]; rfl
  · rw [e, hq, h3]; rfl
  · rw [e, hq, h4]; rfl
end Go.Proofs.YtncopdhhchmpeaaGreatDoor
