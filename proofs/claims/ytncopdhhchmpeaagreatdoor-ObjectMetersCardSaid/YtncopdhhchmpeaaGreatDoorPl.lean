/-
  A pool: an arena, and so many cells for each of its places, whatever they are.
-/
import Derived.Test.YtncopdhhchmpeaaGreatDoorPg2
import Derived.Deep.MidRow
namespace Go.Proofs.YtncopdhhchmpeaaGreatDoor
open Go.ChangeShapes Go.WideShapes Go.ChangeAt Go.RowKit
set_option linter.unusedVariables false
theorem div_mid {s i j : Nat} (hj : j < s) : (i * s + j) / s = i ∧ (i * s + j) % s = j := by
  have h0 : 0 < s := by omega
  constructor
  · rw [Nat.add_comm, Nat.add_mul_div_right _ _ h0, Nat.div_eq_of_lt hj, Nat.zero_add]
  · rw [Nat.add_comm, Nat.add_mul_mod_self_right, Nat.mod_eq_of_lt hj]
theorem mid_lt {s n i j : Nat} (hi : i < n) (hj : j < s) : i * s + j < n * s := by
  have : (i + 1) * s ≤ n * s := Nat.mul_le_mul_right s hi
  rw [Nat.add_mul, Nat.one_mul] at this
  omega
/-- The cells of n places of s cells, one behind the other. -/
def flatS (s : Nat) (W : Nat → Nat → Value) (n : Nat) : List Value := (List.range (n * s)).map fun j => W (j / s) (j % s)
theorem flatS_len (s : Nat) (W : Nat → Nat → Value) (n : Nat) : (flatS s W n).length = n * s := by simp [flatS]
theorem flatS_at (s : Nat) (W : Nat → Nat → Value) (n i j : Nat) (hi : i < n) (hj : j < s) : (flatS s W n)[i * s + j]? = some (W i j) := by
  have h1 := mid_lt hi hj
  simp [flatS, h1, (div_mid (i := i) hj).1, (div_mid (i := i) hj).2]
/-- Some cells of one place anew, from its o-th on. -/
def updS (W : Nat → Nat → Value) (i o : Nat) (xs : List Value) : Nat → Nat → Value := fun a b => if a = i ∧ o ≤ b ∧ b < o + xs.length then xs.getD (b - o) (.int .i64 0) else W a b
theorem updS_other (W : Nat → Nat → Value) (i o : Nat) (xs : List Value) (a b : Nat) (h : ¬ (a = i ∧ o ≤ b ∧ b < o + xs.length)) : updS W i o xs a b = W a b := by unfold updS; rw [if_neg h]
theorem updS_in (W : Nat → Nat → Value) (i o : Nat) (xs : List Value) (q : Nat) (h : q < xs.length) : some (updS W i o xs i (o + q)) = xs[q]? := by
  unfold updS
  rw [if_pos ⟨rfl, by omega, by omega⟩, Nat.add_sub_cancel_left]
  simp [List.getD, h]
theorem flatS_over (s : Nat) (W : Nat → Nat → Value) (n i o : Nat) (xs : List Value) (hi : i < n) (hx : o + xs.length ≤ s) : over (flatS s W n) (i * s + o) xs = flatS s (updS W i o xs) n := by
  have hn : i * s + o + xs.length ≤ n * s := by
    have : (i + 1) * s ≤ n * s := Nat.mul_le_mul_right s hi
    rw [Nat.add_mul, Nat.one_mul] at this
    omega
  apply List.ext_getElem?
  intro j
  rw [over_get _ _ _ _ (by rw [flatS_len]; omega)]
  by_cases hj : j < n * s
  · have hs : 0 < s := by
      rcases Nat.eq_zero_or_pos s with h | h
      · rw [h, Nat.mul_zero] at hj; omega
      · exact h
    have hdm : j = j / s * s + j % s := by rw [Nat.mul_comm]; exact (Nat.div_add_mod j s).symm
    have hml : j % s < s := Nat.mod_lt _ hs
    by_cases h : i * s + o ≤ j ∧ j < i * s + o + xs.length
    · rw [if_pos h]
      have e : j = i * s + (j - i * s) := by omega
      have hl : j - i * s < s := by omega
      have h1 : j / s = i := by rw [e]; exact (div_mid hl).1
      have h2 : j % s = j - i * s := by rw [e, (div_mid hl).2]; omega
      have h3 : j - (i * s + o) < xs.length := by omega
      have h5 : j - i * s - o = j - (i * s + o) := by omega
      simp only [flatS, List.getElem?_map, List.getElem?_range hj, Option.map_some, updS, h1, h2]
      rw [if_pos ⟨trivial, by omega, by omega⟩, h5]
      simp [List.getD, h3]
    · rw [if_neg h]
      have : ¬ (j / s = i ∧ o ≤ j % s ∧ j % s < o + xs.length) := by
        rintro ⟨h1, h2, h3⟩
        rw [h1] at hdm
        omega
      simp only [flatS, List.getElem?_map, List.getElem?_range hj, Option.map_some, updS, if_neg this]
  · rw [if_neg (by omega), List.getElem?_eq_none (by rw [flatS_len]; omega), List.getElem?_eq_none (by rw [flatS_len]; omega)]
theorem flatS_made (z : List Value) (n : Nat) (h0 : 0 < z.length) : (madeCells z.toArray (n * z.length)).toList = flatS z.length (fun _ b => z.getD b (.int .i64 0)) n := by
  apply List.ext_getElem?
  intro j
  by_cases hj : j < n * z.length
  · have h : j % z.length < z.length := Nat.mod_lt _ h0
    have e : (madeCells z.toArray (n * z.length)).toList[j]? = some (z.toArray[j % z.length]!) := by
      simp [madeCells, hj]
    rw [e]
    simp [flatS, hj, h, List.getD]
  · rw [List.getElem?_eq_none (by simp [size_madeCells]; omega), List.getElem?_eq_none (by rw [flatS_len]; omega)]
/-- A pool lies at block P: its arena; its cells at block G. -/
structure PlAt (T : TypeId) (s : Nat) (w : World) (base P p B G n c : Nat) (th : Nat → Bool) (vr : Nat → Int) (W : Nat → Nat → Value) : Prop where
  pl : P < w.heap.size
  pb : base ≤ P
  f0 : w.cell? ⟨P, 0, none⟩ = some (.pointer (some ⟨p, 0, none⟩))
  f1 : w.cell? ⟨P, 1, none⟩ = some (.slice (some ⟨G, 0, none⟩) n n)
  ar : ArAt w base p B n c th vr
  row : w.ownsRow base T s (.slice (some ⟨G, 0, none⟩) n n) n (flatS s W n)
  n1 : P ≠ B
  n2 : P ≠ G
  n3 : G ≠ B
  n4 : G ≠ p
section
variable {T : TypeId} {s : Nat} {w w' : World} {base P p B G n c : Nat} {th th' : Nat → Bool} {vr vr' : Nat → Int} {W W' : Nat → Nat → Value}
theorem PlAt.below (h : PlAt T s w base P p B G n c th vr W) (hb : Below w.heap.size w w') : PlAt T s w' base P p B G n c th vr W :=
  ⟨Nat.lt_of_lt_of_le h.pl hb.size, h.pb, (hb.cell (p := ⟨P, 0, none⟩) h.pl).trans h.f0, (hb.cell (p := ⟨P, 1, none⟩) h.pl).trans h.f1, h.ar.below hb, own_below h.row hb, h.n1, h.n2, h.n3, h.n4⟩
theorem PlAt.turn (h : PlAt T s w base P p B G n c th vr W) (hA : ArAt w' base p B n c th' vr') (hg : w.grownBy w' (some B)) : PlAt T s w' base P p B G n c th' vr' W :=
  ⟨Nat.lt_of_lt_of_le h.pl hg.size, h.pb, (World.cell?_of_block (a := ⟨P, 0, none⟩) (hg.block P h.pl (fun e => h.n1 (by injection e)))).trans h.f0, (World.cell?_of_block (a := ⟨P, 1, none⟩) (hg.block P h.pl (fun e => h.n1 (by injection e)))).trans h.f1, hA, h.row.kept hg (.inr (fun e => h.n3 (by simpa [Value.ownBlock] using e))), h.n1, h.n2, h.n3, h.n4⟩
theorem PlAt.cells (h : PlAt T s w base P p B G n c th vr W) (i o : Nat) (hi : i < n) (xs : List Value) (hx : o + xs.length ≤ s) : PlAt T s (w.setCells G (i * s + o) xs) base P p B G n c th vr (updS W i o xs) ∧ w.grownBy (w.setCells G (i * s + o) xs) (some G) := by
  have hs := own_setCells xs (i * s + o) _ _ h.row
  rw [flatS_over s W n i o xs hi hx] at hs
  exact ⟨⟨Nat.lt_of_lt_of_le h.pl hs.2.size, h.pb, (World.cell?_of_block (a := ⟨P, 0, none⟩) (hs.2.block P h.pl (fun e => h.n2 (by injection e)))).trans h.f0, (World.cell?_of_block (a := ⟨P, 1, none⟩) (hs.2.block P h.pl (fun e => h.n2 (by injection e)))).trans h.f1, h.ar.kept hs.2 (Ne.symm h.n4) (Ne.symm h.n3), hs.1, h.n1, h.n2, h.n3, h.n4⟩, hs.2⟩
theorem PlAt.cell (h : PlAt T s w base P p B G n c th vr W) (i j : Nat) (hi : i < n) (hj : j < s) : w.cell? ⟨G, i * s + j, none⟩ = some (W i j) := by
  rw [h.row.cellAt (i * s + j) (mid_lt hi hj), flatS_at s W n i j hi hj]
theorem PlAt.frz (h : PlAt T s w base P p B G n c th vr W) (j : Nat) : w.frozen? ⟨G, j, none⟩ = false := h.row.frozenAt j
theorem PlAt.gl (h : PlAt T s w base P p B G n c th vr W) : base ≤ G ∧ G < w.heap.size := h.row.lt G rfl
theorem PlAt.there (h : PlAt T s w base P p B G n c th vr W) (i o m : Nat) (hi : i < n) (hm : o + m ≤ s) : w.there G (i * s + o) m := fun j hj => by
  rw [Nat.add_assoc, h.cell i (o + j) hi (by omega)]
  exact ⟨rfl, h.row.frozenAt _⟩
theorem PlAt.range (h : PlAt T s w base P p B G n c th vr W) (i o : Nat) (xs : List Value) (hi : i < n) (hm : o + xs.length ≤ s) (hx : ∀ q v, xs[q]? = some v → W i (o + q) = v) : w.rangeAt G (i * s + o) xs := fun j v hv => by
  have hj : j < xs.length := (List.getElem?_eq_some_iff.1 hv).1
  rw [Nat.add_assoc, h.cell i (o + j) hi (by omega), hx j v hv]
theorem PlAt.congr (h : PlAt T s w base P p B G n c th vr W) (h1 : ∀ i, i < n → th i = th' i) (h2 : ∀ i, i < n → vr i = vr' i) : PlAt T s w base P p B G n c th' vr' W := ⟨h.pl, h.pb, h.f0, h.f1, h.ar.congr h1 h2, h.row, h.n1, h.n2, h.n3, h.n4⟩
/-- Blocks of its own apart, all is as it was: the same pool. -/
theorem PlAt.far (h : PlAt T s w base P p B G n c th vr W) {row : Option Nat} (hg : w.grownBy w' row) (h0 : row ≠ some P) (h1 : row ≠ some p) (h2 : row ≠ some B) (h3 : row ≠ some G) : PlAt T s w' base P p B G n c th vr W := by
  have hP := hg.block P h.pl (Ne.symm h0)
  have hp := hg.block p h.ar.pl (Ne.symm h1)
  exact ⟨Nat.lt_of_lt_of_le h.pl hg.size, h.pb, (World.cell?_of_block (a := ⟨P, 0, none⟩) hP).trans h.f0, (World.cell?_of_block (a := ⟨P, 1, none⟩) hP).trans h.f1,
    ⟨Nat.lt_of_lt_of_le h.ar.pl hg.size, h.ar.pb, (World.cell?_of_block (a := ⟨p, 0, none⟩) hp).trans h.ar.fld, h.ar.own.kept hg (.inr (fun e => h2 (by rw [← e]; rfl))), h.ar.ne, h.ar.le⟩,
    h.row.kept hg (.inr (fun e => h3 (by rw [← e]; rfl))), h.n1, h.n2, h.n3, h.n4⟩
end
end Go.Proofs.YtncopdhhchmpeaaGreatDoor
