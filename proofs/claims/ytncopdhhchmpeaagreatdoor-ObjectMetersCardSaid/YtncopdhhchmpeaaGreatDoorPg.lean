/-
  package page: what pages are in memory; New, has, Read, Make.
-/
import Derived.Test.YtncopdhhchmpeaaGreatDoorArLw
import Derived.Test.YtncopdhhchmpeaaGreatDoorSen
import Derived.Lib.SliceRun
import Derived.Laws.IdiomCopy
import Derived.OneCell
namespace Go.Proofs.YtncopdhhchmpeaaGreatDoor
open Go.ChangeShapes Go.WideShapes Go.ChangeAt Go.RowKit
set_option linter.unusedVariables false
theorem infoSheet : (Tryz.prog.info? 179).map (fun i => (i.zero, i.size, i.bytes)) = some (some (.agg (Array.replicate 32 (.int .u32 0))), 32, 128) := by kernel_rfl
theorem infoU32 : (Tryz.prog.info? 40).map (·.size) = some 1 := by kernel_rfl
theorem zeroU32 (w : World) : (zeroValue 40).run Tryz.prog w = .ok (.int .u32 0) w := by kernel_rfl
def over : List Value → Nat → List Value → List Value
  | xs, _, [] => xs
  | xs, o, v :: vs => over (xs.set o v) (o + 1) vs
theorem over_len (vs : List Value) : ∀ (xs : List Value) (o : Nat), (over xs o vs).length = xs.length := by
  induction vs with
  | nil => intro xs o; rfl
  | cons v vs ih => intro xs o; unfold over; rw [ih]; simp
theorem over_get (vs : List Value) : ∀ (xs : List Value) (o j : Nat), o + vs.length ≤ xs.length → (over xs o vs)[j]? = if o ≤ j ∧ j < o + vs.length then vs[j - o]? else xs[j]? := by
  induction vs with
  | nil => intro xs o j h; unfold over; rw [if_neg (by simp only [List.length_nil]; omega)]
  | cons v vs ih =>
    intro xs o j h
    simp only [List.length_cons] at h
    unfold over
    rw [ih _ _ _ (by simp; omega)]
    by_cases h1 : o + 1 ≤ j ∧ j < o + 1 + vs.length
    · rw [if_pos h1, if_pos (by simp; omega), show j - o = (j - (o + 1)) + 1 by omega]
      simp
    · rw [if_neg h1]
      by_cases h2 : j = o
      · subst h2
        rw [if_pos (by simp)]
        rw [List.getElem?_set_self (by omega)]
        simp
      · rw [if_neg (by simp; omega), List.getElem?_set_ne (by omega)]
theorem own_setCells {base e s g n c : Nat} (vs : List Value) : ∀ (o : Nat) (xs : List Value) (w : World), w.ownsRow base e s (.slice (some ⟨g, 0, none⟩) n c) n xs →
    (w.setCells g o vs).ownsRow base e s (.slice (some ⟨g, 0, none⟩) n c) n (over xs o vs) ∧ w.grownBy (w.setCells g o vs) (some g) := by
  induction vs with
  | nil => intro o xs w h; exact ⟨h, ⟨rfl, rfl, rfl, Nat.le_refl _, fun _ _ _ => rfl⟩⟩
  | cons v vs ih =>
    intro o xs w h
    have h1 := h.stored o v
    have h2 := ih (o + 1) _ _ h1.1
    exact ⟨h2.1, ⟨h2.2.os.trans h1.2.os, h2.2.tape.trans h1.2.tape, h2.2.output.trans h1.2.output, Nat.le_trans h1.2.size h2.2.size, fun k hk hne => (h2.2.block k (Nat.lt_of_lt_of_le hk h1.2.size) hne).trans (h1.2.block k hk hne)⟩⟩
/-- The words of n pages, one behind the other. -/
def flat (W : Nat → Nat → Int) (n : Nat) : List Value := (List.range (n * 32)).map fun j => Value.int .u32 (W (j / 32) (j % 32))
theorem flat_len (W : Nat → Nat → Int) (n : Nat) : (flat W n).length = n * 32 := by simp [flat]
theorem flat_at (W : Nat → Nat → Int) (n i j : Nat) (hi : i < n) (hj : j < 32) : (flat W n)[i * 32 + j]? = some (.int .u32 (W i j)) := by
  have h1 : i * 32 + j < n * 32 := by omega
  have h2 : (i * 32 + j) / 32 = i := by omega
  have h3 : (i * 32 + j) % 32 = j := by omega
  simp [flat, h1, h2, h3]
/-- One page's first words anew. -/
def updW (W : Nat → Nat → Int) (i : Nat) (xs : List Int) : Nat → Nat → Int := fun a b => if a = i ∧ b < xs.length then xs.getD b 0 else W a b
theorem flat_over (W : Nat → Nat → Int) (n i : Nat) (xs : List Int) (hi : i < n) (hx : xs.length ≤ 32) : over (flat W n) (i * 32) (xs.map (Value.int .u32)) = flat (updW W i xs) n := by
  apply List.ext_getElem?
  intro j
  rw [over_get _ _ _ _ (by rw [flat_len, List.length_map]; omega), List.length_map]
  by_cases hj : j < n * 32
  · by_cases h : i * 32 ≤ j ∧ j < i * 32 + xs.length
    · rw [if_pos h]
      have h1 : j / 32 = i := by omega
      have h2 : j % 32 = j - i * 32 := by omega
      have h3 : j - i * 32 < xs.length := by omega
      simp [flat, hj, updW, h1, h2, h3]
    · rw [if_neg h]
      have : ¬ (j / 32 = i ∧ j % 32 < xs.length) := by omega
      simp only [flat, List.getElem?_map, List.getElem?_range hj, Option.map_some, updW, if_neg this]
  · rw [if_neg (by omega), List.getElem?_eq_none (by rw [flat_len]; omega), List.getElem?_eq_none (by rw [flat_len]; omega)]
/-- Pages lie at block P: their arena; their words at block G. -/
structure PgAt (w : World) (base P p B G n c : Nat) (th : Nat → Bool) (vr : Nat → Int) (W : Nat → Nat → Int) : Prop where
  pl : P < w.heap.size
  pb : base ≤ P
  f0 : w.cell? ⟨P, 0, none⟩ = some (.pointer (some ⟨p, 0, none⟩))
  f1 : w.cell? ⟨P, 1, none⟩ = some (.slice (some ⟨G, 0, none⟩) n n)
  ar : ArAt w base p B n c th vr
  row : w.ownsRow base 179 32 (.slice (some ⟨G, 0, none⟩) n n) n (flat W n)
  n1 : P ≠ B
  n2 : P ≠ G
  n3 : G ≠ B
  n4 : G ≠ p
section
variable {w w' : World} {base P p B G n c : Nat} {th th' : Nat → Bool} {vr vr' : Nat → Int} {W W' : Nat → Nat → Int}
theorem PgAt.below (h : PgAt w base P p B G n c th vr W) (hb : Below w.heap.size w w') : PgAt w' base P p B G n c th vr W :=
  ⟨Nat.lt_of_lt_of_le h.pl hb.size, h.pb, (hb.cell (p := ⟨P, 0, none⟩) h.pl).trans h.f0, (hb.cell (p := ⟨P, 1, none⟩) h.pl).trans h.f1, h.ar.below hb, own_below h.row hb, h.n1, h.n2, h.n3, h.n4⟩
theorem PgAt.turn (h : PgAt w base P p B G n c th vr W) (hA : ArAt w' base p B n c th' vr') (hg : w.grownBy w' (some B)) : PgAt w' base P p B G n c th' vr' W :=
  ⟨Nat.lt_of_lt_of_le h.pl hg.size, h.pb, (World.cell?_of_block (a := ⟨P, 0, none⟩) (hg.block P h.pl (fun e => h.n1 (by injection e)))).trans h.f0, (World.cell?_of_block (a := ⟨P, 1, none⟩) (hg.block P h.pl (fun e => h.n1 (by injection e)))).trans h.f1, hA, h.row.kept hg (.inr (fun e => h.n3 (by simpa [Value.ownBlock] using e))), h.n1, h.n2, h.n3, h.n4⟩
theorem PgAt.words (h : PgAt w base P p B G n c th vr W) (i : Nat) (hi : i < n) (xs : List Int) (hx : xs.length ≤ 32) : PgAt (w.setCells G (i * 32) (xs.map (Value.int .u32))) base P p B G n c th vr (updW W i xs) ∧ w.grownBy (w.setCells G (i * 32) (xs.map (Value.int .u32))) (some G) := by
  have hs := own_setCells (xs.map (Value.int .u32)) (i * 32) _ _ h.row
  rw [flat_over W n i xs hi hx] at hs
  exact ⟨⟨Nat.lt_of_lt_of_le h.pl hs.2.size, h.pb, (World.cell?_of_block (a := ⟨P, 0, none⟩) (hs.2.block P h.pl (fun e => h.n2 (by injection e)))).trans h.f0, (World.cell?_of_block (a := ⟨P, 1, none⟩) (hs.2.block P h.pl (fun e => h.n2 (by injection e)))).trans h.f1, h.ar.kept hs.2 (Ne.symm h.n4) (Ne.symm h.n3), hs.1, h.n1, h.n2, h.n3, h.n4⟩, hs.2⟩
theorem PgAt.word (h : PgAt w base P p B G n c th vr W) (i j : Nat) (hi : i < n) (hj : j < 32) : w.cell? ⟨G, i * 32 + j, none⟩ = some (.int .u32 (W i j)) := by
  rw [h.row.cellAt (i * 32 + j) (by omega), flat_at W n i j hi hj]
theorem PgAt.congr (h : PgAt w base P p B G n c th vr W) (h1 : ∀ i, i < n → th i = th' i) (h2 : ∀ i, i < n → vr i = vr' i) : PgAt w base P p B G n c th' vr' W := ⟨h.pl, h.pb, h.f0, h.f1, h.ar.congr h1 h2, h.row, h.n1, h.n2, h.n3, h.n4⟩
theorem PgAt.clear (h : PgAt w base P p B G n c th vr W) (i : Nat) (hi : i < n) : ∃ w1, (∀ ty, (Builtin.clear_ #[36] ty #[.slice (some ⟨G, i * 32, none⟩) 32 32]).run Tryz.prog w = .ok (.tuple #[]) w1) ∧ PgAt w1 base P p B G n c th vr (updW W i (List.replicate 32 0)) ∧ w.grownBy w1 (some G) := by
  have hs := h.words i hi (List.replicate 32 0) (by simp)
  refine ⟨_, fun ty => ?_, hs⟩
  have := Lib.run_clear_slice (P := Tryz.prog) w 36 40 ty (.int .u32 0) Tryz.underlying36 zeroU32 rfl rfl G (i * 32) 32 32 (by decide) (fun j hj => by rw [h.word i j hi hj]; rfl) (fun j hj => h.row.frozenAt _)
  rw [this, List.map_replicate]
theorem PgAt.copy (h : PgAt w base P p B G n c th vr W) (i : Nat) (hi : i < n) (a : Option Addr) (m c2 : Nat) (xs : List Int) (hm : xs.length = m) (hx : m ≤ 32) (ha : ∀ j, j < m → ∃ ad, a = some ad ∧ w.cell? (ad.add j) = some (.int .u32 (xs.getD j 0))) :
    ∃ w1, (∀ ty, (Builtin.copy_ #[36, 36] ty #[.slice (some ⟨G, i * 32, none⟩) 32 32, .slice a m c2]).run Tryz.prog w = .ok (goInt m) w1) ∧ PgAt w1 base P p B G n c th vr (updW W i xs) ∧ w.grownBy w1 (some G) := by
  by_cases h0 : m = 0
  · subst h0
    obtain rfl : xs = [] := List.length_eq_zero_iff.1 hm
    refine ⟨w, fun ty => run_copy_none (P := Tryz.prog) w 36 36 ty 40 _ a 32 32 0 c2 Tryz.underlying36 infoU32 rfl, ?_, ⟨rfl, rfl, rfl, Nat.le_refl _, fun _ _ _ => rfl⟩⟩
    have e : updW W i [] = W := by funext a b; simp [updW]
    rw [e]
    exact h
  · have hs := h.words i hi xs (by omega)
    obtain ⟨ad, rfl, _⟩ := ha 0 (by omega)
    refine ⟨_, fun ty => ?_, hs⟩
    have := run_copy_cells (P := Tryz.prog) w 36 36 ty 40 G (i * 32) 32 32 ad m c2 (xs.map (Value.int .u32)) Tryz.underlying36 infoU32 (by rw [List.length_map, hm]; exact (Nat.min_eq_left hx).symm) (fun j v hj => by
        have hjm : j < m := by
          rcases Nat.lt_or_ge j m with h' | h'
          · exact h'
          · rw [List.getElem?_eq_none (by rw [List.length_map]; omega)] at hj; cases hj
        obtain ⟨ad', e1, e2⟩ := ha j hjm
        obtain rfl : ad = ad' := by injection e1
        rw [e2]
        have : j < xs.length := by omega
        simp [this] at hj
        simp [List.getD, this, hj]) (fun j hj => by rw [h.word i j hi (by rw [List.length_map] at hj; omega)]; rfl) (fun j hj => h.row.frozenAt _) (fun v hv => by
        obtain ⟨x, _, rfl⟩ := List.mem_map.1 hv
        rfl)
    rw [this, List.length_map, hm]
end
end Go.Proofs.YtncopdhhchmpeaaGreatDoor
