/-
  Pl, Kr, Sk as one.
-/
import Derived.Test.YtahhnfhnlffmpaaDoorZ2
import Derived.Deep.MidRow
import Derived.Test.YtahhnfhnlffmpaaDoorZ1
namespace Go.Proofs.YtahhnfhnlffmpaaDoor
open Go.ChangeShapes Go.WideShapes Go.ChangeAt Go.RowKit
set_option linter.unusedVariables false
theorem div_mid {s i j : Nat} (hj : j < s) : (i * s + j) / s = i ∧ (i * s + j) % s = j := by
  have h0 : 0 < s := by omega
  constructor
  · rw [Nat.add_comm, Nat.add_mul_div_right _ _ h0, Nat.div_eq_of_lt hj, Nat.zero_add]
  · rw [Nat.add_comm, Nat.add_mul_mod_self_right, Nat.mod_eq_of_lt hj]
theorem mid_lt {s n i j : Nat} (hi : i < n) (hj : j < s) : i * s + j < n * s := by
  have : (i + 1) * s ≤ n * s := Nat.mul_le_mul_right s hi
  rw [Nat.add_mul, Nat.one_mul] at this
  omega
/-- The cells of n places of s cells, one behind the other. -/
def flatS (s : Nat) (W : Nat → Nat → Value) (n : Nat) : List Value := (List.range (n * s)).map fun j => W (j / s) (j % s)
theorem flatS_len (s : Nat) (W : Nat → Nat → Value) (n : Nat) : (flatS s W n).length = n * s := by simp [flatS]
theorem flatS_at (s : Nat) (W : Nat → Nat → Value) (n i j : Nat) (hi : i < n) (hj : j < s) : (flatS s W n)[i * s + j]? = some (W i j) := by
  have h1 := mid_lt hi hj
  simp [flatS, h1, (div_mid (i := i) hj).1, (div_mid (i := i) hj).2]
/-- Some cells of one place anew, from its o-th on. -/
def updS (W : Nat → Nat → Value) (i o : Nat) (xs : List Value) : Nat → Nat → Value := fun a b => if a = i ∧ o ≤ b ∧ b < o + xs.length then xs.getD (b - o) (.int .i64 0) else W a b
theorem updS_other (W : Nat → Nat → Value) (i o : Nat) (xs : List Value) (a b : Nat) (h : ¬ (a = i ∧ o ≤ b ∧ b < o + xs.length)) : updS W i o xs a b = W a b := by unfold updS; rw [if_neg h]
theorem updS_in (W : Nat → Nat → Value) (i o : Nat) (xs : List Value) (q : Nat) (h : q < xs.length) : some (updS W i o xs i (o + q)) = xs[q]? := by
  unfold updS
  rw [if_pos ⟨rfl, by omega, by omega⟩, Nat.add_sub_cancel_left]
  simp [List.getD, h]
theorem flatS_over (s : Nat) (W : Nat → Nat → Value) (n i o : Nat) (xs : List Value) (hi : i < n) (hx : o + xs.length ≤ s) : over (flatS s W n) (i * s + o) xs = flatS s (updS W i o xs) n := by
  have hn : i * s + o + xs.length ≤ n * s := by
    have : (i + 1) * s ≤ n * s := Nat.mul_le_mul_right s hi
    rw [Nat.add_mul, Nat.one_mul] at this
    omega
  apply List.ext_getElem?
  intro j
  rw [over_get _ _ _ _ (by rw [flatS_len]; omega)]
  by_cases hj : j < n * s
  · have hs : 0 < s := by
      rcases Nat.eq_zero_or_pos s with h | h
      · rw [h, Nat.mul_zero] at hj; omega
      · exact h
    have hdm : j = j / s * s + j % s := by rw [Nat.mul_comm]; exact (Nat.div_add_mod j s).symm
    have hml : j % s < s := Nat.mod_lt _ hs
    by_cases h : i * s + o ≤ j ∧ j < i * s + o + xs.length
    · rw [if_pos h]
      have e : j = i * s + (j - i * s) := by omega
      have hl : j - i * s < s := by omega
      have h1 : j / s = i := by rw [e]; exact (div_mid hl).1
      have h2 : j % s = j - i * s := by rw [e, (div_mid hl).2]; omega
      have h3 : j - (i * s + o) < xs.length := by omega
      have h5 : j - i * s - o = j - (i * s + o) := by omega
      simp only [flatS, List.getElem?_map, List.getElem?_range hj, Option.map_some, updS, h1, h2]
      rw [if_pos ⟨trivial, by omega, by omega⟩, h5]
      simp [List.getD, h3]
    · rw [if_neg h]
      have : ¬ (j / s = i ∧ o ≤ j % s ∧ j % s < o + xs.length) := by
        rintro ⟨h1, h2, h3⟩
        rw [h1] at hdm
        omega
      simp only [flatS, List.getElem?_map, List.getElem?_range hj, Option.map_some, updS, if_neg this]
  · rw [if_neg (by omega), List.getElem?_eq_none (by rw [flatS_len]; omega), List.getElem?_eq_none (by rw [flatS_len]; omega)]
theorem flatS_made (z : List Value) (n : Nat) (h0 : 0 < z.length) : (madeCells z.toArray (n * z.length)).toList = flatS z.length (fun _ b => z.getD b (.int .i64 0)) n := by
  apply List.ext_getElem?
  intro j
  by_cases hj : j < n * z.length
  · have h : j % z.length < z.length := Nat.mod_lt _ h0
    have e : (madeCells z.toArray (n * z.length)).toList[j]? = some (z.toArray[j % z.length]!) := by
      simp [madeCells, hj]
    rw [e]
    simp [flatS, hj, h, List.getD]
  · rw [List.getElem?_eq_none (by simp [size_madeCells]; omega), List.getElem?_eq_none (by rw [flatS_len]; omega)]
/-- A pool lies at block P: its arena; its cells at block G. -/
structure PlAt (T : TypeId) (s : Nat) (w : World) (base P p B G n c : Nat) (th : Nat → Bool) (vr : Nat → Int) (W : Nat → Nat → Value) : Prop where
  pl : P < w.heap.size
  pb : base ≤ P
  f0 : w.cell? ⟨P, 0, none⟩ = some (.pointer (some ⟨p, 0, none⟩))
  f1 : w.cell? ⟨P, 1, none⟩ = some (.slice (some ⟨G, 0, none⟩) n n)
  ar : ArAt w base p B n c th vr
  row : w.ownsRow base T s (.slice (some ⟨G, 0, none⟩) n n) n (flatS s W n)
  n1 : P ≠ B
  n2 : P ≠ G
  n3 : G ≠ B
  n4 : G ≠ p
section
variable {T : TypeId} {s : Nat} {w w' : World} {base P p B G n c : Nat} {th th' : Nat → Bool} {vr vr' : Nat → Int} {W W' : Nat → Nat → Value}
theorem PlAt.below (h : PlAt T s w base P p B G n c th vr W) (hb : Below w.heap.size w w') : PlAt T s w' base P p B G n c th vr W :=
  ⟨Nat.lt_of_lt_of_le h.pl hb.size, h.pb, (hb.cell (p := ⟨P, 0, none⟩) h.pl).trans h.f0, (hb.cell (p := ⟨P, 1, none⟩) h.pl).trans h.f1, h.ar.below hb, own_below h.row hb, h.n1, h.n2, h.n3, h.n4⟩
theorem PlAt.turn (h : PlAt T s w base P p B G n c th vr W) (hA : ArAt w' base p B n c th' vr') (hg : w.grownBy w' (some B)) : PlAt T s w' base P p B G n c th' vr' W :=
  ⟨Nat.lt_of_lt_of_le h.pl hg.size, h.pb, (World.cell?_of_block (a := ⟨P, 0, none⟩) (hg.block P h.pl (fun e => h.n1 (by injection e)))).trans h.f0, (World.cell?_of_block (a := ⟨P, 1, none⟩) (hg.block P h.pl (fun e => h.n1 (by injection e)))).trans h.f1, hA, h.row.kept hg (.inr (fun e => h.n3 (by simpa [Value.ownBlock] using e))), h.n1, h.n2, h.n3, h.n4⟩
theorem PlAt.cells (h : PlAt T s w base P p B G n c th vr W) (i o : Nat) (hi : i < n) (xs : List Value) (hx : o + xs.length ≤ s) : PlAt T s (w.setCells G (i * s + o) xs) base P p B G n c th vr (updS W i o xs) ∧ w.grownBy (w.setCells G (i * s + o) xs) (some G) := by
  have hs := own_setCells xs (i * s + o) _ _ h.row
  rw [flatS_over s W n i o xs hi hx] at hs
  exact ⟨⟨Nat.lt_of_lt_of_le h.pl hs.2.size, h.pb, (World.cell?_of_block (a := ⟨P, 0, none⟩) (hs.2.block P h.pl (fun e => h.n2 (by injection e)))).trans h.f0, (World.cell?_of_block (a := ⟨P, 1, none⟩) (hs.2.block P h.pl (fun e => h.n2 (by injection e)))).trans h.f1, h.ar.kept hs.2 (Ne.symm h.n4) (Ne.symm h.n3), hs.1, h.n1, h.n2, h.n3, h.n4⟩, hs.2⟩
theorem PlAt.cell (h : PlAt T s w base P p B G n c th vr W) (i j : Nat) (hi : i < n) (hj : j < s) : w.cell? ⟨G, i * s + j, none⟩ = some (W i j) := by
  rw [h.row.cellAt (i * s + j) (mid_lt hi hj), flatS_at s W n i j hi hj]
theorem PlAt.frz (h : PlAt T s w base P p B G n c th vr W) (j : Nat) : w.frozen? ⟨G, j, none⟩ = false := h.row.frozenAt j
theorem PlAt.gl (h : PlAt T s w base P p B G n c th vr W) : base ≤ G ∧ G < w.heap.size := h.row.lt G rfl
theorem PlAt.there (h : PlAt T s w base P p B G n c th vr W) (i o m : Nat) (hi : i < n) (hm : o + m ≤ s) : w.there G (i * s + o) m := fun j hj => by
  rw [Nat.add_assoc, h.cell i (o + j) hi (by omega)]
  exact ⟨rfl, h.row.frozenAt _⟩
theorem PlAt.range (h : PlAt T s w base P p B G n c th vr W) (i o : Nat) (xs : List Value) (hi : i < n) (hm : o + xs.length ≤ s) (hx : ∀ q v, xs[q]? = some v → W i (o + q) = v) : w.rangeAt G (i * s + o) xs := fun j v hv => by
  have hj : j < xs.length := (List.getElem?_eq_some_iff.1 hv).1
  rw [Nat.add_assoc, h.cell i (o + j) hi (by omega), hx j v hv]
theorem PlAt.congr (h : PlAt T s w base P p B G n c th vr W) (h1 : ∀ i, i < n → th i = th' i) (h2 : ∀ i, i < n → vr i = vr' i) : PlAt T s w base P p B G n c th' vr' W := ⟨h.pl, h.pb, h.f0, h.f1, h.ar.congr h1 h2, h.row, h.n1, h.n2, h.n3, h.n4⟩
/-- Blocks of its own apart, all is as it was: the same pool. -/
theorem PlAt.far (h : PlAt T s w base P p B G n c th vr W) {row : Option Nat} (hg : w.grownBy w' row) (h0 : row ≠ some P) (h1 : row ≠ some p) (h2 : row ≠ some B) (h3 : row ≠ some G) : PlAt T s w' base P p B G n c th vr W := by
  have hP := hg.block P h.pl (Ne.symm h0)
  have hp := hg.block p h.ar.pl (Ne.symm h1)
  exact ⟨Nat.lt_of_lt_of_le h.pl hg.size, h.pb, (World.cell?_of_block (a := ⟨P, 0, none⟩) hP).trans h.f0, (World.cell?_of_block (a := ⟨P, 1, none⟩) hP).trans h.f1,
    ⟨Nat.lt_of_lt_of_le h.ar.pl hg.size, h.ar.pb, (World.cell?_of_block (a := ⟨p, 0, none⟩) hp).trans h.ar.fld, h.ar.own.kept hg (.inr (fun e => h2 (by rw [← e]; rfl))), h.ar.ne, h.ar.le⟩,
    h.row.kept hg (.inr (fun e => h3 (by rw [← e]; rfl))), h.n1, h.n2, h.n3, h.n4⟩
end
end Go.Proofs.YtahhnfhnlffmpaaDoor
namespace Go.Proofs.YtahhnfhnlffmpaaDoor
open Go.ChangeShapes Go.WideShapes Go.ChangeAt Go.RowKit
set_option linter.unusedVariables false
theorem many_places (k : Int) : manyOf k = if placesOf k = 0 then 1 else placesOf k := by
  unfold manyOf placesOf
  repeat' split
  all_goals first | rfl | omega | (exfalso; simp_all)
theorem hid_many (k : Int) : hidOf k = manyOf k - 1 := by
  unfold hidOf
  rw [many_places]
  have := placesOf_ge k
  split <;> split <;> omega
theorem hver_most (k : Int) : hverOf k = mostOf k := by
  unfold hverOf mostOf
  rw [many_places]
  have := placesOf_ge k
  have p1 : placesOf k ≠ 1 := by unfold placesOf; repeat' split
                                 all_goals omega
  by_cases h : placesOf k = 0
  · rw [if_pos h, if_neg (by omega), if_neg (by omega)]
  · rw [if_neg h, if_pos (by omega), if_pos (by omega)]
theorem hr_rights (k : Int) : hrOf k = rightsOf k := by
  unfold hrOf rightsOf
  by_cases h : k = 2 ∨ k = 3
  · rw [if_pos h, if_pos (by simpa using h)]
  · rw [if_neg h, if_neg (by simpa using h)]
theorem data_most (k : Int) : dataMost k = dataOf k := by
  unfold dataMost dataOf
  repeat' split
  all_goals first | rfl | omega
theorem right_in (k0 k1 k2 k3 k4 : Int) : rightB k0 k1 k2 k3 k4 = decide ((0 ≤ k0 ∧ k0 ≤ 14) ∧ InB k0 k1 k2 k3 k4) := by
  unfold rightB InB
  rw [hid_many, hver_most, hr_rights, data_most]
  rw [Bool.eq_iff_iff]
  simp only [wB, Bool.and_eq_true, decide_eq_true_eq]
  omega
theorem code_right {k0 k1 k2 k3 k4 : Int} (h : rightB k0 k1 k2 k3 k4 = true) : codeOf k0 k1 k2 k3 k4 = 0 := by
  rw [right_in, decide_eq_true_iff] at h
  exact codeOf_0 _ _ _ _ _ (by omega) h.2
theorem right_of_code {k0 k1 k2 k3 k4 : Int} (h : codeOf k0 k1 k2 k3 k4 = 0) : rightB k0 k1 k2 k3 k4 = true := by
  rw [right_in, decide_eq_true_iff]
  unfold codeOf at h
  split at h
  · omega
  · split at h
    · exact ⟨by omega, by assumption⟩
    · omega
theorem code_not {k0 k1 k2 k3 k4 : Int} (h : ¬ codeOf k0 k1 k2 k3 k4 = 0) : codeOf k0 k1 k2 k3 k4 = 102 ∨ codeOf k0 k1 k2 k3 k4 = 103 := by
  unfold codeOf at h ⊢
  split at h <;> split <;> first | omega | (split at h <;> split <;> omega) | (left; rfl) | skip
  all_goals (first | omega | (split at h <;> first | omega | (split <;> omega)))
end Go.Proofs.YtahhnfhnlffmpaaDoor
namespace Go.Proofs.YtahhnfhnlffmpaaDoor
open Go.ChangeShapes Go.WideShapes Go.ChangeAt Go.RowKit Go.Maps
set_option linter.unusedVariables false
theorem keepSK {W w w' : World} {gu gv q : Nat} {x0 x1 x2 x3 x4 : Int} (hu : gu < W.heap.size) (hv : gv < W.heap.size) (h : Below W.heap.size W w ∧ (w.cell? ⟨gu, q * 5, none⟩ = some (.int .i64 x0) ∧ w.cell? ⟨gu, q * 5 + 1, none⟩ = some (.int .i64 x1) ∧ w.cell? ⟨gu, q * 5 + 2, none⟩ = some (.int .i64 x2) ∧ w.cell? ⟨gu, q * 5 + 3, none⟩ = some (.int .i64 x3) ∧ w.cell? ⟨gu, q * 5 + 4, none⟩ = some (.int .u32 x4)) ∧ (w.cell? ⟨gv, q * 5, none⟩ = some (.int .i64 x0) ∧ w.cell? ⟨gv, q * 5 + 1, none⟩ = some (.int .i64 x1) ∧ w.cell? ⟨gv, q * 5 + 2, none⟩ = some (.int .i64 x2) ∧ w.cell? ⟨gv, q * 5 + 3, none⟩ = some (.int .i64 x3) ∧ w.cell? ⟨gv, q * 5 + 4, none⟩ = some (.int .u32 x4))) (hb : Below w.heap.size w w') : Below W.heap.size W w' ∧ (w'.cell? ⟨gu, q * 5, none⟩ = some (.int .i64 x0) ∧ w'.cell? ⟨gu, q * 5 + 1, none⟩ = some (.int .i64 x1) ∧ w'.cell? ⟨gu, q * 5 + 2, none⟩ = some (.int .i64 x2) ∧ w'.cell? ⟨gu, q * 5 + 3, none⟩ = some (.int .i64 x3) ∧ w'.cell? ⟨gu, q * 5 + 4, none⟩ = some (.int .u32 x4)) ∧ (w'.cell? ⟨gv, q * 5, none⟩ = some (.int .i64 x0) ∧ w'.cell? ⟨gv, q * 5 + 1, none⟩ = some (.int .i64 x1) ∧ w'.cell? ⟨gv, q * 5 + 2, none⟩ = some (.int .i64 x2) ∧ w'.cell? ⟨gv, q * 5 + 3, none⟩ = some (.int .i64 x3) ∧ w'.cell? ⟨gv, q * 5 + 4, none⟩ = some (.int .u32 x4)) :=
  ⟨h.1.trans (hb.mono h.1.size), InF.below (e := ⟨gu, q * 5, none⟩) h.2.1 hb (Nat.lt_of_lt_of_le hu h.1.size), InF.below (e := ⟨gv, q * 5, none⟩) h.2.2 hb (Nat.lt_of_lt_of_le hv h.1.size)⟩
theorem startSK {W : World} {gu gv q : Nat} {x0 x1 x2 x3 x4 : Int} (hu : gu < W.heap.size) (hv : gv < W.heap.size) (h1 : InF W ⟨gu, q * 5, none⟩ x0 x1 x2 x3 x4) (h2 : InF W ⟨gv, q * 5, none⟩ x0 x1 x2 x3 x4) : Below W.heap.size W W.drew ∧ (W.drew.cell? ⟨gu, q * 5, none⟩ = some (.int .i64 x0) ∧ W.drew.cell? ⟨gu, q * 5 + 1, none⟩ = some (.int .i64 x1) ∧ W.drew.cell? ⟨gu, q * 5 + 2, none⟩ = some (.int .i64 x2) ∧ W.drew.cell? ⟨gu, q * 5 + 3, none⟩ = some (.int .i64 x3) ∧ W.drew.cell? ⟨gu, q * 5 + 4, none⟩ = some (.int .u32 x4)) ∧ (W.drew.cell? ⟨gv, q * 5, none⟩ = some (.int .i64 x0) ∧ W.drew.cell? ⟨gv, q * 5 + 1, none⟩ = some (.int .i64 x1) ∧ W.drew.cell? ⟨gv, q * 5 + 2, none⟩ = some (.int .i64 x2) ∧ W.drew.cell? ⟨gv, q * 5 + 3, none⟩ = some (.int .i64 x3) ∧ W.drew.cell? ⟨gv, q * 5 + 4, none⟩ = some (.int .u32 x4)) :=
  ⟨(Below.refl _ _).drew, InF.below (e := ⟨gu, q * 5, none⟩) h1 (Below.refl _ _).drew hu, InF.below (e := ⟨gv, q * 5, none⟩) h2 (Below.refl _ _).drew hv⟩
set_option maxRecDepth 100000 in
set_option maxHeartbeats 4000000 in
theorem samekeys_yes (u v : Option Addr) (L cu cv : Nat) (x : Nat → Nat → Int) (w : World) (h : ∀ q, q < L → ∃ gu gv, u = some ⟨gu, 0, none⟩ ∧ v = some ⟨gv, 0, none⟩ ∧ gu < w.heap.size ∧ gv < w.heap.size ∧ InF w ⟨gu, q * 5, none⟩ (x q 0) (x q 1) (x q 2) (x q 3) (x q 4) ∧ InF w ⟨gv, q * 5, none⟩ (x q 0) (x q 1) (x q 2) (x q 3) (x q 4)) (h64 : L ≤ 64) :
    Calls Tryd.prog 22 #[.slice u L cu, .slice v L cv] w fun e w' => e = .returned (.bool true) ∧ Below w.heap.size w w' := by
  have H := Lib.hid h
  clear h
  go_enter Tryd.func22, Tryd.ntmps22
  have hLL : ((L : Int) != L) = false := by simp
  go_wp2_with fail
  go_loopw [5] (fun z wr => ∃ q : Nat, q ≤ L ∧ z = .int .i64 q ∧ Below w.heap.size w wr) (fun z _ => L - (intOf z).toNat)
  case atStart => exact ⟨0, by omega, rfl, Below.refl _ _⟩
  case round =>
    obtain ⟨q, hq, rfl, hb⟩ := hrel
    have HB := Lib.hid hb
    clear hb
    by_cases hlt : q < L
    · obtain ⟨gu, gv, rfl, rfl, hu, hv, h1, h2⟩ := H.out q hlt
      have q0 : (0 : Int) ≤ q := by omega
      have q1 : (q : Int) < L := by omega
      have h1' := h1.below HB.out hu
      have h2' := h2.below HB.out hv
      have HU : Hid (gu < wr.heap.size ∧ gv < wr.heap.size) := Lib.hid ⟨Nat.lt_of_lt_of_le hu HB.out.size, Nat.lt_of_lt_of_le hv HB.out.size⟩
      clear h1 h2 hu hv
      generalize x q 0 = x0 at h1' h2'
      generalize x q 1 = x1 at h1' h2'
      generalize x q 2 = x2 at h1' h2'
      generalize x q 3 = x3 at h1' h2'
      generalize x q 4 = x4 at h1' h2'
      have ST : Hid (Below wr.heap.size wr wr.drew ∧ (wr.drew.cell? ⟨gu, q * 5, none⟩ = some (.int .i64 x0) ∧ wr.drew.cell? ⟨gu, q * 5 + 1, none⟩ = some (.int .i64 x1) ∧ wr.drew.cell? ⟨gu, q * 5 + 2, none⟩ = some (.int .i64 x2) ∧ wr.drew.cell? ⟨gu, q * 5 + 3, none⟩ = some (.int .i64 x3) ∧ wr.drew.cell? ⟨gu, q * 5 + 4, none⟩ = some (.int .u32 x4)) ∧ (wr.drew.cell? ⟨gv, q * 5, none⟩ = some (.int .i64 x0) ∧ wr.drew.cell? ⟨gv, q * 5 + 1, none⟩ = some (.int .i64 x1) ∧ wr.drew.cell? ⟨gv, q * 5 + 2, none⟩ = some (.int .i64 x2) ∧ wr.drew.cell? ⟨gv, q * 5 + 3, none⟩ = some (.int .i64 x3) ∧ wr.drew.cell? ⟨gv, q * 5 + 4, none⟩ = some (.int .u32 x4))) := Lib.hid (startSK HU.out.1 HU.out.2 h1' h2')
      clear h1' h2'
      go_upto_region 6 with fail
      go_region_held3 (fun w' => Below wr.heap.size wr w' ∧ (w'.cell? ⟨gu, q * 5, none⟩ = some (.int .i64 x0) ∧ w'.cell? ⟨gu, q * 5 + 1, none⟩ = some (.int .i64 x1) ∧ w'.cell? ⟨gu, q * 5 + 2, none⟩ = some (.int .i64 x2) ∧ w'.cell? ⟨gu, q * 5 + 3, none⟩ = some (.int .i64 x3) ∧ w'.cell? ⟨gu, q * 5 + 4, none⟩ = some (.int .u32 x4)) ∧ (w'.cell? ⟨gv, q * 5, none⟩ = some (.int .i64 x0) ∧ w'.cell? ⟨gv, q * 5 + 1, none⟩ = some (.int .i64 x1) ∧ w'.cell? ⟨gv, q * 5 + 2, none⟩ = some (.int .i64 x2) ∧ w'.cell? ⟨gv, q * 5 + 3, none⟩ = some (.int .i64 x3) ∧ w'.cell? ⟨gv, q * 5 + 4, none⟩ = some (.int .u32 x4))) (first | exact ST.out | exact keepSK HU.out.1 HU.out.2 (by assumption) hb)
        (first | (go_at_call 20; (with_reducible refine (same_is x0 x1 x2 x3 x4 x0 x1 x2 x3 x4 true (Lib.hid (by simp [sameB])) _).mono ?_); rintro e w' ⟨rfl, hb⟩))
      have hS : Below wr.heap.size wr w' ∧ (w'.cell? ⟨gu, q * 5, none⟩ = some (.int .i64 x0) ∧ w'.cell? ⟨gu, q * 5 + 1, none⟩ = some (.int .i64 x1) ∧ w'.cell? ⟨gu, q * 5 + 2, none⟩ = some (.int .i64 x2) ∧ w'.cell? ⟨gu, q * 5 + 3, none⟩ = some (.int .i64 x3) ∧ w'.cell? ⟨gu, q * 5 + 4, none⟩ = some (.int .u32 x4)) ∧ (w'.cell? ⟨gv, q * 5, none⟩ = some (.int .i64 x0) ∧ w'.cell? ⟨gv, q * 5 + 1, none⟩ = some (.int .i64 x1) ∧ w'.cell? ⟨gv, q * 5 + 2, none⟩ = some (.int .i64 x2) ∧ w'.cell? ⟨gv, q * 5 + 3, none⟩ = some (.int .i64 x3) ∧ w'.cell? ⟨gv, q * 5 + 4, none⟩ = some (.int .u32 x4)) := by assumption
      obtain ⟨hB, -⟩ := hS
      have HB2 := Lib.hid hB
      clear hB
      go_wp2_with fail
      go_roundw
      case rel => exact ⟨q + 1, by omega, by go_num, HB.out.trans (HB2.out.mono HB.out.size)⟩
      case measure => simp [intOf]; omega
    · obtain rfl : q = L := by omega
      have hqq : decide (q < q) = false := by simp
      go_wp2_with fail
      go_ret
      exact ⟨rfl, HB.out⟩
end Go.Proofs.YtahhnfhnlffmpaaDoor
