/-
  package node: what nodes are in memory: an arena; 80 cells a node.
-/
import Derived.Test.YtncopdhhchmpeaaGreatDoorPg2
import Derived.Test.YtncopdhhchmpeaaGreatDoorStructs
namespace Go.Proofs.YtncopdhhchmpeaaGreatDoor
open Go.ChangeShapes Go.WideShapes Go.ChangeAt Go.RowKit
set_option linter.unusedVariables false
/-- A cell of nothing. -/
def zc (b : Nat) : Value := if b % 5 = 4 then .int .u32 0 else .int .i64 0
def zs80 : List Value := (List.range 80).map zc
theorem infoSlots : (Tryz.prog.info? 163).map (fun i => (i.zero, i.size, i.bytes)) = some (some (.agg zs80.toArray), 80, 640) := by kernel_rfl
theorem infoKey5 : (Tryz.prog.info? 42).map (·.size) = some 5 := by kernel_rfl
def keyZ : Value := .agg #[.int .i64 0, .int .i64 0, .int .i64 0, .int .i64 0, .int .u32 0]
theorem zeroKeyR (w : World) : (zeroValue 42).run Tryz.prog w = .ok keyZ w := by kernel_rfl
theorem zero16 : (Builtin.zeroCells keyZ.cells 16).toList = zs80 := by kernel_rfl
theorem zs80_len : zs80.length = 80 := by simp [zs80]
theorem zc_one (b : Nat) : (zc b).oneCell' = true := by unfold zc; split <;> rfl
section
variable {P : Program}
theorem run_copy_cells_wide (w : World) (dT sT ty elem : TypeId) (s b o dLen dCap : Nat) (a : Addr) (sLen sCap : Nat) (cs : List Value)
    (hu : P.underlying dT = some (.slice elem)) (hs : (P.info? elem).map (·.size) = some s) (hn : cs.length = Nat.min sLen dLen * s)
    (hsrc : ∀ j v, cs[j]? = some v → w.cell? (a.add j) = some v) (hc : ∀ j, j < cs.length → (w.cell? ⟨b, o + j, none⟩).isSome = true) (hf : ∀ j, j < cs.length → w.frozen? ⟨b, o + j, none⟩ = false) (h1 : ∀ v ∈ cs, v.oneCell' = true) :
    (Builtin.copy_ #[dT, sT] ty #[.slice (some ⟨b, o, none⟩) dLen dCap, .slice (some a) sLen sCap]).run P w = .ok (goInt (Nat.min sLen dLen)) (w.setCells b o cs) := by
  have hl := run_loadCells_list (P := P) w a cs hsrc
  have hst := run_storeCells_cells (P := P) b o cs 0 w (by simpa using hc) (by simpa using hf) h1
  cases hq : P.info? elem with
  | none => simp [hq] at hs
  | some i =>
    have hi : i.size = s := by simpa [hq] using hs
    rw [hn] at hl
    simp [Builtin.copy_, run_underlying hu, Builtin.lenOf, Builtin.firstCells, sizeOf, typeInfo, hq, hi, hl, hst]
theorem run_clear_wide (w : World) (t e ty : TypeId) (z : Value) (ht : P.underlying t = some (.slice e)) (hv : ∀ w, (zeroValue e).run P w = .ok z w) (b o n c : Nat) (hn : 0 < n) (cs : List Value) (hz : (Builtin.zeroCells z.cells n).toList = cs)
    (hc : ∀ j, j < cs.length → (w.cell? ⟨b, o + j, none⟩).isSome = true) (hf : ∀ j, j < cs.length → w.frozen? ⟨b, o + j, none⟩ = false) (h1 : ∀ v ∈ cs, v.oneCell' = true) :
    (Builtin.clear_ #[t] ty #[.slice (some ⟨b, o, none⟩) n c]).run P w = .ok (.tuple #[]) (w.setCells b o cs) := by
  have hst := run_storeCells_cells (P := P) b o cs 0 w (by simpa using hc) (by simpa using hf) h1
  simp only [Nat.add_zero] at hst
  obtain ⟨m, rfl⟩ : ∃ m, n = m + 1 := ⟨n - 1, by omega⟩
  simp [Builtin.clear_, run_underlying ht, hv, hz, hst]
end
/-- The cells of n nodes, one behind the other. -/
def flatV (W : Nat → Nat → Value) (n : Nat) : List Value := (List.range (n * 80)).map fun j => W (j / 80) (j % 80)
theorem flatV_len (W : Nat → Nat → Value) (n : Nat) : (flatV W n).length = n * 80 := by simp [flatV]
theorem flatV_at (W : Nat → Nat → Value) (n i j : Nat) (hi : i < n) (hj : j < 80) : (flatV W n)[i * 80 + j]? = some (W i j) := by
  have h1 : i * 80 + j < n * 80 := by omega
  have h2 : (i * 80 + j) / 80 = i := by omega
  have h3 : (i * 80 + j) % 80 = j := by omega
  simp [flatV, h1, h2, h3]
/-- Some cells of one node anew, from its o-th on. -/
def updV (W : Nat → Nat → Value) (i o : Nat) (xs : List Value) : Nat → Nat → Value := fun a b => if a = i ∧ o ≤ b ∧ b < o + xs.length then xs.getD (b - o) (.int .i64 0) else W a b
theorem flatV_over (W : Nat → Nat → Value) (n i o : Nat) (xs : List Value) (hi : i < n) (hx : o + xs.length ≤ 80) : over (flatV W n) (i * 80 + o) xs = flatV (updV W i o xs) n := by
  apply List.ext_getElem?
  intro j
  rw [over_get _ _ _ _ (by rw [flatV_len]; omega)]
  by_cases hj : j < n * 80
  · by_cases h : i * 80 + o ≤ j ∧ j < i * 80 + o + xs.length
    · rw [if_pos h]
      have h1 : j / 80 = i := by omega
      have h2 : j % 80 = j - i * 80 := by omega
      have h3 : j - (i * 80 + o) < xs.length := by omega
      have h4 : o ≤ j - i * 80 ∧ j - i * 80 < o + xs.length := by omega
      have h5 : j - i * 80 - o = j - (i * 80 + o) := by omega
      simp only [flatV, List.getElem?_map, List.getElem?_range hj, Option.map_some, updV, h1, h2]
      rw [if_pos ⟨trivial, h4.1, h4.2⟩, h5]
      simp [List.getD, h3]
    · rw [if_neg h]
      have : ¬ (j / 80 = i ∧ o ≤ j % 80 ∧ j % 80 < o + xs.length) := by omega
      simp only [flatV, List.getElem?_map, List.getElem?_range hj, Option.map_some, updV, if_neg this]
  · rw [if_neg (by omega), List.getElem?_eq_none (by rw [flatV_len]; omega), List.getElem?_eq_none (by rw [flatV_len]; omega)]
theorem flatV_made (n : Nat) : (madeCells zs80.toArray (n * 80)).toList = flatV (fun _ b => zc b) n := by
  apply List.ext_getElem?
  intro j
  by_cases hj : j < n * 80
  · have h : j % 80 < 80 := Nat.mod_lt _ (by decide)
    have e : (madeCells zs80.toArray (n * 80)).toList[j]? = some (zs80.toArray[j % 80]!) := by
      simp [madeCells, hj, zs80_len]
    rw [e]
    simp [flatV, hj, zs80, h]
  · rw [List.getElem?_eq_none (by simp [size_madeCells]; omega), List.getElem?_eq_none (by rw [flatV_len]; omega)]
/-- Nodes lie at block P: their arena; their keys at block G. -/
structure NdAt (w : World) (base P p B G n c : Nat) (th : Nat → Bool) (vr : Nat → Int) (W : Nat → Nat → Value) : Prop where
  pl : P < w.heap.size
  pb : base ≤ P
  f0 : w.cell? ⟨P, 0, none⟩ = some (.pointer (some ⟨p, 0, none⟩))
  f1 : w.cell? ⟨P, 1, none⟩ = some (.slice (some ⟨G, 0, none⟩) n n)
  ar : ArAt w base p B n c th vr
  row : w.ownsRow base 163 80 (.slice (some ⟨G, 0, none⟩) n n) n (flatV W n)
  n1 : P ≠ B
  n2 : P ≠ G
  n3 : G ≠ B
  n4 : G ≠ p
section
variable {w w' : World} {base P p B G n c : Nat} {th th' : Nat → Bool} {vr vr' : Nat → Int} {W W' : Nat → Nat → Value}
theorem NdAt.below (h : NdAt w base P p B G n c th vr W) (hb : Below w.heap.size w w') : NdAt w' base P p B G n c th vr W :=
  ⟨Nat.lt_of_lt_of_le h.pl hb.size, h.pb, (hb.cell (p := ⟨P, 0, none⟩) h.pl).trans h.f0, (hb.cell (p := ⟨P, 1, none⟩) h.pl).trans h.f1, h.ar.below hb, own_below h.row hb, h.n1, h.n2, h.n3, h.n4⟩
theorem NdAt.turn (h : NdAt w base P p B G n c th vr W) (hA : ArAt w' base p B n c th' vr') (hg : w.grownBy w' (some B)) : NdAt w' base P p B G n c th' vr' W :=
  ⟨Nat.lt_of_lt_of_le h.pl hg.size, h.pb, (World.cell?_of_block (a := ⟨P, 0, none⟩) (hg.block P h.pl (fun e => h.n1 (by injection e)))).trans h.f0, (World.cell?_of_block (a := ⟨P, 1, none⟩) (hg.block P h.pl (fun e => h.n1 (by injection e)))).trans h.f1, hA, h.row.kept hg (.inr (fun e => h.n3 (by simpa [Value.ownBlock] using e))), h.n1, h.n2, h.n3, h.n4⟩
theorem NdAt.cells (h : NdAt w base P p B G n c th vr W) (i o : Nat) (hi : i < n) (xs : List Value) (hx : o + xs.length ≤ 80) : NdAt (w.setCells G (i * 80 + o) xs) base P p B G n c th vr (updV W i o xs) ∧ w.grownBy (w.setCells G (i * 80 + o) xs) (some G) := by
  have hs := own_setCells xs (i * 80 + o) _ _ h.row
  rw [flatV_over W n i o xs hi hx] at hs
  exact ⟨⟨Nat.lt_of_lt_of_le h.pl hs.2.size, h.pb, (World.cell?_of_block (a := ⟨P, 0, none⟩) (hs.2.block P h.pl (fun e => h.n2 (by injection e)))).trans h.f0, (World.cell?_of_block (a := ⟨P, 1, none⟩) (hs.2.block P h.pl (fun e => h.n2 (by injection e)))).trans h.f1, h.ar.kept hs.2 (Ne.symm h.n4) (Ne.symm h.n3), hs.1, h.n1, h.n2, h.n3, h.n4⟩, hs.2⟩
theorem NdAt.cell (h : NdAt w base P p B G n c th vr W) (i j : Nat) (hi : i < n) (hj : j < 80) : w.cell? ⟨G, i * 80 + j, none⟩ = some (W i j) := by
  rw [h.row.cellAt (i * 80 + j) (by omega), flatV_at W n i j hi hj]
theorem NdAt.congr (h : NdAt w base P p B G n c th vr W) (h1 : ∀ i, i < n → th i = th' i) (h2 : ∀ i, i < n → vr i = vr' i) : NdAt w base P p B G n c th' vr' W := ⟨h.pl, h.pb, h.f0, h.f1, h.ar.congr h1 h2, h.row, h.n1, h.n2, h.n3, h.n4⟩
theorem NdAt.clear (h : NdAt w base P p B G n c th vr W) (i : Nat) (hi : i < n) : ∃ w1, (∀ ty, (Builtin.clear_ #[73] ty #[.slice (some ⟨G, i * 80, none⟩) 16 16]).run Tryz.prog w = .ok (.tuple #[]) w1) ∧ NdAt w1 base P p B G n c th vr (updV W i 0 zs80) ∧ w.grownBy w1 (some G) := by
  have hs := h.cells i 0 hi zs80 (by rw [zs80_len]; omega)
  rw [Nat.add_zero] at hs
  refine ⟨_, fun ty => ?_, hs⟩
  exact run_clear_wide (P := Tryz.prog) w 73 42 ty keyZ Tryz.underlying73 zeroKeyR G (i * 80) 16 16 (by decide) zs80 zero16 (fun j hj => by rw [zs80_len] at hj; rw [h.cell i j hi hj]; rfl) (fun j hj => h.row.frozenAt _) (fun v hv => by
    obtain ⟨x, _, rfl⟩ := List.mem_map.1 hv
    exact zc_one x)
theorem NdAt.copy (h : NdAt w base P p B G n c th vr W) (i : Nat) (hi : i < n) (a : Option Addr) (m c2 : Nat) (xs : List Value) (hm : xs.length = m * 5) (hx : m ≤ 16) (h1 : ∀ v ∈ xs, v.oneCell' = true) (ha : 0 < m → ∃ ad, a = some ad ∧ ∀ j v, xs[j]? = some v → w.cell? (ad.add j) = some v) :
    ∃ w1, (∀ ty, (Builtin.copy_ #[73, 73] ty #[.slice (some ⟨G, i * 80, none⟩) 16 16, .slice a m c2]).run Tryz.prog w = .ok (goInt m) w1) ∧ NdAt w1 base P p B G n c th vr (updV W i 0 xs) ∧ w.grownBy w1 (some G) := by
  by_cases h0 : m = 0
  · subst h0
    obtain rfl : xs = [] := List.length_eq_zero_iff.1 (by omega)
    refine ⟨w, fun ty => run_copy_wide_none (P := Tryz.prog) w 73 73 ty 42 5 _ a 16 16 0 c2 Tryz.underlying73 infoKey5 rfl, ?_, ⟨rfl, rfl, rfl, Nat.le_refl _, fun _ _ _ => rfl⟩⟩
    have e : updV W i 0 [] = W := by funext a b; simp [updV]
    rw [e]
    exact h
  · have hs := h.cells i 0 hi xs (by omega)
    rw [Nat.add_zero] at hs
    obtain ⟨ad, rfl, hsrc⟩ := ha (by omega)
    refine ⟨_, fun ty => ?_, hs⟩
    have hmin : Nat.min m 16 = m := Nat.min_eq_left hx
    have := run_copy_cells_wide (P := Tryz.prog) w 73 73 ty 42 5 G (i * 80) 16 16 ad m c2 xs Tryz.underlying73 infoKey5 (by rw [hmin]; exact hm) hsrc (fun j hj => by rw [h.cell i j hi (by omega)]; rfl) (fun j hj => h.row.frozenAt _) h1
    rw [this, hmin]
end
end Go.Proofs.YtncopdhhchmpeaaGreatDoor
