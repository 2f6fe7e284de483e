/-
  package meter: what meters are in memory; New, Chain, Ticks.
-/
import Derived.Test.YtncopdhhchmpeaaGreatDoorPg2
import Derived.Maps.AppendAt
namespace Go.Proofs.YtncopdhhchmpeaaGreatDoor
open Go.ChangeShapes Go.WideShapes Go.ChangeAt Go.RowKit
set_option linter.unusedVariables false
/-- The cells of n meters: parent, ticks. -/
def mtc (th : Nat → Int) (vr : Nat → Int) : Nat → List Value
  | 0 => []
  | n + 1 => mtc th vr n ++ [.int .i64 (th n), .int .i64 (vr n)]
theorem mtc_len (th : Nat → Int) (vr : Nat → Int) (n : Nat) : (mtc th vr n).length = n * 2 := by
  induction n with
  | zero => rfl
  | succ n ih => simp [mtc, ih]; omega
theorem mtc_at0 (th : Nat → Int) (vr : Nat → Int) (n i : Nat) (hi : i < n) : (mtc th vr n)[i * 2]? = some (.int .i64 (th i)) := by
  induction n with
  | zero => omega
  | succ n ih =>
    unfold mtc
    by_cases h : i = n
    · subst h
      rw [List.getElem?_append_right (by rw [mtc_len]; omega), mtc_len]
      simp
    · rw [List.getElem?_append_left (by rw [mtc_len]; omega)]
      exact ih (by omega)
theorem mtc_at1 (th : Nat → Int) (vr : Nat → Int) (n i : Nat) (hi : i < n) : (mtc th vr n)[i * 2 + 1]? = some (.int .i64 (vr i)) := by
  induction n with
  | zero => omega
  | succ n ih =>
    unfold mtc
    by_cases h : i = n
    · subst h
      rw [List.getElem?_append_right (by rw [mtc_len]; omega), mtc_len]
      simp
    · rw [List.getElem?_append_left (by rw [mtc_len]; omega)]
      exact ih (by omega)
theorem mtc_congr {th th' : Nat → Int} {vr vr' : Nat → Int} (n : Nat) (h1 : ∀ i, i < n → th i = th' i) (h2 : ∀ i, i < n → vr i = vr' i) : mtc th vr n = mtc th' vr' n := by
  induction n with
  | zero => rfl
  | succ n ih =>
    unfold mtc
    rw [ih (fun i hi => h1 i (by omega)) (fun i hi => h2 i (by omega)), h1 n (by omega), h2 n (by omega)]
theorem mtc_set0 (th : Nat → Int) (vr : Nat → Int) (n i : Nat) (hi : i < n) (b : Int) : (mtc th vr n).set (i * 2) (.int .i64 b) = mtc (upd th i b) vr n := by
  induction n with
  | zero => omega
  | succ n ih =>
    unfold mtc
    by_cases h : i = n
    · subst h
      rw [List.set_append_right _ _ (by rw [mtc_len]; omega), mtc_len, upd_at]
      rw [mtc_congr (th := upd th i b) (th' := th) (vr' := vr) i (fun j hj => upd_other _ _ _ _ (by omega)) (fun _ _ => rfl)]
      simp
    · rw [List.set_append_left _ _ (by rw [mtc_len]; omega), ih (by omega), upd_other _ _ _ _ (by omega)]
theorem mtc_set1 (th : Nat → Int) (vr : Nat → Int) (n i : Nat) (hi : i < n) (v : Int) : (mtc th vr n).set (i * 2 + 1) (.int .i64 v) = mtc th (upd vr i v) n := by
  induction n with
  | zero => omega
  | succ n ih =>
    unfold mtc
    by_cases h : i = n
    · subst h
      rw [List.set_append_right _ _ (by rw [mtc_len]; omega), mtc_len, upd_at]
      rw [mtc_congr (vr := upd vr i v) (vr' := vr) (th' := th) i (fun _ _ => rfl) (fun j hj => upd_other _ _ _ _ (by omega))]
      rw [show i * 2 + 1 - i * 2 = 1 by omega]
      rfl
    · rw [List.set_append_left _ _ (by rw [mtc_len]; omega), ih (by omega), upd_other _ _ _ _ (by omega)]
theorem infoMeter : (Tryz.prog.info? 113).map (fun i => (i.zero, i.size, i.bytes)) = some (some (.agg #[.int .i64 0, .int .i64 0]), 2, 16) := by kernel_rfl
theorem infoIntM : (Tryz.prog.info? 3).map (fun i => (i.zero, i.size, i.bytes)) = some (some (.int .i64 0), 1, 8) := by kernel_rfl
theorem mtc_made (n : Nat) : (madeCells #[Value.int .i64 0, Value.int .i64 0] (n * 2)).toList = mtc (fun _ => 0) (fun _ => 0) n := by
  apply List.ext_getElem?
  intro j
  by_cases hj : j < n * 2
  · have e : (madeCells #[Value.int .i64 0, Value.int .i64 0] (n * 2)).toList[j]? = some ((#[Value.int .i64 0, Value.int .i64 0] : Array Value)[j % 2]!) := by
      simp [madeCells, hj]
    rw [e]
    obtain ⟨i, hi⟩ : ∃ i, j = i * 2 ∨ j = i * 2 + 1 := ⟨j / 2, by omega⟩
    rcases hi with rfl | rfl
    · rw [mtc_at0 _ _ n i (by omega), show i * 2 % 2 = 0 by omega]
      rfl
    · rw [mtc_at1 _ _ n i (by omega), show (i * 2 + 1) % 2 = 1 by omega]
      rfl
  · rw [List.getElem?_eq_none (by simp [size_madeCells]; omega), List.getElem?_eq_none (by rw [mtc_len]; omega)]
/-- Meters lie at block P: their arena; parents and ticks at block G. -/
structure MtAt (w : World) (base P p B G n c : Nat) (th : Nat → Bool) (vr pr tk : Nat → Int) : Prop where
  pl : P < w.heap.size
  pb : base ≤ P
  f0 : w.cell? ⟨P, 0, none⟩ = some (.pointer (some ⟨p, 0, none⟩))
  f1 : w.cell? ⟨P, 1, none⟩ = some (.slice (some ⟨G, 0, none⟩) n n)
  ar : ArAt w base p B n c th vr
  row : w.ownsRow base 113 2 (.slice (some ⟨G, 0, none⟩) n n) n (mtc pr tk n)
  n1 : P ≠ B
  n2 : P ≠ G
  n3 : G ≠ B
  n4 : G ≠ p
section
variable {w w' : World} {base P p B G n c : Nat} {th th' : Nat → Bool} {vr vr' pr pr' tk tk' : Nat → Int}
theorem MtAt.below (h : MtAt w base P p B G n c th vr pr tk) (hb : Below w.heap.size w w') : MtAt w' base P p B G n c th vr pr tk :=
  ⟨Nat.lt_of_lt_of_le h.pl hb.size, h.pb, (hb.cell (p := ⟨P, 0, none⟩) h.pl).trans h.f0, (hb.cell (p := ⟨P, 1, none⟩) h.pl).trans h.f1, h.ar.below hb, own_below h.row hb, h.n1, h.n2, h.n3, h.n4⟩
theorem MtAt.turn (h : MtAt w base P p B G n c th vr pr tk) (hA : ArAt w' base p B n c th' vr') (hg : w.grownBy w' (some B)) : MtAt w' base P p B G n c th' vr' pr tk :=
  ⟨Nat.lt_of_lt_of_le h.pl hg.size, h.pb, (World.cell?_of_block (a := ⟨P, 0, none⟩) (hg.block P h.pl (fun e => h.n1 (by injection e)))).trans h.f0, (World.cell?_of_block (a := ⟨P, 1, none⟩) (hg.block P h.pl (fun e => h.n1 (by injection e)))).trans h.f1, hA, h.row.kept hg (.inr (fun e => h.n3 (by simpa [Value.ownBlock] using e))), h.n1, h.n2, h.n3, h.n4⟩
theorem MtAt.at0 (h : MtAt w base P p B G n c th vr pr tk) (i : Nat) (hi : i < n) : w.cell? ⟨G, i * 2, none⟩ = some (.int .i64 (pr i)) := by
  rw [h.row.cellAt (i * 2) (by omega), mtc_at0 pr tk n i hi]
theorem MtAt.at1 (h : MtAt w base P p B G n c th vr pr tk) (i : Nat) (hi : i < n) : w.cell? ⟨G, i * 2 + 1, none⟩ = some (.int .i64 (tk i)) := by
  rw [h.row.cellAt (i * 2 + 1) (by omega), mtc_at1 pr tk n i hi]
theorem MtAt.put1 (h : MtAt w base P p B G n c th vr pr tk) (i : Nat) (hi : i < n) (x : Int) : MtAt (w.setCell ⟨G, i * 2 + 1, none⟩ (.int .i64 x)) base P p B G n c th vr pr (upd tk i x) ∧ w.grownBy (w.setCell ⟨G, i * 2 + 1, none⟩ (.int .i64 x)) (some G) := by
  have hs := h.row.stored (i * 2 + 1) (.int .i64 x)
  rw [mtc_set1 pr tk n i hi x] at hs
  exact ⟨⟨Nat.lt_of_lt_of_le h.pl hs.2.size, h.pb, (World.cell?_of_block (a := ⟨P, 0, none⟩) (hs.2.block P h.pl (fun e => h.n2 (by injection e)))).trans h.f0, (World.cell?_of_block (a := ⟨P, 1, none⟩) (hs.2.block P h.pl (fun e => h.n2 (by injection e)))).trans h.f1, h.ar.kept hs.2 (Ne.symm h.n4) (Ne.symm h.n3), hs.1, h.n1, h.n2, h.n3, h.n4⟩, hs.2⟩
theorem MtAt.put0 (h : MtAt w base P p B G n c th vr pr tk) (i : Nat) (hi : i < n) (x : Int) : MtAt (w.setCell ⟨G, i * 2, none⟩ (.int .i64 x)) base P p B G n c th vr (upd pr i x) tk ∧ w.grownBy (w.setCell ⟨G, i * 2, none⟩ (.int .i64 x)) (some G) := by
  have hs := h.row.stored (i * 2) (.int .i64 x)
  rw [mtc_set0 pr tk n i hi x] at hs
  exact ⟨⟨Nat.lt_of_lt_of_le h.pl hs.2.size, h.pb, (World.cell?_of_block (a := ⟨P, 0, none⟩) (hs.2.block P h.pl (fun e => h.n2 (by injection e)))).trans h.f0, (World.cell?_of_block (a := ⟨P, 1, none⟩) (hs.2.block P h.pl (fun e => h.n2 (by injection e)))).trans h.f1, h.ar.kept hs.2 (Ne.symm h.n4) (Ne.symm h.n3), hs.1, h.n1, h.n2, h.n3, h.n4⟩, hs.2⟩
theorem MtAt.congr (h : MtAt w base P p B G n c th vr pr tk) (h1 : ∀ i, i < n → th i = th' i) (h2 : ∀ i, i < n → vr i = vr' i) (h3 : ∀ i, i < n → pr i = pr' i) (h4 : ∀ i, i < n → tk i = tk' i) : MtAt w base P p B G n c th' vr' pr' tk' :=
  ⟨h.pl, h.pb, h.f0, h.f1, h.ar.congr h1 h2, by rw [← mtc_congr n h3 h4]; exact h.row, h.n1, h.n2, h.n3, h.n4⟩
end
set_option maxRecDepth 100000 in
theorem mtnew_ok (x : Int) (n : Nat) (hx : Hid (x = n)) (h1 : 1 ≤ n) (h2 : n ≤ 256) (w : World) :
    Calls Tryz.prog 85 #[.int .i64 x] w fun e w' => ∃ P p B G, e = .returned (.tuple #[.pointer (some ⟨P, 0, none⟩), .nilIface]) ∧ MtAt w' w.heap.size P p B G n n (fun _ => false) (fun _ => 0) (fun _ => 0) (fun _ => 0) ∧ Below w.heap.size w w' := by
  rw [hx.out]
  obtain ⟨i0, hi, hz0, hz1, hz2⟩ := info_parts infoMeter
  have HI := Lib.hid (⟨hi, hz0, hz1, hz2⟩ : Tryz.prog.info? 113 = some i0 ∧ i0.zero = some (.agg #[.int .i64 0, .int .i64 0]) ∧ i0.size = 2 ∧ i0.bytes = 16)
  clear hi hz0 hz1 hz2 hx
  go_enter Tryz.func85, Tryz.ntmps85
  go_wp2_with (first
    | (go_at_call 127; (with_reducible refine (anew_at _ n (Lib.hid rfl) h1 h2 _).mono ?_); rintro e w1 ⟨p, B, rfl, hA, hb⟩; have HA := Lib.hid hA; have HB := Lib.hid hb; clear hA hb)
    | (at_make; refine wpList_make_full _ rfl _ _ 103 rfl w.heap.size 113 i0 (.agg #[.int .i64 0, .int .i64 0]) 2 Tryz.underlying103 HI.out.1 HI.out.2.1 HI.out.2.2.1 .i64 .i64 _ _ n rfl rfl rfl rfl ?b2 ?b3 ?b4 ?_))
  case b2 => rw [HI.out.2.2.2]; omega
  case b3 => unfold maxLen; omega
  case b4 => exact HB.out.size
  intro w2 hown hgrow
  have HO : Hid (w2.ownsRow w.heap.size 113 2 (.slice (some ⟨w1.heap.size, 0, none⟩) n n) n (mtc (fun _ => 0) (fun _ => 0) n)) := Lib.hid (by rw [← mtc_made]; exact hown)
  have HG := Lib.hid (show Below w1.heap.size w1 w2 from (Below.refl _ _).grown hgrow (Nat.le_refl _) (fun k hk => by cases hk))
  clear hown hgrow
  go_wp2_with fail
  go_ret2
  have hp := HA.out.pl
  have hB := HA.out.lt
  have hG := (HO.out.lt w1.heap.size rfl)
  have hs := HG.out.size
  have hs1 := HB.out.size
  have h2' : ∀ o, Below w2.heap.size w2 (w2.alloc o) := fun o => (Below.refl _ _).alloc (Nat.le_refl _) o
  exact ⟨_, rfl, ⟨p, B, w1.heap.size, ⟨by simp, by omega, by simp, by simp, (HA.out.below HG.out).below (h2' _), HO.out.alloc _, by omega, by omega, by omega, by omega⟩⟩, (HB.out.trans (HG.out.mono HB.out.size)).alloc (Nat.le_trans HB.out.size HG.out.size) _⟩
theorem mticks_is {base P p B G n c : Nat} {th : Nat → Bool} {vr pr tk : Nat → Int} (k : Nat) (hk : k < n) (ht : Hid (th k = true)) (x : Int) (hx : Hid (tk k = x)) (w : World) (h : MtAt w base P p B G n c th vr pr tk) :
    Calls Tryz.prog 149 #[.pointer (some ⟨P, 0, none⟩), .int .i64 k] w fun e w' => e = .returned (.int .i64 x) ∧ w = w' := by
  have H := Lib.hid h
  have f0 := h.f0
  have f1 := h.f1
  have c1 := h.at1 k hk
  rw [hx.out] at c1
  have k0 : (0 : Int) ≤ k := by omega
  have k1 : (k : Int) < n := by omega
  clear h
  go_enter Tryz.func149, Tryz.ntmps149
  go_wp2_with (first | (go_at_call 63; (with_reducible refine (athere_in k hk true ht _ H.out.ar).mono ?_); rintro e w1 ⟨rfl, rfl⟩))
  go_ret
  exact ⟨rfl, rfl⟩
theorem chain_none {base P p B G n c : Nat} {th : Nat → Bool} {vr pr tk : Nat → Int} (w : World) (h : MtAt w base P p B G n c th vr pr tk) :
    Calls Tryz.prog 64 #[.pointer (some ⟨P, 0, none⟩), .int .i64 (-1)] w fun e w' => e = .returned (.slice none 0 0) ∧ w = w' := by
  have H := Lib.hid h
  have f0 := h.f0
  clear h
  go_enter Tryz.func64, Tryz.ntmps64
  go_wp2_with fail
  refine wp_loop_rounds 1 ?_
  rw [rounds_succ]
  go_wp2_with (first | (go_at_call 63; (with_reducible refine (athere_out (-1) (by omega) _ H.out.ar).mono ?_); rintro e w1 ⟨rfl, rfl⟩))
  go_ret
  exact ⟨rfl, rfl⟩
/-- j, j - 1, .. : m of them. -/
def dn (j m : Nat) : List Int := (List.range m).map fun q : Nat => (j : Int) - q
theorem dn_len (j m : Nat) : (dn j m).length = m := by simp [dn]
theorem dn_succ (j m : Nat) : dn j (m + 1) = dn j m ++ [(j : Int) - m] := by simp [dn, List.range_succ]
theorem dn_at (j m q : Nat) (hq : q < m) : (dn j m)[q]? = some ((j : Int) - q) := by simp [dn, hq]
set_option maxRecDepth 100000 in
set_option maxHeartbeats 1000000 in
theorem chain_is {base P p B G n c : Nat} {th : Nat → Bool} {vr pr tk : Nat → Int} (j : Nat) (hj : j < n) (hth : Hid (∀ i, i ≤ j → th i = true)) (hpr : Hid (∀ i, i ≤ j → pr i = (i : Int) - 1)) (w : World) (h : MtAt w base P p B G n c th vr pr tk) :
    Calls Tryz.prog 64 #[.pointer (some ⟨P, 0, none⟩), .int .i64 j] w fun e w' => ∃ v, e = .returned v ∧ w'.ownsRow w.heap.size 3 1 v (j + 1) ((dn j (j + 1)).map (Value.int .i64)) ∧ Below w.heap.size w w' := by
  have H := Lib.hid h
  have hn := h.ar.le
  obtain ⟨i0, hi, hz0, hz1, hz2⟩ := info_parts infoIntM
  have HI := Lib.hid (⟨hi, hz0, hz1, hz2⟩ : Tryz.prog.info? 3 = some i0 ∧ i0.zero = some (.int .i64 0) ∧ i0.size = 1 ∧ i0.bytes = 8)
  clear h hi hz0 hz1 hz2
  go_enter Tryz.func64, Tryz.ntmps64
  go_wp2_with fail
  go_loopw [1, 5] (fun x v wr => ∃ m : Nat, m ≤ j + 1 ∧ x = .int .i64 ((j : Int) - m) ∧ wr.ownsRow w.heap.size 3 1 v m ((dn j m).map (Value.int .i64)) ∧ Below w.heap.size w wr) (fun x _ _ => (intOf x + 1).toNat)
  case atStart => exact ⟨0, by omega, by simp, World.ownsRow_nil _ _ _ _, Below.refl _ _⟩
  case round =>
    obtain ⟨m, hm, rfl, hown, hbel⟩ := hrel
    have HW := Lib.hid hown
    have HL := Lib.hid hbel
    have HM := Lib.hid (H.out.below hbel)
    have f0 := HM.out.f0
    have f1 := HM.out.f1
    clear hown hbel
    by_cases hlt : m ≤ j
    · obtain ⟨q, hq⟩ : ∃ q : Nat, (j : Int) - m = q := ⟨j - m, by omega⟩
      have hqj : q ≤ j := by omega
      have c0 := HM.out.at0 q (by omega)
      rw [hpr.out q hqj] at c0
      have HT := Lib.hid (hth.out q hqj)
      have k0 : (0 : Int) ≤ q := by omega
      have k1 : (q : Int) < n := by omega
      go_wp2_with (first
        | (go_at_call 63; (with_reducible refine (athere_in q (by omega) true HT _ HM.out.ar).mono ?_); rintro e w1 ⟨rfl, rfl⟩)
        | (at_builtin; refine wpList_append_own _ rfl _ _ 57 rfl w.heap.size 3 i0 (.int .i64 0) 1 8 Tryz.underlying57 HI.out.1 HI.out.2.1 HI.out.2.2.1 HI.out.2.2.2 rfl (by decide) _ _ _ rfl (HW.out.alloc _) ⟨wr.heap.size, 0, none⟩ 1 1 [.int .i64 q] rfl rfl (cell_one_new _ _ _) (ints_oneCell .i64 [(q : Int)]) (by unfold maxLen; omega) (by omega) (by have := HL.out.size; simp; omega) ?_; intro v' w2 hown' hgrow' _; have HB2 : Hid (Below w.heap.size w w2) := Lib.hid ((HL.out.alloc HL.out.size _).grown hgrow' (by have := HL.out.size; simp; omega) (fun g hg => (HW.out.lt g hg).1)); have HO2 : Hid (w2.ownsRow w.heap.size 3 1 v' (m + 1) ((dn j (m + 1)).map (Value.int .i64))) := Lib.hid (by rw [dn_succ, List.map_append, hq]; exact hown'); have HM2 := Lib.hid (H.out.below HB2.out); have f0' := HM2.out.f0; have f1' := HM2.out.f1; have c0' := HM2.out.at0 q (by omega); rw [hpr.out q hqj] at c0'; clear hown' hgrow' f0 f1 c0))
      go_roundw
      case rel => exact ⟨m + 1, by omega, by rw [← hq]; congr 1; simp; omega, HO2.out, HB2.out⟩
      case measure => simp [intOf]; omega
    · obtain rfl : m = j + 1 := by omega
      go_wp2_with (first
        | (go_at_call 63; (with_reducible refine (athere_out _ (by omega) _ HM.out.ar).mono ?_); rintro e w1 ⟨rfl, rfl⟩))
      go_ret
      exact ⟨_, rfl, HW.out, HL.out⟩
end Go.Proofs.YtncopdhhchmpeaaGreatDoor
