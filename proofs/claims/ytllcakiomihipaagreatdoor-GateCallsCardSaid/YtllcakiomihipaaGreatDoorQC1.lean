/-
  Open, ArMath, Ar, Laid, Errs, See, Ar2, Ar3, Ar4, ArN, ArV, ArL, ArLw, Sen, Pg, Pg2, Mt, Pl, Structs, Nd, Keyval, Key, KeyPage, KeyValid, KeyShape, KeyWays, KeyAny, Nd2, Nd3, NdF, NdB, Nd4, NdK, Mk, Ds, ChF, Sx, Bk, Bk2, Bk3, PgF, Pg3, PgA, Ar5, ArP, Pg4, St, RightFns, StR, StG, Pa2, St2, Pa3: what GateCalls reaches of them.
-/
import Derived.Test.YtllcakiomihipaaGreatDoorRows
import Derived.WalkKit
import Derived.ProofKit
import Derived.OpenShut
import Derived.Deep.Slices
import Derived.Deep.Fields
import Derived.ChangeSame
import Derived.Lib.SmallJoins
import Derived.Lib.LaidTab
import Derived.Lib.Hide
import Derived.Stop.LaidErr
import Derived.LaidMore
import Derived.Laws.OwnMore
import Derived.Outline
import Derived.Deep.RegionWith
import Derived.Deep.RegionHeld3
import Derived.Deep.QuietTactic
import Derived.BigQuiet
import Derived.WalkLawsBesides
import Derived.WalkSpells
import Derived.LaidEql
import Derived.Below
import Derived.Deep.DrawnRows
import Derived.OwnWalk
import Derived.Deep.DeepCutAuto
import Derived.Deep.Cut
import Derived.Lib.SliceRun
import Derived.Laws.IdiomCopy
import Derived.OneCell
import Derived.Maps.AppendAt
import Derived.Deep.MidRow
import Derived.Laws.CopyOwn
import Derived.Laws.BitsAllLaws
import Derived.WalkSmall
import Derived.StillTailTactics
import Derived.Maps.OwnSet
import Derived.ArgAppend
import Derived.Test.YtllcakiomihipaaGreatDoorShelf
import Derived.Deep.Upon
namespace Go.Proofs.YtllcakiomihipaaGreatDoor
open Go.Joins Go.ChangeShapes Go.WideShapes Go.ChangeAt Go.RowKit Go.Deep
set_option linter.unusedVariables false

/-- A slice of integers that came in: nil, or 'cap' cells, the first 'len' its elements. -/
def IsRow (k : IntKind) (w : World) (a : Option Addr) (len cap : Nat) (zs : List Int) : Prop :=
  (a = none ∧ len = 0 ∧ cap = 0 ∧ zs = []) ∨
  ∃ x, a = some x ∧ len ≤ cap ∧ cap ≤ maxLen ∧ zs.length = cap ∧ (∀ i, i < zs.length → w.cell? (x.add i) = some (.int k (zs.getD i 0))) ∧ ∀ n ∈ zs, (Lit.int k n).wf = true

section
variable {H : Type} {enc : TypeId × Value → H} {P : Program} {w : World} {base : Nat} {spare : Nat → Bool} {held : Bool}
end

end Go.Proofs.YtllcakiomihipaaGreatDoor
namespace Go.Proofs.YtllcakiomihipaaGreatDoor
open Go.ChangeShapes Go.WideShapes Go.ChangeAt Go.RowKit
set_option linter.unusedVariables false
/-- The cells of n places. -/
def plc (th : Nat → Bool) (vr : Nat → Int) : Nat → List Value
  | 0 => []
  | n + 1 => plc th vr n ++ [.bool (th n), .int .i64 (vr n)]
theorem plc_len (th : Nat → Bool) (vr : Nat → Int) (n : Nat) : (plc th vr n).length = n * 2 := by
  induction n with
  | zero => rfl
  | succ n ih => simp [plc, ih]; omega
theorem plc_at0 (th : Nat → Bool) (vr : Nat → Int) (n i : Nat) (hi : i < n) : (plc th vr n)[i * 2]? = some (.bool (th i)) := by
  induction n with
  | zero => omega
  | succ n ih =>
    unfold plc
    by_cases h : i = n
    · subst h
      rw [List.getElem?_append_right (by rw [plc_len]; omega), plc_len]
      simp
    · rw [List.getElem?_append_left (by rw [plc_len]; omega)]
      exact ih (by omega)
theorem plc_at1 (th : Nat → Bool) (vr : Nat → Int) (n i : Nat) (hi : i < n) : (plc th vr n)[i * 2 + 1]? = some (.int .i64 (vr i)) := by
  induction n with
  | zero => omega
  | succ n ih =>
    unfold plc
    by_cases h : i = n
    · subst h
      rw [List.getElem?_append_right (by rw [plc_len]; omega), plc_len]
      simp
    · rw [List.getElem?_append_left (by rw [plc_len]; omega)]
      exact ih (by omega)
/-- One value of a function, another. -/
def upd {α : Type} (f : Nat → α) (i : Nat) (x : α) : Nat → α := fun j => if j = i then x else f j
theorem upd_at {α : Type} (f : Nat → α) (i : Nat) (x : α) : upd f i x i = x := by simp [upd]
theorem upd_other {α : Type} (f : Nat → α) (i j : Nat) (x : α) (h : j ≠ i) : upd f i x j = f j := by simp [upd, h]
theorem plc_congr {th th' : Nat → Bool} {vr vr' : Nat → Int} (n : Nat) (h1 : ∀ i, i < n → th i = th' i) (h2 : ∀ i, i < n → vr i = vr' i) : plc th vr n = plc th' vr' n := by
  induction n with
  | zero => rfl
  | succ n ih =>
    unfold plc
    rw [ih (fun i hi => h1 i (by omega)) (fun i hi => h2 i (by omega)), h1 n (by omega), h2 n (by omega)]
theorem plc_set0 (th : Nat → Bool) (vr : Nat → Int) (n i : Nat) (hi : i < n) (b : Bool) : (plc th vr n).set (i * 2) (.bool b) = plc (upd th i b) vr n := by
  induction n with
  | zero => omega
  | succ n ih =>
    unfold plc
    by_cases h : i = n
    · subst h
      rw [List.set_append_right _ _ (by rw [plc_len]; omega), plc_len, upd_at]
      rw [plc_congr (th := upd th i b) (th' := th) (vr' := vr) i (fun j hj => upd_other _ _ _ _ (by omega)) (fun _ _ => rfl)]
      simp
    · rw [List.set_append_left _ _ (by rw [plc_len]; omega), ih (by omega), upd_other _ _ _ _ (by omega)]
/-- How many of n places a test holds of. -/
def cntB (P : Nat → Bool) : Nat → Nat
  | 0 => 0
  | n + 1 => cntB P n + (if P n = true then 1 else 0)
/-- May a place be taken? -/
def freeB (th : Nat → Bool) (vr : Nat → Int) (i : Nat) : Bool := !th i && decide (vr i ≤ 1048575)
/-- The first place at which a test holds, if any. -/
theorem first_at (P : Nat → Bool) : ∀ n, (∀ i, i < n → P i = false) ∨ ∃ j, j < n ∧ P j = true ∧ ∀ i, i < j → P i = false
  | 0 => .inl fun i hi => absurd hi (by omega)
  | n + 1 => by
    rcases first_at P n with h | ⟨j, hj, h1, h2⟩
    · cases hn : P n
      · refine .inl fun i hi => ?_
        by_cases e : i = n
        · rw [e]; exact hn
        · exact h i (by omega)
      · exact .inr ⟨n, by omega, hn, h⟩
    · exact .inr ⟨j, by omega, h1, h2⟩
/-- Places just made: nobody there, version 0. -/
theorem plc_made (n : Nat) : (madeCells #[Value.bool false, Value.int .i64 0] (n * 2)).toList = plc (fun _ => false) (fun _ => 0) n := by
  apply List.ext_getElem?
  intro j
  by_cases hj : j < n * 2
  · have e : (madeCells #[Value.bool false, Value.int .i64 0] (n * 2)).toList[j]? = some ((#[Value.bool false, Value.int .i64 0] : Array Value)[j % 2]!) := by
      simp [madeCells, hj]
    rw [e]
    obtain ⟨i, hi⟩ : ∃ i, j = i * 2 ∨ j = i * 2 + 1 := ⟨j / 2, by omega⟩
    rcases hi with rfl | rfl
    · rw [plc_at0 _ _ n i (by omega), show i * 2 % 2 = 0 by omega]
      rfl
    · rw [plc_at1 _ _ n i (by omega), show (i * 2 + 1) % 2 = 1 by omega]
      rfl
  · rw [List.getElem?_eq_none (by simp [size_madeCells]; omega), List.getElem?_eq_none (by rw [plc_len]; omega)]
end Go.Proofs.YtllcakiomihipaaGreatDoor
namespace Go.Proofs.YtllcakiomihipaaGreatDoor
open Go.ChangeShapes Go.WideShapes Go.ChangeAt Go.RowKit
set_option linter.unusedVariables false
theorem own_below {w w' : World} {B E s n : Nat} {v : Value} {xs : List Value} (h : w.ownsRow B E s v n xs) (hb : Below w.heap.size w w') : w'.ownsRow B E s v n xs := by
  refine ⟨h.1, ?_⟩
  rcases h.2 with hn | ⟨g, cap, cur, rfl, hB, hg, rest⟩
  · exact .inl hn
  · refine .inr ⟨g, cap, cur, rfl, hB, ?_, rest⟩
    rw [hb.block g ?_]
    · exact hg
    · rcases Nat.lt_or_ge g w.heap.size with h' | h'
      · exact h'
      · simp [Array.getElem?_eq_none h'] at hg
/-- An arena lies at block p, its n places at block B: whether somebody is there, and the versions. -/
structure ArAt (w : World) (base p B n c : Nat) (th : Nat → Bool) (vr : Nat → Int) : Prop where
  pl : p < w.heap.size
  pb : base ≤ p
  fld : w.cell? ⟨p, 0, none⟩ = some (.slice (some ⟨B, 0, none⟩) n c)
  own : w.ownsRow base 134 2 (.slice (some ⟨B, 0, none⟩) n c) n (plc th vr n)
  ne : p ≠ B
  le : n ≤ 256
section
variable {w w' : World} {base p B n c : Nat} {th : Nat → Bool} {vr : Nat → Int}
theorem ArAt.below (h : ArAt w base p B n c th vr) (hb : Below w.heap.size w w') : ArAt w' base p B n c th vr :=
  ⟨Nat.lt_of_lt_of_le h.pl hb.size, h.pb, (hb.cell (p := ⟨p, 0, none⟩) h.pl).trans h.fld, own_below h.own hb, h.ne, h.le⟩
theorem ArAt.at0 (h : ArAt w base p B n c th vr) (i : Nat) (hi : i < n) : w.cell? ⟨B, i * 2, none⟩ = some (.bool (th i)) := by
  rw [h.own.cellAt (i * 2) (by omega), plc_at0 th vr n i hi]
theorem ArAt.at1 (h : ArAt w base p B n c th vr) (i : Nat) (hi : i < n) : w.cell? ⟨B, i * 2 + 1, none⟩ = some (.int .i64 (vr i)) := by
  rw [h.own.cellAt (i * 2 + 1) (by omega), plc_at1 th vr n i hi]
theorem ArAt.lt (h : ArAt w base p B n c th vr) : base ≤ B ∧ B < w.heap.size := h.own.lt B rfl
end
theorem ahas_is {base p B n c : Nat} {th : Nat → Bool} {vr : Nat → Int} (id : Int) (t : Bool) (ht : Hid (decide (0 ≤ id ∧ id < n) = t)) (w : World) (hA : ArAt w base p B n c th vr) : Calls Tryz.prog 57 #[.pointer (some ⟨p, 0, none⟩), .int .i64 id] w fun e w' => e = .returned (.bool t) ∧ w = w' := by
  have hf := hA.fld
  have ht := ht.out
  clear hA
  cases t
  · rw [decide_eq_false_iff_not] at ht
    by_cases h0 : 0 ≤ id
    · have d0 : decide (0 ≤ id) = true := decide_eq_true h0
      have d1 : decide (id < (n : Int)) = false := by rw [decide_eq_false_iff_not]; omega
      clear ht h0
      go_enter Tryz.func57, Tryz.ntmps57
      go_wp2
      go_ret
      exact ⟨rfl, rfl⟩
    · have d0 : decide (0 ≤ id) = false := decide_eq_false h0
      clear ht h0
      go_enter Tryz.func57, Tryz.ntmps57
      go_wp2
      go_ret
      exact ⟨rfl, rfl⟩
  · rw [decide_eq_true_iff] at ht
    have d0 : decide (0 ≤ id) = true := decide_eq_true ht.1
    have d1 : decide (id < (n : Int)) = true := decide_eq_true ht.2
    clear ht
    go_enter Tryz.func57, Tryz.ntmps57
    go_wp2
    go_ret
    exact ⟨rfl, rfl⟩
/-- Is somebody there? -/
def thereB (n : Nat) (th : Nat → Bool) (id : Int) : Bool := decide (0 ≤ id ∧ id < n) && th id.toNat
theorem athere_in {base p B n c : Nat} {th : Nat → Bool} {vr : Nat → Int} (k : Nat) (hk : k < n) (t : Bool) (ht : Hid (th k = t)) (w : World) (hA : ArAt w base p B n c th vr) : Calls Tryz.prog 29 #[.pointer (some ⟨p, 0, none⟩), .int .i64 k] w fun e w' => e = .returned (.bool t) ∧ w = w' := by
  have hf := hA.fld
  have h0 := hA.at0 k hk
  rw [ht.out] at h0
  have HA := Lib.hid hA
  have hn := hA.le
  have HK : Hid (decide (0 ≤ (k : Int) ∧ (k : Int) < n) = true) := Lib.hid (decide_eq_true (by omega))
  have k0 : (0 : Int) ≤ k := by omega
  have k1 : (k : Int) < n := by omega
  clear hA ht
  go_enter Tryz.func29, Tryz.ntmps29
  go_wp2_with (first | (go_at_call 57; (with_reducible refine (ahas_is _ true HK _ HA.out).mono ?_); rintro e w1 ⟨rfl, rfl⟩))
  go_ret
  exact ⟨rfl, rfl⟩
theorem athere_out {base p B n c : Nat} {th : Nat → Bool} {vr : Nat → Int} (id : Int) (hid : ¬ (0 ≤ id ∧ id < n)) (w : World) (hA : ArAt w base p B n c th vr) : Calls Tryz.prog 29 #[.pointer (some ⟨p, 0, none⟩), .int .i64 id] w fun e w' => e = .returned (.bool false) ∧ w = w' := by
  have HA := Lib.hid hA
  have HK : Hid (decide (0 ≤ id ∧ id < n) = false) := Lib.hid (decide_eq_false hid)
  clear hA hid
  go_enter Tryz.func29, Tryz.ntmps29
  go_wp2_with (first | (go_at_call 57; (with_reducible refine (ahas_is _ false HK _ HA.out).mono ?_); rintro e w1 ⟨rfl, rfl⟩))
  go_ret
  exact ⟨rfl, rfl⟩
theorem athere_is {base p B n c : Nat} {th : Nat → Bool} {vr : Nat → Int} (id : Int) (t : Bool) (ht : Hid (thereB n th id = t)) (w : World) (hA : ArAt w base p B n c th vr) : Calls Tryz.prog 29 #[.pointer (some ⟨p, 0, none⟩), .int .i64 id] w fun e w' => e = .returned (.bool t) ∧ w = w' := by
  have ht := ht.out
  unfold thereB at ht
  by_cases h : 0 ≤ id ∧ id < n
  · obtain ⟨k, rfl⟩ : ∃ k : Nat, id = k := ⟨id.toNat, by omega⟩
    rw [decide_eq_true h, Bool.true_and, Int.toNat_natCast] at ht
    exact athere_in k (by omega) t (Lib.hid ht) w hA
  · rw [decide_eq_false h, Bool.false_and] at ht
    subst ht
    exact athere_out id h w hA
theorem alive_is {base p B n c : Nat} {th : Nat → Bool} {vr : Nat → Int} (id v : Int) (t : Bool) (ht : Hid ((thereB n th id && (vr id.toNat == v)) = t)) (w : World) (hA : ArAt w base p B n c th vr) : Calls Tryz.prog 44 #[.pointer (some ⟨p, 0, none⟩), .int .i64 id, .int .i64 v] w fun e w' => e = .returned (.bool t) ∧ w = w' := by
  have HA := Lib.hid hA
  have ht := ht.out
  cases hb : thereB n th id
  · rw [hb, Bool.false_and] at ht
    subst ht
    have HB := Lib.hid hb
    clear hb hA
    go_enter Tryz.func44, Tryz.ntmps44
    go_wp2_with (first | (go_at_call 29; (with_reducible refine (athere_is _ false HB _ HA.out).mono ?_); rintro e w1 ⟨rfl, rfl⟩))
    go_ret
    exact ⟨rfl, rfl⟩
  · rw [hb, Bool.true_and] at ht
    have hr : 0 ≤ id ∧ id < n := by
      unfold thereB at hb
      simp only [Bool.and_eq_true, decide_eq_true_eq] at hb
      exact hb.1
    obtain ⟨k, rfl⟩ : ∃ k : Nat, id = k := ⟨id.toNat, by omega⟩
    rw [Int.toNat_natCast] at ht
    have hf := hA.fld
    have h1 := hA.at1 k (by omega)
    have k0 : (0 : Int) ≤ k := by omega
    have k1 : (k : Int) < n := by omega
    have HB := Lib.hid hb
    generalize vr k = x at ht h1
    clear hb hA hr
    go_enter Tryz.func44, Tryz.ntmps44
    go_wp2_with (first | (go_at_call 29; (with_reducible refine (athere_is _ true HB _ HA.out).mono ?_); rintro e w1 ⟨rfl, rfl⟩))
    go_ret
    exact ⟨by rw [← ht]; rfl, rfl⟩
theorem aver_in {base p B n c : Nat} {th : Nat → Bool} {vr : Nat → Int} (k : Nat) (hk : k < n) (v : Int) (hv : Hid (vr k = v)) (w : World) (hA : ArAt w base p B n c th vr) : Calls Tryz.prog 68 #[.pointer (some ⟨p, 0, none⟩), .int .i64 k] w fun e w' => e = .returned (.int .i64 v) ∧ w = w' := by
  have hf := hA.fld
  have h1 := hA.at1 k hk
  rw [hv.out] at h1
  have HA := Lib.hid hA
  have HK : Hid (decide (0 ≤ (k : Int) ∧ (k : Int) < n) = true) := Lib.hid (decide_eq_true (by omega))
  have k0 : (0 : Int) ≤ k := by omega
  have k1 : (k : Int) < n := by omega
  clear hA hv
  go_enter Tryz.func68, Tryz.ntmps68
  go_wp2_with (first | (go_at_call 57; (with_reducible refine (ahas_is _ true HK _ HA.out).mono ?_); rintro e w1 ⟨rfl, rfl⟩))
  go_ret
  exact ⟨rfl, rfl⟩
theorem afree_is (t : Bool) (v : Int) (r : Bool) (hr : Hid ((!t && decide (v ≤ 1048575)) = r)) (w : World) : Calls Tryz.prog 113 #[.agg #[.bool t, .int .i64 v]] w fun e w' => e = .returned (.bool r) ∧ Below w.heap.size w w' := by
  have hr := hr.out
  cases t
  · cases r
    · have d : decide (v ≤ 1048575) = false := by simpa using hr
      clear hr
      go_enter Tryz.func113, Tryz.ntmps113
      go_wp2
      go_ret
      exact ⟨rfl, (Below.refl _ _).alloc (Nat.le_refl _) _⟩
    · have d : decide (v ≤ 1048575) = true := by simpa using hr
      clear hr
      go_enter Tryz.func113, Tryz.ntmps113
      go_wp2
      go_ret
      exact ⟨rfl, (Below.refl _ _).alloc (Nat.le_refl _) _⟩
  · obtain rfl : r = false := by simpa using hr.symm
    clear hr
    go_enter Tryz.func113, Tryz.ntmps113
    go_wp2
    go_ret
    exact ⟨rfl, (Below.refl _ _).alloc (Nat.le_refl _) _⟩
end Go.Proofs.YtllcakiomihipaaGreatDoor
namespace Go.Proofs.YtllcakiomihipaaGreatDoor
open Go.ChangeShapes Go.WideShapes Go.ChangeAt Go.RowKit
set_option linter.unusedVariables false

section
variable {P : Program} {W : World}
theorem laid_one : ∀ {l : List (String × DataW Unit)} {ps : List MemPlace} {x : String × DataW Unit}, DataW.LaidVars P W l ps → x ∈ l → ∃ q, DataW.LaidVars P W [x] q ∧ q.Sublist ps := by
  intro l
  induction l with
  | nil => intro ps x _ hx; cases hx
  | cons y r ih =>
    intro ps x h hx
    obtain ⟨n, d⟩ := y
    obtain ⟨g, t, cs, fuel, p, q, hg, ht, hv, hd, hq, rfl⟩ := h
    rcases List.mem_cons.1 hx with rfl | hx
    · exact ⟨_, ⟨g, t, cs, fuel, p, [], hg, ht, hv, hd, rfl, rfl⟩, by rw [List.append_nil]; exact List.sublist_append_left _ _⟩
    · obtain ⟨q', hq', hs⟩ := ih hq hx
      exact ⟨q', hq', hs.trans (List.sublist_append_right _ _)⟩
theorem laid_pair : ∀ {l : List (String × DataW Unit)} {ps : List MemPlace} {x y : String × DataW Unit}, DataW.LaidVars P W l ps → x ∈ l → y ∈ l → x ≠ y →
    ∃ q q', DataW.LaidVars P W [x] q ∧ DataW.LaidVars P W [y] q' ∧ ((q ++ q').Sublist ps ∨ (q' ++ q).Sublist ps) := by
  intro l
  induction l with
  | nil => intro ps x y _ hx; cases hx
  | cons z r ih =>
    intro ps x y h hx hy hne
    obtain ⟨n, d⟩ := z
    obtain ⟨g, t, cs, fuel, p, q, hg, ht, hv, hd, hq, rfl⟩ := h
    rcases List.mem_cons.1 hx with rfl | hx
    · rcases List.mem_cons.1 hy with rfl | hy
      · exact absurd rfl hne
      · obtain ⟨q', hq', hs⟩ := laid_one hq hy
        refine ⟨_, q', ⟨g, t, cs, fuel, p, [], hg, ht, hv, hd, rfl, rfl⟩, hq', .inl ?_⟩
        rw [List.append_nil]
        exact List.Sublist.append (List.Sublist.refl _) hs
    · rcases List.mem_cons.1 hy with rfl | hy
      · obtain ⟨q', hq', hs⟩ := laid_one hq hx
        refine ⟨q', _, hq', ⟨g, t, cs, fuel, p, [], hg, ht, hv, hd, rfl, rfl⟩, .inr ?_⟩
        rw [List.append_nil]
        exact List.Sublist.append (List.Sublist.refl _) hs
      · obtain ⟨q1, q2, h1, h2, hs⟩ := ih hq hx hy hne
        exact ⟨q1, q2, h1, h2, hs.imp (fun k => k.trans (List.sublist_append_right _ _)) (fun k => k.trans (List.sublist_append_right _ _))⟩
/-- The address that a variable's cell holds, if it holds an error that is a pointer. -/
def atErr (W : World) (g : Nat) : Addr := match W.cell? ⟨g, 0, none⟩ with
  | some (.iface _ (.pointer (some a))) => a
  | _ => ⟨0, 0, none⟩

theorem laid_err {n nm : String} {text : List UInt8} {ps : List MemPlace} {g : Nat} {ti tp te ts : TypeId} {ms : Array (String × TypeId)} {f : Field}
    (h : DataW.LaidVars P W [(n, .iface nm (.ptr (.agg [.lit (.string text)])))] ps)
    (hrows : ∀ b off, MemPlace.cell b off ∈ ps → (∃ c t, W.heap[b]? = some (.cells c t (0, 0))) ∧ ∀ u v, W.cell? ⟨b, off, none⟩ = some (.iface u v) → Value.okWide P W .any 0 u v)
    (hg : P.globalNamed n = some g) (ht : (P.globals[g]?).map (·.type) = some ti) (hi : P.underlying ti = some (.interface ms)) (hrow : ∀ u, P.typeName? 3 u = some nm → u = tp)
    (hp : P.underlying tp = some (.pointer te)) (he : P.underlying te = some (.struct #[f])) (hft : f.type = ts) (hfo : f.offset = 0) (hs : P.underlying ts = some .string) (hc : P.cellsOf te = 1) (hcs : P.cellsOf ts = 1) :
    W.cell? ⟨g, 0, none⟩ = some (.iface tp (.pointer (some (atErr W g)))) ∧ g < W.heap.size ∧ (∃ c t, W.heap[(atErr W g).block]? = some (.cells c t (0, 0))) ∧ MemPlace.row (atErr W g) 1 ⊆ ps := by
  obtain ⟨g0, t0, cs0, f0, p0, q0, hg0, ht0, hv0, hd0, hq0, e0⟩ := h
  obtain rfl := Option.some.inj (hg.symm.trans hg0)
  obtain rfl := Option.some.inj (ht.symm.trans ht0)
  have hq0' : q0 = [] := hq0
  subst hq0'
  subst e0
  obtain ⟨l0⟩ := cs0
  have ok0 : ∀ u v, l0 = [.iface u v] → Value.okWide P W .any 0 u v := fun u v e => by
    subst e
    exact (hrows g 0 (by simp [MemPlace.row])).2 u v (by simpa using World.var?_cell hg0 hv0 0)
  obtain ⟨a0, s0, rfl, hc0, hs0, hz0, rfl⟩ := errorString_of_trod hi hrow hp he hft hfo hs hc hcs hd0 ok0
  have hcell : W.cell? ⟨g, 0, none⟩ = some (.iface tp (.pointer (some a0))) := by simpa using World.var?_cell hg0 hv0 0
  have ha : atErr W g = a0 := by simp [atErr, hcell]
  rw [ha]
  refine ⟨hcell, ?_, (hrows a0.block a0.off (by simp [MemPlace.row])).1, by intro z hz; simp; exact Or.inr hz⟩
  rcases Nat.lt_or_ge g W.heap.size with h' | h'
  · exact h'
  · simp [World.cell?, Array.getElem?_eq_none h'] at hcell

/-- The sentinels whose variables are gs lie there: unlike pointers, each to a block without a mark. -/
def Errs (tp : TypeId) (gs : List Nat) (A : Nat → Addr) (w : World) : Prop :=
  (∀ g ∈ gs, w.cell? ⟨g, 0, none⟩ = some (.iface tp (.pointer (some (A g)))) ∧ g < w.heap.size ∧ ∃ c t, w.heap[(A g).block]? = some (.cells c t (0, 0))) ∧ ∀ g ∈ gs, ∀ h ∈ gs, g ≠ h → A g ≠ A h

theorem errs_of_laid {l : List (String × DataW Unit)} {gs : List Nat} {nm : String} {ti tp te ts : TypeId} {ms : Array (String × TypeId)} {f : Field} (h : laidMet P l W)
    (hgs : ∀ g ∈ gs, ∃ n text, (n, DataW.iface nm (.ptr (.agg [.lit (.string text)]))) ∈ l ∧ P.globalNamed n = some g ∧ (P.globals[g]?).map (·.type) = some ti)
    (hi : P.underlying ti = some (.interface ms)) (hrow : ∀ u, P.typeName? 3 u = some nm → u = tp)
    (hp : P.underlying tp = some (.pointer te)) (he : P.underlying te = some (.struct #[f])) (hft : f.type = ts) (hfo : f.offset = 0) (hs : P.underlying ts = some .string) (hc : P.cellsOf te = 1) (hcs : P.cellsOf ts = 1) :
    Errs tp gs (atErr W) W := by
  obtain ⟨ps, hv, hn, hr⟩ := h
  refine ⟨fun g hg => ?_, fun g hg k hk hne => ?_⟩
  · obtain ⟨n, text, hm, e1, e2⟩ := hgs g hg
    obtain ⟨q, hq, hsub⟩ := laid_one hv hm
    obtain ⟨h1, h2, h3, _⟩ := laid_err hq (fun b off hm => hr b off (hsub.subset hm)) e1 e2 hi hrow hp he hft hfo hs hc hcs
    exact ⟨h1, h2, h3⟩
  · obtain ⟨n, text, hm, e1, e2⟩ := hgs g hg
    obtain ⟨n', text', hm', e1', e2'⟩ := hgs k hk
    have hxy : ((n, DataW.iface nm (.ptr (.agg [.lit (.string text)]))) : String × DataW Unit) ≠ (n', DataW.iface nm (.ptr (.agg [.lit (.string text')]))) := by
      intro e
      have en : n = n' := congrArg Prod.fst e
      subst en
      rw [e1] at e1'
      exact hne (Option.some.inj e1')
    obtain ⟨q, q', hq, hq', hor⟩ := laid_pair hv hm hm' hxy
    have hd : ∀ z, z ∈ q → z ∈ q' → False := by
      intro z hz hz'
      rcases hor with ho | ho
      · exact (List.nodup_append.1 (hn.sublist ho)).2.2 z hz z hz' rfl
      · exact (List.nodup_append.1 (hn.sublist ho)).2.2 z hz' z hz rfl
    have hsub : q ⊆ ps := by rcases hor with ho | ho <;> intro z hz <;> exact ho.subset (by simp [hz])
    have hsub' : q' ⊆ ps := by rcases hor with ho | ho <;> intro z hz <;> exact ho.subset (by simp [hz])
    obtain ⟨_, _, _, h4⟩ := laid_err hq (fun b off hm => hr b off (hsub hm)) e1 e2 hi hrow hp he hft hfo hs hc hcs
    obtain ⟨_, _, _, h4'⟩ := laid_err hq' (fun b off hm => hr b off (hsub' hm)) e1' e2' hi hrow hp he hft hfo hs hc hcs
    intro e
    rw [← e] at h4'
    exact hd (MemPlace.cell (atErr W g).block (atErr W g).off) (h4 (by simp [MemPlace.row])) (h4' (by simp [MemPlace.row]))

theorem Errs.below {tp : TypeId} {gs : List Nat} {A : Nat → Addr} {w w' : World} (h : Errs tp gs A w) (hb : Below w.heap.size w w') : Errs tp gs A w' := by
  refine ⟨fun g hg => ?_, h.2⟩
  obtain ⟨h1, h2, c, t, h3⟩ := h.1 g hg
  refine ⟨(hb.cell (p := ⟨g, 0, none⟩) h2).trans h1, Nat.lt_of_lt_of_le h2 hb.size, c, t, ?_⟩
  rw [hb.block _ ?_]
  · exact h3
  · rcases Nat.lt_or_ge (A g).block w.heap.size with h' | h'
    · exact h'
    · simp [Array.getElem?_eq_none h'] at h3
/-- Only the error's variables matter, and the blocks that they lead to: whatever keeps those keeps this. -/
theorem Errs.kept {tp : TypeId} {gs : List Nat} {A : Nat → Addr} {w w' : World} (h : Errs tp gs A w) (hz : w.heap.size ≤ w'.heap.size) (hk : ∀ g ∈ gs, w'.cell? ⟨g, 0, none⟩ = w.cell? ⟨g, 0, none⟩ ∧ w'.heap[(A g).block]? = w.heap[(A g).block]?) : Errs tp gs A w' := by
  refine ⟨fun g hg => ?_, h.2⟩
  obtain ⟨h1, h2, c, t, h3⟩ := h.1 g hg
  exact ⟨(hk g hg).1.trans h1, Nat.lt_of_lt_of_le h2 hz, c, t, (hk g hg).2.trans h3⟩
end
end Go.Proofs.YtllcakiomihipaaGreatDoor
namespace Go.Proofs.YtllcakiomihipaaGreatDoor
open Go.ChangeShapes Go.WideShapes Go.ChangeAt Go.RowKit
set_option linter.unusedVariables false
theorem errStar : "*" ++ "errors.errorString" = "*errors.errorString" := by decide
theorem errRow (u : TypeId) (h : Tryz.prog.typeName? 3 u = some "*errors.errorString") : u = 307 :=
  typeName_ptr_named (nm := "errors.errorString") (by rw [errStar]; kernel_rfl) (by kernel_rfl) (by decide) u (by rw [errStar]; exact h)
theorem errCells : Tryz.prog.cellsOf 332 = 1 := by kernel_rfl
theorem strCells : Tryz.prog.cellsOf 9 = 1 := by kernel_rfl
theorem gErrShape : Tryz.prog.globalNamed "turnkey/api.ErrShape" = some 3 := by kernel_rfl
theorem tErrShape : (Tryz.prog.globals[3]?).map (·.type) = some 47 := by kernel_rfl
theorem gErrRange : Tryz.prog.globalNamed "turnkey/api.ErrRange" = some 1 := by kernel_rfl
theorem tErrRange : (Tryz.prog.globals[1]?).map (·.type) = some 47 := by kernel_rfl
/-- The sentinels gs lie in their variables, if each is listed. -/
theorem errs_are {l : List (String × DataW Unit)} {gs : List Nat} {W : World} (h : laidMet Tryz.prog l W)
    (hgs : ∀ g ∈ gs, ∃ n text, (n, DataW.iface "*errors.errorString" (.ptr (.agg [.lit (.string text)]))) ∈ l ∧ Tryz.prog.globalNamed n = some g ∧ (Tryz.prog.globals[g]?).map (·.type) = some 47) :
    Errs 307 gs (atErr W) W :=
  errs_of_laid h hgs Tryz.underlying47 errRow Tryz.underlying307 Tryz.underlying332 rfl rfl Tryz.underlying9 errCells strCells
end Go.Proofs.YtllcakiomihipaaGreatDoor
namespace Go.Proofs.YtllcakiomihipaaGreatDoor
open Go.ChangeShapes Go.WideShapes Go.ChangeAt Go.RowKit
set_option linter.unusedVariables false
theorem bcell2 {W w1 : World} (hb : Below W.heap.size W w1) : (∀ b o, b < W.heap.size → w1.cell? ⟨b, o, none⟩ = W.cell? ⟨b, o, none⟩) ∧ (∀ b o, b < W.heap.size → w1.frozen? ⟨b, o, none⟩ = W.frozen? ⟨b, o, none⟩) :=
  ⟨fun b o h => hb.cell (p := ⟨b, o, none⟩) h, fun b o h => hb.frozen (p := ⟨b, o, none⟩) h⟩
abbrev eV (a : Addr) : Value := .iface 307 (.pointer (some a))
/-- The sentinels' variables, in the order in which turnkeysee numbers them. -/
def G12 : List Nat := [9, 3, 1, 4, 0, 6, 5, 8, 2, 7, 10, 11]
def Sen (A : Nat → Addr) (w : World) : Prop := Errs 307 G12 A w
theorem Sen.below {A : Nat → Addr} {w w' : World} (h : Sen A w) (hb : Below w.heap.size w w') : Sen A w' := Errs.below h hb
def sA (A : Nat → Addr) (j : Nat) : Addr := A (G12.getD j 0)
theorem g12_mem : ∀ j : Fin 12, G12.getD j.val 0 ∈ G12 := by decide
theorem Sen.cell {A : Nat → Addr} {w : World} (h : Sen A w) (j : Nat) (hj : j < 12) : w.cell? ⟨G12.getD j 0, 0, none⟩ = some (eV (sA A j)) ∧ ∃ c t, w.heap[(sA A j).block]? = some (.cells c t (0, 0)) := by
  have hm : G12.getD j 0 ∈ G12 := g12_mem ⟨j, hj⟩
  exact ⟨(h.1 _ hm).1, (h.1 _ hm).2.2⟩
theorem g12_nodup : ∀ i j : Fin 12, i ≠ j → G12.getD i.val 0 ≠ G12.getD j.val 0 := by decide
theorem Sen.other {A : Nat → Addr} {w : World} (h : Sen A w) (i j : Nat) (hi : i < 12) (hj : j < 12) (hne : i ≠ j) : sA A i ≠ sA A j := by
  exact h.2 _ (g12_mem ⟨i, hi⟩) _ (g12_mem ⟨j, hj⟩) (g12_nodup ⟨i, hi⟩ ⟨j, hj⟩ (by simpa using hne))
theorem infoErrPtr : ((Tryz.prog.info? 307).map (·.comparable)) = some true := by kernel_rfl
theorem infoErr : ((Tryz.prog.info? 332).map (·.size)) = some 1 := by kernel_rfl
theorem alike_same (a : Addr) (w : World) : Calls Tryz.prog 158 #[eV a, eV a] w fun e w' => e = .returned (.bool true) ∧ w = w' := by
  obtain ⟨i, hi, hc⟩ := Option.map_eq_some_iff.1 infoErrPtr
  obtain ⟨j, hj, hs⟩ := Option.map_eq_some_iff.1 infoErr
  have hq := run_eql_iface_ptr_same w a Tryz.underlying47 Tryz.underlying307 hi hc hj
  clear hi hc hj hs
  go_enter Tryz.func158, Tryz.ntmps158
  go_wp2
  go_ret
  exact ⟨rfl, rfl⟩
theorem alike_other (a b : Addr) (w : World) (hne : a ≠ b) (ha : ∃ c t, w.heap[a.block]? = some (.cells c t (0, 0))) (hb : ∃ c t, w.heap[b.block]? = some (.cells c t (0, 0))) :
    Calls Tryz.prog 158 #[eV a, eV b] w fun e w' => e = .returned (.bool false) ∧ w = w' := by
  obtain ⟨i, hi, hc⟩ := Option.map_eq_some_iff.1 infoErrPtr
  obtain ⟨j, hj, hs⟩ := Option.map_eq_some_iff.1 infoErr
  obtain ⟨c1, t1, ha⟩ := ha
  obtain ⟨c2, t2, hb⟩ := hb
  have hq := run_eql_iface_ptr_other w Tryz.underlying47 Tryz.underlying307 hi hc hj (by rw [hs]; decide) hne ha hb
  clear hi hc hj hs ha hb hne
  go_enter Tryz.func158, Tryz.ntmps158
  go_wp2
  go_ret
  exact ⟨rfl, rfl⟩
def SenRow (A : Nat → Addr) (w w' : World) : Prop := (∀ k, k < 12 → w'.cell? ⟨w.heap.size, k, none⟩ = some (eV (sA A k))) ∧ Below w.heap.size w w'
set_option maxRecDepth 100000 in
theorem sentinels_any (A : Nat → Addr) (w : World) (h : Sen A w) : Calls Tryz.prog 157 #[] w fun e w' => e = .returned (.slice (some ⟨w.heap.size, 0, none⟩) 12 12) ∧ SenRow A w w' := by
  have c0 : w.cell? ⟨9, 0, none⟩ = some (eV (sA A 0)) := (h.cell 0 (by decide)).1
  have c1 : w.cell? ⟨3, 0, none⟩ = some (eV (sA A 1)) := (h.cell 1 (by decide)).1
  have c2 : w.cell? ⟨1, 0, none⟩ = some (eV (sA A 2)) := (h.cell 2 (by decide)).1
  have c3 : w.cell? ⟨4, 0, none⟩ = some (eV (sA A 3)) := (h.cell 3 (by decide)).1
  have c4 : w.cell? ⟨0, 0, none⟩ = some (eV (sA A 4)) := (h.cell 4 (by decide)).1
  have c5 : w.cell? ⟨6, 0, none⟩ = some (eV (sA A 5)) := (h.cell 5 (by decide)).1
  have c6 : w.cell? ⟨5, 0, none⟩ = some (eV (sA A 6)) := (h.cell 6 (by decide)).1
  have c7 : w.cell? ⟨8, 0, none⟩ = some (eV (sA A 7)) := (h.cell 7 (by decide)).1
  have c8 : w.cell? ⟨2, 0, none⟩ = some (eV (sA A 8)) := (h.cell 8 (by decide)).1
  have c9 : w.cell? ⟨7, 0, none⟩ = some (eV (sA A 9)) := (h.cell 9 (by decide)).1
  have c10 : w.cell? ⟨10, 0, none⟩ = some (eV (sA A 10)) := (h.cell 10 (by decide)).1
  have c11 : w.cell? ⟨11, 0, none⟩ = some (eV (sA A 11)) := (h.cell 11 (by decide)).1
  clear h
  go_enter Tryz.func157, Tryz.ntmps157
  go_wp2
  go_ret
  refine ⟨rfl, fun k hk => ?_, (Below.refl _ _).alloc (Nat.le_refl _) _⟩
  clear c0 c1 c2 c3 c4 c5 c6 c7 c8 c9 c10 c11
  match k, hk with
  | 0, _ | 1, _ | 2, _ | 3, _ | 4, _ | 5, _ | 6, _ | 7, _ | 8, _ | 9, _ | 10, _ | 11, _ => simp
set_option maxRecDepth 100000 in
theorem sentinel_is (A : Nat → Addr) (j : Nat) (hj : j < 12) (w : World) (h : Sen A w) : Calls Tryz.prog 106 #[eV (sA A j)] w fun e w' => e = .returned (.int .i64 (101 + (j : Int))) ∧ Below w.heap.size w w' := by
  go_enter Tryz.func106, Tryz.ntmps106
  go_wp2_with (first | (go_at_call 157; refine (sentinels_any A _ h).mono ?_; rintro e w1 ⟨rfl, hR⟩))
  have HS : Sen A w1 := h.below hR.2
  go_loop [4] (fun i => ∃ k : Nat, k ≤ j ∧ i = .int .i64 k) (fun i => j - (intOf i).toNat)
  case atStart => exact ⟨0, Nat.zero_le _, rfl⟩
  case round =>
    obtain ⟨k, hk, rfl⟩ := hrel
    have hc := hR.1 k (by omega)
    have hz := hR.2.size
    by_cases hkj : k = j
    · subst hkj
      go_wp2_with (first | (go_at_call 158; (with_reducible refine (alike_same _ _).mono ?_); rintro e w2 ⟨rfl, rfl⟩))
      go_ret
      exact ⟨rfl, hR.2⟩
    · go_wp2_with (first | (go_at_call 158; (with_reducible refine (alike_other _ _ _ (HS.other j k hj (by omega) (Ne.symm hkj)) (HS.cell j hj).2 (HS.cell k (by omega)).2).mono ?_); rintro e w2 ⟨rfl, rfl⟩))
      go_round
      case rel => exact ⟨k + 1, by omega, by go_num⟩
      case measure => simp [intOf]; omega
theorem none_is (w : World) : Calls Tryz.prog 105 #[] w fun e w' => e = .returned (Value.agg #[.int .i64 0, .bool false, .int .i64 0]) ∧ Below w.heap.size w w' := by
  go_enter Tryz.func105, Tryz.ntmps105
  go_wp2
  refine bodyPost_ret (v := Value.agg #[.int .i64 0, .bool false, .int .i64 0]) (by simp [results, Tryz.results105, go_sem]) rfl ⟨rfl, ?_⟩
  exact (Below.refl _ _).alloc (Nat.le_refl _) _
theorem bare_is (c : Int) (w : World) : Calls Tryz.prog 38 #[.int .i64 c] w fun e w' => e = .returned (Value.agg #[.int .i64 c, .bool false, .int .i64 0]) ∧ Below w.heap.size w w' := by
  go_enter Tryz.func38, Tryz.ntmps38
  go_wp2
  refine bodyPost_ret (v := Value.agg #[.int .i64 c, .bool false, .int .i64 0]) (by simp [results, Tryz.results38, go_sem]) rfl ⟨rfl, ?_⟩
  exact (Below.refl _ _).alloc (Nat.le_refl _) _
theorem placed_is (c n : Int) (hc : (c == 0) = false) (w : World) : Calls Tryz.prog 107 #[.int .i64 c, .int .i64 n] w fun e w' => e = .returned (Value.agg #[.int .i64 c, .bool true, .int .i64 n]) ∧ Below w.heap.size w w' := by
  go_enter Tryz.func107, Tryz.ntmps107
  go_wp2
  refine bodyPost_ret (v := Value.agg #[.int .i64 c, .bool true, .int .i64 n]) (by simp [results, Tryz.results107, go_sem]) rfl ⟨rfl, ?_⟩
  exact (Below.refl _ _).alloc (Nat.le_refl _) _
/-- Are two faults the same? -/
def faultB (c n c' n' : Int) (p p' : Bool) : Bool := c == c' && (p == p' && n == n')
theorem set3 {w1 : World} {b : Nat} {u0 u1 u2 : Value} (v0 v1 v2 : Value) (h0 : w1.cell? ⟨b, 0, none⟩ = some u0) (h1 : w1.cell? ⟨b, 1, none⟩ = some u1) (h2 : w1.cell? ⟨b, 2, none⟩ = some u2) :
    (((w1.setCell ⟨b, 0, none⟩ v0).setCell ⟨b, 1, none⟩ v1).setCell ⟨b, 2, none⟩ v2).cell? ⟨b, 0, none⟩ = some v0 ∧ (((w1.setCell ⟨b, 0, none⟩ v0).setCell ⟨b, 1, none⟩ v1).setCell ⟨b, 2, none⟩ v2).cell? ⟨b, 1, none⟩ = some v1 ∧ (((w1.setCell ⟨b, 0, none⟩ v0).setCell ⟨b, 1, none⟩ v1).setCell ⟨b, 2, none⟩ v2).cell? ⟨b, 2, none⟩ = some v2 := by
  have all : ∀ (j : Nat) (hj : j < 3), (w1.setCells b 0 [v0, v1, v2]).cell? ⟨b, 0 + j, none⟩ = some ([v0, v1, v2][j]'hj) := fun j hj => World.cell?_setCells_in b [v0, v1, v2] 0 w1 (by
    intro i hi
    match i, hi with
    | 0, _ => simp [h0]
    | 1, _ => simp [h1]
    | 2, _ => simp [h2]) j (by simpa using hj)
  exact ⟨all 0 (by decide), all 1 (by decide), all 2 (by decide)⟩
theorem sentinel_c (A : Nat → Addr) (j : Nat) (c : Int) (hj : j < 12) (hc : Hid (101 + (j : Int) = c)) (w : World) (h : Sen A w) : Calls Tryz.prog 106 #[eV (sA A j)] w fun e w' => e = .returned (.int .i64 c) ∧ Below w.heap.size w w' := by
  rw [← hc.out]; exact sentinel_is A j hj w h
set_option maxRecDepth 100000 in
theorem fault_nil (w : World) : Calls Tryz.prog 67 #[.nilIface] w fun e w' => e = .returned (Value.agg #[.int .i64 0, .bool false, .int .i64 0]) ∧ Below w.heap.size w w' := by
  go_enter Tryz.func67, Tryz.ntmps67
  go_wp2_with (first | (go_at_call 105; refine (none_is _).mono ?_; rintro e w1 ⟨rfl, hb⟩; obtain ⟨hc, hf⟩ := bcell2 hb; have hz : w.heap.size < w1.heap.size := by { have := hb.size; simp at this; omega }))
  obtain ⟨q0, q1, q2⟩ := set3 (b := w.heap.size) (.int .i64 (0)) (.bool false) (.int .i64 (0)) ((hc w.heap.size 0 (by simp)).trans (by simp; rfl)) ((hc w.heap.size 1 (by simp)).trans (by simp; rfl)) ((hc w.heap.size 2 (by simp)).trans (by simp; rfl))
  refine bodyPost_ret (v := Value.agg #[.int .i64 0, .bool false, .int .i64 0]) (by simp [results, Tryz.results67, go_sem, q0, q1, q2]) rfl ⟨rfl, ?_⟩
  exact (((((Below.refl _ _).alloc (Nat.le_refl _) _).trans (hb.mono (by simp))).setCell (by simp) _).setCell (by simp) _).setCell (by simp) _
theorem assert_err (a : Addr) (w : World) : (Instr.typeAssert (eV a) 47 192 true).run Tryz.prog w = .ok (.tuple #[.pointer none, .bool false]) w := by kernel_rfl
theorem assert_at (a : Addr) (w : World) : (Instr.typeAssert (.iface 192 (.pointer (some a))) 47 192 true).run Tryz.prog w = .ok (.tuple #[.pointer (some a), .bool true]) w := by kernel_rfl
theorem Sen.alloc {A : Nat → Addr} {w : World} (h : Sen A w) (o : Obj) : Sen A (w.alloc o) := h.below ((Below.refl _ _).alloc (Nat.le_refl _) o)
set_option maxRecDepth 100000 in
theorem fault_err (A : Nat → Addr) (j : Nat) (c : Int) (hj : j < 12) (hjc : Hid (101 + (j : Int) = c)) (w : World) (h : Sen A w) : Calls Tryz.prog 67 #[eV (sA A j)] w fun e w' => e = .returned (Value.agg #[.int .i64 c, .bool false, .int .i64 0]) ∧ Below w.heap.size w w' := by
  have hta := assert_err (sA A j)
  go_enter Tryz.func67, Tryz.ntmps67
  go_wp2_with (first | (go_at_call 106; (with_reducible refine (sentinel_c A j c hj hjc _ (h.alloc _)).mono ?_); rintro e w1 ⟨rfl, hb⟩; obtain ⟨hc, hf⟩ := bcell2 hb; have hz : w.heap.size < w1.heap.size := by { have := hb.size; simp at this; omega }) | (go_at_call 38; refine (bare_is _ _).mono ?_; rintro e w2 ⟨rfl, hb2⟩; obtain ⟨hc2, hf2⟩ := bcell2 hb2; have hz2 : w.heap.size < w2.heap.size := by { have := hb2.size; omega }))
  obtain ⟨q0, q1, q2⟩ := set3 (b := w.heap.size) (.int .i64 c) (.bool false) (.int .i64 0) ((hc2 w.heap.size 0 hz).trans ((hc w.heap.size 0 (by simp)).trans (by simp; rfl))) ((hc2 w.heap.size 1 hz).trans ((hc w.heap.size 1 (by simp)).trans (by simp; rfl))) ((hc2 w.heap.size 2 hz).trans ((hc w.heap.size 2 (by simp)).trans (by simp; rfl)))
  refine bodyPost_ret (v := Value.agg #[.int .i64 c, .bool false, .int .i64 0]) (by simp [results, Tryz.results67, go_sem, q0, q1, q2]) rfl ⟨rfl, ?_⟩
  exact ((((((Below.refl _ _).alloc (Nat.le_refl _) _).trans (hb.mono (by simp))).trans (hb2.mono (by omega))).setCell (by simp) _).setCell (by simp) _).setCell (by simp) _
set_option maxRecDepth 100000 in
set_option maxHeartbeats 1000000 in
theorem fault_at (A : Nat → Addr) (j : Nat) (c n : Int) (p : Nat) (hj : j < 12) (hjc : Hid (101 + (j : Int) = c)) (hc0 : (c == 0) = false) (w : World) (h : Sen A w) (hp : p < w.heap.size ∧ w.cell? ⟨p, 0, none⟩ = some (.int .i64 (n)) ∧ w.cell? ⟨p, 1, none⟩ = some (eV (sA A j))) : Calls Tryz.prog 67 #[(Value.iface 192 (.pointer (some ⟨p, 0, none⟩)))] w fun e w' => e = .returned (Value.agg #[.int .i64 c, .bool true, .int .i64 n]) ∧ Below w.heap.size w w' := by
  have hta := assert_at ⟨p, 0, none⟩
  have hsz := hp.1
  have p0 : (w.alloc (.cells #[.int .i64 0, .bool false, .int .i64 0] 94)).cell? ⟨p, 0, none⟩ = some (.int .i64 n) := (World.cell?_alloc_lt w _ ⟨p, 0, none⟩ hsz).trans hp.2.1
  have p1 : (w.alloc (.cells #[.int .i64 0, .bool false, .int .i64 0] 94)).cell? ⟨p, 1, none⟩ = some (eV (sA A j)) := (World.cell?_alloc_lt w _ ⟨p, 1, none⟩ hsz).trans hp.2.2
  clear hp
  have HA := h.alloc (.cells #[.int .i64 0, .bool false, .int .i64 0] 94)
  go_enter Tryz.func67, Tryz.ntmps67
  go_wp2_with fail
  go_region_with (first | (go_at_call 106; refine (sentinel_c A j c hj hjc _ (by exact HA)).mono ?_; rintro e w1 ⟨rfl, hb⟩; obtain ⟨hc, hf⟩ := bcell2 hb; have hz : w.heap.size < w1.heap.size := by { have := hb.size; simp at this; omega }) | (go_at_call 107; refine (placed_is c n hc0 _).mono ?_; rintro e w2 ⟨rfl, hb2⟩; obtain ⟨hc2, hf2⟩ := bcell2 hb2; have hz2 : w.heap.size < w2.heap.size := by { have := hb2.size; omega }))
  all_goals
    go_wp2
    obtain ⟨q0, q1, q2⟩ := set3 (b := w.heap.size) (.int .i64 c) (.bool true) (.int .i64 n) ((hc2 w.heap.size 0 hz).trans ((hc w.heap.size 0 (by simp)).trans (by simp; rfl))) ((hc2 w.heap.size 1 hz).trans ((hc w.heap.size 1 (by simp)).trans (by simp; rfl))) ((hc2 w.heap.size 2 hz).trans ((hc w.heap.size 2 (by simp)).trans (by simp; rfl)))
    refine bodyPost_ret (v := Value.agg #[.int .i64 c, .bool true, .int .i64 n]) (by simp [results, Tryz.results67, go_sem, q0, q1, q2]) rfl ⟨rfl, ?_⟩
    exact (((((((Below.refl _ _).alloc (Nat.le_refl _) _).drew).trans (hb.mono (by simp))).trans (hb2.mono (by omega))).setCell (by simp) _).setCell (by simp) _).setCell (by simp) _
/-- What Fault says of an error, from a world on. -/
def FaultIs (e : Value) (c n : Int) (p : Bool) (w : World) : Prop := ∀ W, Below w.heap.size w W → Calls Tryz.prog 67 #[e] W fun e' w' => e' = .returned (Value.agg #[.int .i64 c, .bool p, .int .i64 n]) ∧ Below W.heap.size W w'
theorem FaultIs.nil (w : World) : FaultIs .nilIface 0 0 false w := fun W _ => fault_nil W
theorem FaultIs.err {A : Nat → Addr} {w : World} (h : Sen A w) (j : Nat) (hj : j < 12) : FaultIs (eV (sA A j)) (101 + (j : Int)) 0 false w := fun W hb => fault_err A j _ hj (Lib.hid rfl) W (h.below hb)
theorem FaultIs.at {A : Nat → Addr} {w : World} (h : Sen A w) (j : Nat) (hj : j < 12) (n : Int) (p : Nat) (hp : p < w.heap.size ∧ w.cell? ⟨p, 0, none⟩ = some (.int .i64 (n)) ∧ w.cell? ⟨p, 1, none⟩ = some (eV (sA A j))) : FaultIs (Value.iface 192 (.pointer (some ⟨p, 0, none⟩))) (101 + (j : Int)) n true w := fun W hb =>
  fault_at A j _ n p hj (Lib.hid rfl) (by simp; omega) W (h.below hb) ⟨Nat.lt_of_lt_of_le hp.1 hb.size, (hb.cell (p := ⟨p, 0, none⟩) hp.1).trans hp.2.1, (hb.cell (p := ⟨p, 1, none⟩) hp.1).trans hp.2.2⟩
theorem FaultIs.later {e : Value} {c n : Int} {p : Bool} {w w' : World} (h : FaultIs e c n p w) (hb : Below w.heap.size w w') : FaultIs e c n p w' := fun W hW => h W (hb.trans (hW.mono hb.size))
end Go.Proofs.YtllcakiomihipaaGreatDoor
namespace Go.Proofs.YtllcakiomihipaaGreatDoor
open Go.ChangeShapes Go.WideShapes Go.ChangeAt Go.RowKit
set_option linter.unusedVariables false
abbrev fnFree : Value := .func (.func 113) #[] #[]
set_option maxRecDepth 100000 in
theorem aindex_at {base p B n c : Nat} {th : Nat → Bool} {vr : Nat → Int} (w : World) (hA : ArAt w base p B n c th vr) (j : Nat) (hj : j < n) (hyes : Hid (freeB th vr j = true)) (hno : Hid (∀ i, i < j → freeB th vr i = false)) :
    Calls Tryz.prog 112 #[.slice (some ⟨B, 0, none⟩) n c, fnFree] w fun e w' => e = .returned (.int .i64 j) ∧ Below w.heap.size w w' := by
  have HA := Lib.hid hA
  have hn := hA.le
  clear hA
  go_enter Tryz.func112, Tryz.ntmps112
  go_wp2_with fail
  go_loopw [8] (fun i wr => ∃ k : Nat, k ≤ j ∧ i = .int .i64 k ∧ Below w.heap.size w wr) (fun i _ => n - (intOf i).toNat)
  case atStart => exact ⟨0, by omega, rfl, Below.refl _ _⟩
  case round =>
    obtain ⟨k, hk, rfl, hB⟩ := hrel
    have HB := Lib.hid hB
    have hkn : k < n := by omega
    have hw := HA.out.below hB
    have h0 := hw.at0 k hkn
    have h1 := hw.at1 k hkn
    have k0 : (0 : Int) ≤ k := by omega
    by_cases hlt : k < j
    · have HF : Hid ((!th k && decide (vr k ≤ 1048575)) = false) := Lib.hid (hno.out k hlt)
      generalize th k = t at h0 HF
      generalize vr k = v at h1 HF
      clear hw hB
      go_wp2_with (first | (go_at_call 113; (with_reducible refine (afree_is t v false HF _).mono ?_); rintro e w1 ⟨rfl, hb⟩; have HB2 := Lib.hid (HB.out.trans (hb.mono HB.out.size)); clear hb h0 h1))
      go_roundw
      case rel => exact ⟨k + 1, by omega, by go_num, HB2.out⟩
      case measure => simp [intOf]; omega
    · obtain rfl : j = k := by omega
      have HF : Hid ((!th j && decide (vr j ≤ 1048575)) = true) := hyes
      generalize th j = t at h0 HF
      generalize vr j = v at h1 HF
      clear hw hB
      go_wp2_with (first | (go_at_call 113; (with_reducible refine (afree_is t v true HF _).mono ?_); rintro e w1 ⟨rfl, hb⟩; have HB2 := Lib.hid (HB.out.trans (hb.mono HB.out.size)); clear hb h0 h1))
      go_ret
      exact ⟨rfl, HB2.out⟩
end Go.Proofs.YtllcakiomihipaaGreatDoor
namespace Go.Proofs.YtllcakiomihipaaGreatDoor
open Go.ChangeShapes Go.WideShapes Go.ChangeAt Go.RowKit
set_option linter.unusedVariables false
section
variable {w w' wi : World} {base p B n c : Nat} {th : Nat → Bool} {vr : Nat → Int}
theorem ArAt.set0 (h : ArAt w base p B n c th vr) (j : Nat) (hj : j < n) (x : Bool) : ArAt (w.setCell ⟨B, j * 2, none⟩ (.bool x)) base p B n c (upd th j x) vr := by
  refine ⟨by simpa using h.pl, h.pb, ?_, ?_, h.ne, h.le⟩
  · rw [World.cell?_setCell_other _ _ _ _ (by intro e; exact h.ne (congrArg Addr.block e).symm)]
    exact h.fld
  · rw [← plc_set0 th vr n j hj x]
    exact (h.own.stored (j * 2) (.bool x)).1
/-- What changed but block B is new. -/
theorem grown_set (hb : Below w.heap.size w wi) (h : ArAt wi base p B n c th vr) (j : Nat) (u : Value) : w.grownBy (wi.setCell ⟨B, j, none⟩ u) (some B) := by
  have hg := (h.own.stored j u).2
  exact ⟨hg.os.trans hb.os, hg.tape.trans hb.tape, hg.output.trans hb.output, Nat.le_trans hb.size hg.size, fun k hk hne => (hg.block k (Nat.lt_of_lt_of_le hk hb.size) hne).trans (hb.block k hk)⟩
theorem grown_then (hg : w.grownBy wi (some B)) (hb : Below wi.heap.size wi w') : w.grownBy w' (some B) :=
  ⟨hb.os.trans hg.os, hb.tape.trans hg.tape, hb.output.trans hg.output, Nat.le_trans hg.size hb.size, fun k hk hne => (hb.block k (Nat.lt_of_lt_of_le hk hg.size)).trans (hg.block k hk hne)⟩
theorem grown_more (hg : w.grownBy wi (some B)) (hg2 : wi.grownBy w' (some B)) : w.grownBy w' (some B) :=
  ⟨hg2.os.trans hg.os, hg2.tape.trans hg.tape, hg2.output.trans hg.output, Nat.le_trans hg.size hg2.size, fun k hk hne => (hg2.block k (Nat.lt_of_lt_of_le hk hg.size) hne).trans (hg.block k hk hne)⟩
end
set_option maxRecDepth 100000 in
theorem atake_ok {base p B n c : Nat} {th : Nat → Bool} {vr : Nat → Int} (w : World) (hA : ArAt w base p B n c th vr) (j : Nat) (hj : j < n) (hyes : Hid (freeB th vr j = true)) (hno : Hid (∀ i, i < j → freeB th vr i = false)) (v : Int) (hv : Hid (vr j = v)) :
    Calls Tryz.prog 83 #[.pointer (some ⟨p, 0, none⟩)] w fun e w' => e = .returned (.tuple #[.int .i64 j, .int .i64 v, .nilIface]) ∧ ArAt w' base p B n c (upd th j true) vr ∧ w.grownBy w' (some B) := by
  have HA := Lib.hid hA
  have hn := hA.le
  have hf := hA.fld
  have k0 : (0 : Int) ≤ j := by omega
  have k1 : (j : Int) < n := by omega
  clear hA
  go_enter Tryz.func83, Tryz.ntmps83
  go_wp2_with (first | (go_at_call 112; (with_reducible refine (aindex_at _ HA.out j hj hyes hno).mono ?_); rintro e wi ⟨rfl, hb⟩; have HW := Lib.hid (HA.out.below hb); have HB := Lib.hid hb; have hf1 := (HA.out.below hb).fld; have h0 := (HA.out.below hb).at0 j hj; have hz := (HA.out.below hb).own.frozenAt (j * 2); clear hf hb))
  have HS := Lib.hid (HW.out.set0 j hj true)
  have HG := Lib.hid (grown_set HB.out HW.out (j * 2) (.bool true))
  have hf2 := HS.out.fld
  have h2 := HS.out.at1 j hj
  rw [hv.out] at h2
  clear hf1 h0 hz
  go_quiet (fail)
  go_wp2_with fail
  go_ret3
  exact ⟨rfl, HS.out.below (below_drewN (Below.refl _ _) _), grown_then HG.out (below_drewN (Below.refl _ _) _)⟩
end Go.Proofs.YtllcakiomihipaaGreatDoor
namespace Go.Proofs.YtllcakiomihipaaGreatDoor
open Go.ChangeShapes Go.WideShapes Go.ChangeAt Go.RowKit
set_option linter.unusedVariables false
theorem infoPlace : (Tryz.prog.info? 134).map (fun i => (i.zero, i.size, i.bytes)) = some (some (.agg #[.bool false, .int .i64 0]), 2, 16) := by kernel_rfl
set_option maxRecDepth 100000 in
theorem anew_ok (n : Nat) (h1 : 1 ≤ n) (h2 : n ≤ 256) (w : World) :
    Calls Tryz.prog 110 #[.int .i64 n] w fun e w' => ∃ p B, e = .returned (.tuple #[.pointer (some ⟨p, 0, none⟩), .nilIface]) ∧ ArAt w' w.heap.size p B n n (fun _ => false) (fun _ => 0) ∧ Below w.heap.size w w' := by
  obtain ⟨i0, hi, hz0, hz1, hz2⟩ := info_parts infoPlace
  have HI := Lib.hid (⟨hi, hz0, hz1, hz2⟩ : Tryz.prog.info? 134 = some i0 ∧ i0.zero = some (.agg #[.bool false, .int .i64 0]) ∧ i0.size = 2 ∧ i0.bytes = 16)
  clear hi hz0 hz1 hz2
  have d1 : decide ((n : Int) < 1) = false := by simp; omega
  have d2 : decide ((256 : Int) < (n : Int)) = false := by simp; omega
  go_enter Tryz.func110, Tryz.ntmps110
  go_wp2_with (first | (at_make; refine wpList_make_full _ rfl _ _ 135 rfl w.heap.size 134 i0 (.agg #[.bool false, .int .i64 0]) 2 Tryz.underlying135 HI.out.1 HI.out.2.1 HI.out.2.2.1 .i64 .i64 _ _ n rfl rfl rfl rfl ?b2 ?b3 ?b4 ?_))
  case b2 => rw [HI.out.2.2.2]; omega
  case b3 => unfold maxLen; omega
  case b4 => exact Nat.le_refl _
  intro w1 hown hgrow
  have hb1 : Below w.heap.size w w1 := (Below.refl _ _).grown hgrow (Nat.le_refl _) (fun k hk => by cases hk)
  have hlt := (hown.lt w.heap.size rfl).2
  have HO : Hid (w1.ownsRow w.heap.size 134 2 (.slice (some ⟨w.heap.size, 0, none⟩) n n) n (plc (fun _ => false) (fun _ => 0) n)) := Lib.hid (by rw [← plc_made]; exact hown)
  have HB := Lib.hid hb1
  clear hown hgrow hb1
  go_wp2_with fail
  go_ret2
  exact ⟨_, _, rfl, ⟨by simp, by omega, by simp, HO.out.alloc _, by omega, h2⟩, HB.out.alloc HB.out.size _⟩
end Go.Proofs.YtllcakiomihipaaGreatDoor
namespace Go.Proofs.YtllcakiomihipaaGreatDoor
open Go.ChangeShapes Go.WideShapes Go.ChangeAt Go.RowKit
set_option linter.unusedVariables false
theorem ret_i64 {a b : Int} (h : a = b) : Ending.returned (.int .i64 a) = .returned (.int .i64 b) := by rw [h]
theorem ArAt.congr {w : World} {base p B n c : Nat} {th th' : Nat → Bool} {vr vr' : Nat → Int} (h : ArAt w base p B n c th vr) (h1 : ∀ i, i < n → th i = th' i) (h2 : ∀ i, i < n → vr i = vr' i) : ArAt w base p B n c th' vr' :=
  ⟨h.pl, h.pb, h.fld, by rw [← plc_congr n h1 h2]; exact h.own, h.ne, h.le⟩
/-- Below the start: what a change of the arena's own row leaves. -/
theorem below_grown {w0 w w' : World} {B : Nat} (h : Below w0.heap.size w0 w) (hg : w.grownBy w' (some B)) (hB : w0.heap.size ≤ B) : Below w0.heap.size w0 w' :=
  h.grown hg h.size (fun k hk => by injection hk with e; omega)
end Go.Proofs.YtllcakiomihipaaGreatDoor
namespace Go.Proofs.YtllcakiomihipaaGreatDoor
open Go.ChangeShapes Go.WideShapes Go.ChangeAt Go.RowKit
set_option linter.unusedVariables false
theorem anew_at (x : Int) (n : Nat) (hx : Hid (x = n)) (h1 : 1 ≤ n) (h2 : n ≤ 256) (w : World) :
    Calls Tryz.prog 110 #[.int .i64 x] w fun e w' => ∃ p B, e = .returned (.tuple #[.pointer (some ⟨p, 0, none⟩), .nilIface]) ∧ ArAt w' w.heap.size p B n n (fun _ => false) (fun _ => 0) ∧ Below w.heap.size w w' := by
  rw [hx.out]; exact anew_ok n h1 h2 w
/-- The places of this law: filled up to k; all there, one of them m times anew. -/
def thK (k : Nat) : Nat → Bool := fun i => decide (i < k)
def vrM (a m : Nat) : Nat → Int := fun i => if i = a then (m : Int) else 0
def VV (W w : World) (base p B n c : Nat) (th : Nat → Bool) (vr : Nat → Int) : Prop := Below W.heap.size W w ∧ ArAt w base p B n c th vr ∧ W.heap.size ≤ base
section
variable {W w w' : World} {base p B n c : Nat} {th th' : Nat → Bool} {vr vr' : Nat → Int}
theorem VV.ar (h : VV W w base p B n c th vr) : ArAt w base p B n c th vr := h.2.1
theorem VV.bel (h : VV W w base p B n c th vr) : Below W.heap.size W w := h.1
theorem VV.step (h : VV W w base p B n c th vr) (hb : Below w.heap.size w w') : VV W w' base p B n c th vr := ⟨h.1.trans (hb.mono h.1.size), h.2.1.below hb, h.2.2⟩
theorem VV.turn (h : VV W w base p B n c th vr) (hA : ArAt w' base p B n c th' vr') (hg : w.grownBy w' (some B)) : VV W w' base p B n c th' vr' := ⟨below_grown h.1 hg (Nat.le_trans h.2.2 h.2.1.lt.1), hA, h.2.2⟩
theorem VV.congr (h : VV W w base p B n c th vr) (h1 : ∀ i, i < n → th i = th' i) (h2 : ∀ i, i < n → vr i = vr' i) : VV W w base p B n c th' vr' := ⟨h.1, h.2.1.congr h1 h2, h.2.2⟩
end
end Go.Proofs.YtllcakiomihipaaGreatDoor
namespace Go.Proofs.YtllcakiomihipaaGreatDoor
open Go.ChangeShapes Go.WideShapes Go.ChangeAt Go.RowKit
set_option linter.unusedVariables false
section
variable {W w w' : World} {base p B n c F : Nat} {th th' : Nat → Bool} {vr vr' : Nat → Int} {fr : Nat → Bool}
theorem ArAt.kept (h : ArAt w base p B n c th vr) (hg : w.grownBy w' (some F)) (hp : p ≠ F) (hB : B ≠ F) : ArAt w' base p B n c th vr :=
  ⟨Nat.lt_of_lt_of_le h.pl hg.size, h.pb, (World.cell?_of_block (a := ⟨p, 0, none⟩) (hg.block p h.pl (by simpa using hp))).trans h.fld, h.own.kept hg (.inr (by simpa [Value.ownBlock] using hB)), h.ne, h.le⟩
/-- A row of bools of the law's own. -/
def FR (w : World) (base F n : Nat) (fr : Nat → Bool) : Prop := w.ownsRow base 4 1 (.slice (some ⟨F, 0, none⟩) n n) n ((List.range n).map fun i => Value.bool (fr i))
theorem FR.at (h : FR w base F n fr) (k : Nat) (hk : k < n) : w.cell? ⟨F, k, none⟩ = some (.bool (fr k)) := by
  have := World.ownsRow.cellAt h k (by omega)
  rw [this]
  simp [hk]
theorem FR.lt (h : FR w base F n fr) : base ≤ F ∧ F < w.heap.size := World.ownsRow.lt h F rfl
theorem FR.free (h : FR w base F n fr) (k : Nat) : w.frozen? ⟨F, k, none⟩ = false := World.ownsRow.frozenAt h k
theorem FR.below (h : FR w base F n fr) (hb : Below w.heap.size w w') : FR w' base F n fr := own_below h hb
theorem FR.kept (h : FR w base F n fr) (hg : w.grownBy w' (some B)) (hB : F ≠ B) : FR w' base F n fr := World.ownsRow.kept h hg (.inr (by simpa [Value.ownBlock] using hB))
theorem FR.set (h : FR w base F n fr) (k : Nat) (hk : k < n) (x : Bool) : FR (w.setCell ⟨F, k, none⟩ (.bool x)) base F n (upd fr k x) ∧ w.grownBy (w.setCell ⟨F, k, none⟩ (.bool x)) (some F) := by
  have hs := World.ownsRow.stored h k (.bool x)
  refine ⟨?_, hs.2⟩
  unfold FR
  have e : ((List.range n).map fun i => Value.bool (upd fr k x i)) = ((List.range n).map fun i => Value.bool (fr i)).set k (.bool x) := by
    apply List.ext_getElem?
    intro j
    by_cases hj : j < n
    · by_cases e : j = k
      · subst e
        simp [upd, hj]
      · rw [List.getElem?_set_ne (by omega)]
        simp [upd, e, hj]
    · rw [List.getElem?_eq_none (by simp; omega), List.getElem?_eq_none (by simp; omega)]
  rw [e]
  exact hs.1
end
/-- The law's state: the arena; the row of bools apart from it. -/
structure LS (W w : World) (base p B n c F : Nat) (fr th : Nat → Bool) (vr : Nat → Int) : Prop where
  vv : VV W w base p B n c th vr
  fr : FR w W.heap.size F n fr
  nb : F ≠ B
  np : F ≠ p
section
variable {W w w' : World} {base p B n c F : Nat} {th th' : Nat → Bool} {vr vr' : Nat → Int} {fr fr' : Nat → Bool}
theorem LS.step (h : LS W w base p B n c F fr th vr) (hb : Below w.heap.size w w') : LS W w' base p B n c F fr th vr := ⟨h.vv.step hb, h.fr.below hb, h.nb, h.np⟩
theorem LS.turn (h : LS W w base p B n c F fr th vr) (hA : ArAt w' base p B n c th' vr') (hg : w.grownBy w' (some B)) : LS W w' base p B n c F fr th' vr' := ⟨h.vv.turn hA hg, h.fr.kept hg h.nb, h.nb, h.np⟩
theorem LS.put (h : LS W w base p B n c F fr th vr) (k : Nat) (hk : k < n) (x : Bool) : LS W (w.setCell ⟨F, k, none⟩ (.bool x)) base p B n c F (upd fr k x) th vr := by
  have hs := h.fr.set k hk x
  refine ⟨⟨?_, h.vv.ar.kept hs.2 (Ne.symm h.np) (Ne.symm h.nb), h.vv.2.2⟩, hs.1, h.nb, h.np⟩
  exact h.vv.1.grown hs.2 h.vv.1.size (fun j hj => by injection hj with e; have := h.fr.lt.1; omega)
theorem LS.congr (h : LS W w base p B n c F fr th vr) (h1 : ∀ i, i < n → th i = th' i) (h2 : ∀ i, i < n → vr i = vr' i) : LS W w base p B n c F fr th' vr' := ⟨h.vv.congr h1 h2, h.fr, h.nb, h.np⟩
end
def vrF (fr : Nat → Bool) : Nat → Int := fun i => if fr i = true then 1 else 0
def thF (fr : Nat → Bool) (l : Int) : Nat → Bool := fun i => !fr i || decide ((i : Int) ≤ l)
end Go.Proofs.YtllcakiomihipaaGreatDoor
namespace Go.Proofs.YtllcakiomihipaaGreatDoor
open Go.ChangeShapes Go.WideShapes Go.ChangeAt Go.RowKit
set_option linter.unusedVariables false
/-- What the law is given: numbers in a row. -/
def Nums (w : World) (a : Option Addr) (len : Nat) (zs : List Int) : Prop := ∀ ad, a = some ad → 0 < len → ad.block < w.heap.size ∧ ∀ i, i < len → w.cell? (ad.add i) = some (.int .i64 (zs.getD i 0)) ∧ -9223372036854775808 ≤ zs.getD i 0 ∧ zs.getD i 0 ≤ 9223372036854775807
theorem add_block' (ad : Addr) (n : Nat) : (ad.add n).block = ad.block := by unfold Addr.add; split <;> rfl
end Go.Proofs.YtllcakiomihipaaGreatDoor
namespace Go.Proofs.YtllcakiomihipaaGreatDoor
open Go.ChangeShapes Go.WideShapes Go.ChangeAt Go.RowKit
set_option linter.unusedVariables false
theorem Sen.err {A : Nat → Addr} {w : World} (h : Sen A w) (j : Nat) (hj : j < 12) : w.cell? ⟨G12.getD j 0, 0, none⟩ = some (eV (sA A j)) := (h.cell j hj).1
theorem cell_lt {w : World} {b o : Nat} {v : Value} (h : w.cell? ⟨b, o, none⟩ = some v) : b < w.heap.size := by
  rcases Nat.lt_or_ge b w.heap.size with h' | h'
  · exact h'
  · simp [World.cell?, Array.getElem?_eq_none h'] at h
theorem Sen.size {A : Nat → Addr} {w : World} (h : Sen A w) (j : Nat) (hj : j < 12) : G12.getD j 0 < w.heap.size := cell_lt (h.err j hj)
theorem Sen.c0 {A : Nat → Addr} {w : World} (h : Sen A w) : w.cell? ⟨9, 0, none⟩ = some (eV (sA A 0)) := h.err 0 (by decide)
theorem Sen.s0 {A : Nat → Addr} {w : World} (h : Sen A w) : 9 < w.heap.size := h.size 0 (by decide)
theorem Sen.c1 {A : Nat → Addr} {w : World} (h : Sen A w) : w.cell? ⟨3, 0, none⟩ = some (eV (sA A 1)) := h.err 1 (by decide)
theorem Sen.s1 {A : Nat → Addr} {w : World} (h : Sen A w) : 3 < w.heap.size := h.size 1 (by decide)
theorem Sen.c2 {A : Nat → Addr} {w : World} (h : Sen A w) : w.cell? ⟨1, 0, none⟩ = some (eV (sA A 2)) := h.err 2 (by decide)
theorem Sen.s2 {A : Nat → Addr} {w : World} (h : Sen A w) : 1 < w.heap.size := h.size 2 (by decide)
theorem Sen.c3 {A : Nat → Addr} {w : World} (h : Sen A w) : w.cell? ⟨4, 0, none⟩ = some (eV (sA A 3)) := h.err 3 (by decide)
theorem Sen.s3 {A : Nat → Addr} {w : World} (h : Sen A w) : 4 < w.heap.size := h.size 3 (by decide)
theorem Sen.c4 {A : Nat → Addr} {w : World} (h : Sen A w) : w.cell? ⟨0, 0, none⟩ = some (eV (sA A 4)) := h.err 4 (by decide)
theorem Sen.s4 {A : Nat → Addr} {w : World} (h : Sen A w) : 0 < w.heap.size := h.size 4 (by decide)
theorem Sen.c5 {A : Nat → Addr} {w : World} (h : Sen A w) : w.cell? ⟨6, 0, none⟩ = some (eV (sA A 5)) := h.err 5 (by decide)
theorem Sen.s5 {A : Nat → Addr} {w : World} (h : Sen A w) : 6 < w.heap.size := h.size 5 (by decide)
theorem Sen.c6 {A : Nat → Addr} {w : World} (h : Sen A w) : w.cell? ⟨5, 0, none⟩ = some (eV (sA A 6)) := h.err 6 (by decide)
theorem Sen.c7 {A : Nat → Addr} {w : World} (h : Sen A w) : w.cell? ⟨8, 0, none⟩ = some (eV (sA A 7)) := h.err 7 (by decide)
theorem Sen.c8 {A : Nat → Addr} {w : World} (h : Sen A w) : w.cell? ⟨2, 0, none⟩ = some (eV (sA A 8)) := h.err 8 (by decide)
theorem Sen.c9 {A : Nat → Addr} {w : World} (h : Sen A w) : w.cell? ⟨7, 0, none⟩ = some (eV (sA A 9)) := h.err 9 (by decide)
theorem Sen.s9 {A : Nat → Addr} {w : World} (h : Sen A w) : 7 < w.heap.size := h.size 9 (by decide)
theorem Sen.c10 {A : Nat → Addr} {w : World} (h : Sen A w) : w.cell? ⟨10, 0, none⟩ = some (eV (sA A 10)) := h.err 10 (by decide)
theorem Sen.c11 {A : Nat → Addr} {w : World} (h : Sen A w) : w.cell? ⟨11, 0, none⟩ = some (eV (sA A 11)) := h.err 11 (by decide)
end Go.Proofs.YtllcakiomihipaaGreatDoor
namespace Go.Proofs.YtllcakiomihipaaGreatDoor
open Go.ChangeShapes Go.WideShapes Go.ChangeAt Go.RowKit
set_option linter.unusedVariables false
theorem infoSheet : (Tryz.prog.info? 283).map (fun i => (i.zero, i.size, i.bytes)) = some (some (.agg (Array.replicate 32 (.int .u32 0))), 32, 128) := by kernel_rfl
theorem infoU32 : (Tryz.prog.info? 26).map (·.size) = some 1 := by kernel_rfl
theorem zeroU32 (w : World) : (zeroValue 26).run Tryz.prog w = .ok (.int .u32 0) w := by kernel_rfl
def over : List Value → Nat → List Value → List Value
  | xs, _, [] => xs
  | xs, o, v :: vs => over (xs.set o v) (o + 1) vs
theorem over_get (vs : List Value) : ∀ (xs : List Value) (o j : Nat), o + vs.length ≤ xs.length → (over xs o vs)[j]? = if o ≤ j ∧ j < o + vs.length then vs[j - o]? else xs[j]? := by
  induction vs with
  | nil => intro xs o j h; unfold over; rw [if_neg (by simp only [List.length_nil]; omega)]
  | cons v vs ih =>
    intro xs o j h
    simp only [List.length_cons] at h
    unfold over
    rw [ih _ _ _ (by simp; omega)]
    by_cases h1 : o + 1 ≤ j ∧ j < o + 1 + vs.length
    · rw [if_pos h1, if_pos (by simp; omega), show j - o = (j - (o + 1)) + 1 by omega]
      simp
    · rw [if_neg h1]
      by_cases h2 : j = o
      · subst h2
        rw [if_pos (by simp)]
        rw [List.getElem?_set_self (by omega)]
        simp
      · rw [if_neg (by simp; omega), List.getElem?_set_ne (by omega)]
theorem own_setCells {base e s g n c : Nat} (vs : List Value) : ∀ (o : Nat) (xs : List Value) (w : World), w.ownsRow base e s (.slice (some ⟨g, 0, none⟩) n c) n xs →
    (w.setCells g o vs).ownsRow base e s (.slice (some ⟨g, 0, none⟩) n c) n (over xs o vs) ∧ w.grownBy (w.setCells g o vs) (some g) := by
  induction vs with
  | nil => intro o xs w h; exact ⟨h, ⟨rfl, rfl, rfl, Nat.le_refl _, fun _ _ _ => rfl⟩⟩
  | cons v vs ih =>
    intro o xs w h
    have h1 := h.stored o v
    have h2 := ih (o + 1) _ _ h1.1
    exact ⟨h2.1, ⟨h2.2.os.trans h1.2.os, h2.2.tape.trans h1.2.tape, h2.2.output.trans h1.2.output, Nat.le_trans h1.2.size h2.2.size, fun k hk hne => (h2.2.block k (Nat.lt_of_lt_of_le hk h1.2.size) hne).trans (h1.2.block k hk hne)⟩⟩
/-- The words of n pages, one behind the other. -/
def flat (W : Nat → Nat → Int) (n : Nat) : List Value := (List.range (n * 32)).map fun j => Value.int .u32 (W (j / 32) (j % 32))
theorem flat_len (W : Nat → Nat → Int) (n : Nat) : (flat W n).length = n * 32 := by simp [flat]
theorem flat_at (W : Nat → Nat → Int) (n i j : Nat) (hi : i < n) (hj : j < 32) : (flat W n)[i * 32 + j]? = some (.int .u32 (W i j)) := by
  have h1 : i * 32 + j < n * 32 := by omega
  have h2 : (i * 32 + j) / 32 = i := by omega
  have h3 : (i * 32 + j) % 32 = j := by omega
  simp [flat, h1, h2, h3]
/-- One page's first words anew. -/
def updW (W : Nat → Nat → Int) (i : Nat) (xs : List Int) : Nat → Nat → Int := fun a b => if a = i ∧ b < xs.length then xs.getD b 0 else W a b
theorem flat_over (W : Nat → Nat → Int) (n i : Nat) (xs : List Int) (hi : i < n) (hx : xs.length ≤ 32) : over (flat W n) (i * 32) (xs.map (Value.int .u32)) = flat (updW W i xs) n := by
  apply List.ext_getElem?
  intro j
  rw [over_get _ _ _ _ (by rw [flat_len, List.length_map]; omega), List.length_map]
  by_cases hj : j < n * 32
  · by_cases h : i * 32 ≤ j ∧ j < i * 32 + xs.length
    · rw [if_pos h]
      have h1 : j / 32 = i := by omega
      have h2 : j % 32 = j - i * 32 := by omega
      have h3 : j - i * 32 < xs.length := by omega
      simp [flat, hj, updW, h1, h2, h3]
    · rw [if_neg h]
      have : ¬ (j / 32 = i ∧ j % 32 < xs.length) := by omega
      simp only [flat, List.getElem?_map, List.getElem?_range hj, Option.map_some, updW, if_neg this]
  · rw [if_neg (by omega), List.getElem?_eq_none (by rw [flat_len]; omega), List.getElem?_eq_none (by rw [flat_len]; omega)]
/-- Pages lie at block P: their arena; their words at block G. -/
structure PgAt (w : World) (base P p B G n c : Nat) (th : Nat → Bool) (vr : Nat → Int) (W : Nat → Nat → Int) : Prop where
  pl : P < w.heap.size
  pb : base ≤ P
  f0 : w.cell? ⟨P, 0, none⟩ = some (.pointer (some ⟨p, 0, none⟩))
  f1 : w.cell? ⟨P, 1, none⟩ = some (.slice (some ⟨G, 0, none⟩) n n)
  ar : ArAt w base p B n c th vr
  row : w.ownsRow base 283 32 (.slice (some ⟨G, 0, none⟩) n n) n (flat W n)
  n1 : P ≠ B
  n2 : P ≠ G
  n3 : G ≠ B
  n4 : G ≠ p
section
variable {w w' : World} {base P p B G n c : Nat} {th th' : Nat → Bool} {vr vr' : Nat → Int} {W W' : Nat → Nat → Int}
theorem PgAt.below (h : PgAt w base P p B G n c th vr W) (hb : Below w.heap.size w w') : PgAt w' base P p B G n c th vr W :=
  ⟨Nat.lt_of_lt_of_le h.pl hb.size, h.pb, (hb.cell (p := ⟨P, 0, none⟩) h.pl).trans h.f0, (hb.cell (p := ⟨P, 1, none⟩) h.pl).trans h.f1, h.ar.below hb, own_below h.row hb, h.n1, h.n2, h.n3, h.n4⟩
theorem PgAt.turn (h : PgAt w base P p B G n c th vr W) (hA : ArAt w' base p B n c th' vr') (hg : w.grownBy w' (some B)) : PgAt w' base P p B G n c th' vr' W :=
  ⟨Nat.lt_of_lt_of_le h.pl hg.size, h.pb, (World.cell?_of_block (a := ⟨P, 0, none⟩) (hg.block P h.pl (fun e => h.n1 (by injection e)))).trans h.f0, (World.cell?_of_block (a := ⟨P, 1, none⟩) (hg.block P h.pl (fun e => h.n1 (by injection e)))).trans h.f1, hA, h.row.kept hg (.inr (fun e => h.n3 (by simpa [Value.ownBlock] using e))), h.n1, h.n2, h.n3, h.n4⟩
theorem PgAt.words (h : PgAt w base P p B G n c th vr W) (i : Nat) (hi : i < n) (xs : List Int) (hx : xs.length ≤ 32) : PgAt (w.setCells G (i * 32) (xs.map (Value.int .u32))) base P p B G n c th vr (updW W i xs) ∧ w.grownBy (w.setCells G (i * 32) (xs.map (Value.int .u32))) (some G) := by
  have hs := own_setCells (xs.map (Value.int .u32)) (i * 32) _ _ h.row
  rw [flat_over W n i xs hi hx] at hs
  exact ⟨⟨Nat.lt_of_lt_of_le h.pl hs.2.size, h.pb, (World.cell?_of_block (a := ⟨P, 0, none⟩) (hs.2.block P h.pl (fun e => h.n2 (by injection e)))).trans h.f0, (World.cell?_of_block (a := ⟨P, 1, none⟩) (hs.2.block P h.pl (fun e => h.n2 (by injection e)))).trans h.f1, h.ar.kept hs.2 (Ne.symm h.n4) (Ne.symm h.n3), hs.1, h.n1, h.n2, h.n3, h.n4⟩, hs.2⟩
theorem PgAt.word (h : PgAt w base P p B G n c th vr W) (i j : Nat) (hi : i < n) (hj : j < 32) : w.cell? ⟨G, i * 32 + j, none⟩ = some (.int .u32 (W i j)) := by
  rw [h.row.cellAt (i * 32 + j) (by omega), flat_at W n i j hi hj]
theorem PgAt.congr (h : PgAt w base P p B G n c th vr W) (h1 : ∀ i, i < n → th i = th' i) (h2 : ∀ i, i < n → vr i = vr' i) : PgAt w base P p B G n c th' vr' W := ⟨h.pl, h.pb, h.f0, h.f1, h.ar.congr h1 h2, h.row, h.n1, h.n2, h.n3, h.n4⟩
theorem PgAt.clear (h : PgAt w base P p B G n c th vr W) (i : Nat) (hi : i < n) : ∃ w1, (∀ ty, (Builtin.clear_ #[42] ty #[.slice (some ⟨G, i * 32, none⟩) 32 32]).run Tryz.prog w = .ok (.tuple #[]) w1) ∧ PgAt w1 base P p B G n c th vr (updW W i (List.replicate 32 0)) ∧ w.grownBy w1 (some G) := by
  have hs := h.words i hi (List.replicate 32 0) (by simp)
  refine ⟨_, fun ty => ?_, hs⟩
  have := Lib.run_clear_slice (P := Tryz.prog) w 42 26 ty (.int .u32 0) Tryz.underlying42 zeroU32 rfl rfl G (i * 32) 32 32 (by decide) (fun j hj => by rw [h.word i j hi hj]; rfl) (fun j hj => h.row.frozenAt _)
  rw [this, List.map_replicate]
theorem PgAt.copy (h : PgAt w base P p B G n c th vr W) (i : Nat) (hi : i < n) (a : Option Addr) (m c2 : Nat) (xs : List Int) (hm : xs.length = m) (hx : m ≤ 32) (ha : ∀ j, j < m → ∃ ad, a = some ad ∧ w.cell? (ad.add j) = some (.int .u32 (xs.getD j 0))) :
    ∃ w1, (∀ ty, (Builtin.copy_ #[42, 42] ty #[.slice (some ⟨G, i * 32, none⟩) 32 32, .slice a m c2]).run Tryz.prog w = .ok (goInt m) w1) ∧ PgAt w1 base P p B G n c th vr (updW W i xs) ∧ w.grownBy w1 (some G) := by
  by_cases h0 : m = 0
  · subst h0
    obtain rfl : xs = [] := List.length_eq_zero_iff.1 hm
    refine ⟨w, fun ty => run_copy_none (P := Tryz.prog) w 42 42 ty 26 _ a 32 32 0 c2 Tryz.underlying42 infoU32 rfl, ?_, ⟨rfl, rfl, rfl, Nat.le_refl _, fun _ _ _ => rfl⟩⟩
    have e : updW W i [] = W := by funext a b; simp [updW]
    rw [e]
    exact h
  · have hs := h.words i hi xs (by omega)
    obtain ⟨ad, rfl, _⟩ := ha 0 (by omega)
    refine ⟨_, fun ty => ?_, hs⟩
    have := run_copy_cells (P := Tryz.prog) w 42 42 ty 26 G (i * 32) 32 32 ad m c2 (xs.map (Value.int .u32)) Tryz.underlying42 infoU32 (by rw [List.length_map, hm]; exact (Nat.min_eq_left hx).symm) (fun j v hj => by
        have hjm : j < m := by
          rcases Nat.lt_or_ge j m with h' | h'
          · exact h'
          · rw [List.getElem?_eq_none (by rw [List.length_map]; omega)] at hj; cases hj
        obtain ⟨ad', e1, e2⟩ := ha j hjm
        obtain rfl : ad = ad' := by injection e1
        rw [e2]
        have : j < xs.length := by omega
        simp [this] at hj
        simp [List.getD, this, hj]) (fun j hj => by rw [h.word i j hi (by rw [List.length_map] at hj; omega)]; rfl) (fun j hj => h.row.frozenAt _) (fun v hv => by
        obtain ⟨x, _, rfl⟩ := List.mem_map.1 hv
        rfl)
    rw [this, List.length_map, hm]
end
end Go.Proofs.YtllcakiomihipaaGreatDoor
namespace Go.Proofs.YtllcakiomihipaaGreatDoor
open Go.ChangeShapes Go.WideShapes Go.ChangeAt Go.RowKit
set_option linter.unusedVariables false
theorem flat_made (n : Nat) : (madeCells (Array.replicate 32 (Value.int .u32 0)) (n * 32)).toList = flat (fun _ _ => 0) n := by
  apply List.ext_getElem?
  intro j
  by_cases hj : j < n * 32
  · have h : j % 32 < 32 := Nat.mod_lt _ (by decide)
    simp [madeCells, flat, hj, h]
  · rw [List.getElem?_eq_none (by simp [size_madeCells]; omega), List.getElem?_eq_none (by rw [flat_len]; omega)]
set_option maxRecDepth 100000 in
theorem pnew_ok (x : Int) (n : Nat) (hx : Hid (x = n)) (h1 : 1 ≤ n) (h2 : n ≤ 256) (w : World) :
    Calls Tryz.prog 160 #[.int .i64 x] w fun e w' => ∃ P p B G, e = .returned (.tuple #[.pointer (some ⟨P, 0, none⟩), .nilIface]) ∧ PgAt w' w.heap.size P p B G n n (fun _ => false) (fun _ => 0) (fun _ _ => 0) ∧ Below w.heap.size w w' := by
  rw [hx.out]
  obtain ⟨i0, hi, hz0, hz1, hz2⟩ := info_parts infoSheet
  have HI := Lib.hid (⟨hi, hz0, hz1, hz2⟩ : Tryz.prog.info? 283 = some i0 ∧ i0.zero = some (.agg (Array.replicate 32 (.int .u32 0))) ∧ i0.size = 32 ∧ i0.bytes = 128)
  clear hi hz0 hz1 hz2 hx
  go_enter Tryz.func160, Tryz.ntmps160
  go_wp2_with (first
    | (go_at_call 110; (with_reducible refine (anew_at _ n (Lib.hid rfl) h1 h2 _).mono ?_); rintro e w1 ⟨p, B, rfl, hA, hb⟩; have HA := Lib.hid hA; have HB := Lib.hid hb; clear hA hb)
    | (at_make; refine wpList_make_full _ rfl _ _ 156 rfl w.heap.size 283 i0 (.agg (Array.replicate 32 (.int .u32 0))) 32 Tryz.underlying156 HI.out.1 HI.out.2.1 HI.out.2.2.1 .i64 .i64 _ _ n rfl rfl rfl rfl ?b2 ?b3 ?b4 ?_))
  case b2 => rw [HI.out.2.2.2]; omega
  case b3 => unfold maxLen; omega
  case b4 => exact HB.out.size
  intro w2 hown hgrow
  rw [flat_made] at hown
  have HO := Lib.hid hown
  have HG := Lib.hid (show Below w1.heap.size w1 w2 from (Below.refl _ _).grown hgrow (Nat.le_refl _) (fun k hk => by cases hk))
  clear hown hgrow
  go_wp2_with fail
  go_ret2
  have hp := HA.out.pl
  have hB := HA.out.lt
  have hG := (HO.out.lt w1.heap.size rfl)
  have hs := HG.out.size
  have hs1 := HB.out.size
  have h2' : ∀ o, Below w2.heap.size w2 (w2.alloc o) := fun o => (Below.refl _ _).alloc (Nat.le_refl _) o
  exact ⟨_, p, B, w1.heap.size, rfl, ⟨by simp, by omega, by simp, by simp, (HA.out.below HG.out).below (h2' _), HO.out.alloc _, by omega, by omega, by omega, by omega⟩, (HB.out.trans (HG.out.mono HB.out.size)).alloc (Nat.le_trans HB.out.size HG.out.size) _⟩
/-- Words in a row, apart from the pages. -/
structure SrcU (w : World) (a : Option Addr) (xs : List Int) (B G : Nat) : Prop where
  src : ∀ j, j < xs.length → ∃ ad, a = some ad ∧ ad.block < w.heap.size ∧ ad.block ≠ B ∧ ad.block ≠ G ∧ w.cell? (ad.add j) = some (.int .u32 (xs.getD j 0))
theorem SrcU.kept {w w' : World} {a : Option Addr} {xs : List Int} {B G g : Nat} (h : SrcU w a xs B G) (hg : w.grownBy w' (some g)) (hB : g = B ∨ g = G) : SrcU w' a xs B G := ⟨fun j hj => by
  obtain ⟨ad, h1, h2, h3, h4, h5⟩ := h.src j hj
  refine ⟨ad, h1, Nat.lt_of_lt_of_le h2 hg.size, h3, h4, (World.cell?_of_block (a := ad.add j) ?_).trans h5⟩
  rw [add_block']
  exact hg.block _ h2 (fun e => by injection e with e; rcases hB with rfl | rfl; exact h3 e; exact h4 e)⟩
/-- What a page of these words is. -/
def fresh (W : Nat → Nat → Int) (i : Nat) (xs : List Int) : Nat → Nat → Int := updW (updW W i (List.replicate 32 0)) i xs
def PBelow (w w' : World) (B G : Nat) : Prop := w'.os = w.os ∧ w'.tape = w.tape ∧ w'.output = w.output ∧ w.heap.size ≤ w'.heap.size ∧ ∀ k, k < w.heap.size → k ≠ B → k ≠ G → w'.heap[k]? = w.heap[k]?
theorem PBelow.of {w w' : World} {B G g : Nat} (h : w.grownBy w' (some g)) (hB : g = B ∨ g = G) : PBelow w w' B G := ⟨h.os, h.tape, h.output, h.size, fun k hk h1 h2 => h.block k hk (fun e => by injection e with e; rcases hB with rfl | rfl; exact h1 e; exact h2 e)⟩
theorem PBelow.of_below {w w' : World} {B G : Nat} (h : Below w.heap.size w w') : PBelow w w' B G := ⟨h.os, h.tape, h.output, h.size, fun k hk _ _ => h.block k hk⟩
theorem PBelow.trans {w w' w'' : World} {B G : Nat} (h : PBelow w w' B G) (h2 : PBelow w' w'' B G) : PBelow w w'' B G :=
  ⟨h2.1.trans h.1, h2.2.1.trans h.2.1, h2.2.2.1.trans h.2.2.1, Nat.le_trans h.2.2.2.1 h2.2.2.2.1, fun k hk h3 h4 => (h2.2.2.2.2 k (Nat.lt_of_lt_of_le hk h.2.2.2.1) h3 h4).trans (h.2.2.2.2 k hk h3 h4)⟩
theorem PBelow.below {w w' : World} {B G b : Nat} (h : PBelow w w' B G) (hB : b ≤ B) (hG : b ≤ G) (hb : b ≤ w.heap.size) : Below b w w' := ⟨h.1, h.2.1, h.2.2.1, h.2.2.2.1, fun k hk => h.2.2.2.2 k (by omega) (by omega) (by omega)⟩
end Go.Proofs.YtllcakiomihipaaGreatDoor
namespace Go.Proofs.YtllcakiomihipaaGreatDoor
open Go.ChangeShapes Go.WideShapes Go.ChangeAt Go.RowKit
set_option linter.unusedVariables false
/-- The cells of n meters: parent, ticks. -/
def mtc (th : Nat → Int) (vr : Nat → Int) : Nat → List Value
  | 0 => []
  | n + 1 => mtc th vr n ++ [.int .i64 (th n), .int .i64 (vr n)]
theorem mtc_len (th : Nat → Int) (vr : Nat → Int) (n : Nat) : (mtc th vr n).length = n * 2 := by
  induction n with
  | zero => rfl
  | succ n ih => simp [mtc, ih]; omega
theorem mtc_at0 (th : Nat → Int) (vr : Nat → Int) (n i : Nat) (hi : i < n) : (mtc th vr n)[i * 2]? = some (.int .i64 (th i)) := by
  induction n with
  | zero => omega
  | succ n ih =>
    unfold mtc
    by_cases h : i = n
    · subst h
      rw [List.getElem?_append_right (by rw [mtc_len]; omega), mtc_len]
      simp
    · rw [List.getElem?_append_left (by rw [mtc_len]; omega)]
      exact ih (by omega)
theorem mtc_at1 (th : Nat → Int) (vr : Nat → Int) (n i : Nat) (hi : i < n) : (mtc th vr n)[i * 2 + 1]? = some (.int .i64 (vr i)) := by
  induction n with
  | zero => omega
  | succ n ih =>
    unfold mtc
    by_cases h : i = n
    · subst h
      rw [List.getElem?_append_right (by rw [mtc_len]; omega), mtc_len]
      simp
    · rw [List.getElem?_append_left (by rw [mtc_len]; omega)]
      exact ih (by omega)
theorem mtc_congr {th th' : Nat → Int} {vr vr' : Nat → Int} (n : Nat) (h1 : ∀ i, i < n → th i = th' i) (h2 : ∀ i, i < n → vr i = vr' i) : mtc th vr n = mtc th' vr' n := by
  induction n with
  | zero => rfl
  | succ n ih =>
    unfold mtc
    rw [ih (fun i hi => h1 i (by omega)) (fun i hi => h2 i (by omega)), h1 n (by omega), h2 n (by omega)]
theorem mtc_set1 (th : Nat → Int) (vr : Nat → Int) (n i : Nat) (hi : i < n) (v : Int) : (mtc th vr n).set (i * 2 + 1) (.int .i64 v) = mtc th (upd vr i v) n := by
  induction n with
  | zero => omega
  | succ n ih =>
    unfold mtc
    by_cases h : i = n
    · subst h
      rw [List.set_append_right _ _ (by rw [mtc_len]; omega), mtc_len, upd_at]
      rw [mtc_congr (vr := upd vr i v) (vr' := vr) (th' := th) i (fun _ _ => rfl) (fun j hj => upd_other _ _ _ _ (by omega))]
      rw [show i * 2 + 1 - i * 2 = 1 by omega]
      rfl
    · rw [List.set_append_left _ _ (by rw [mtc_len]; omega), ih (by omega), upd_other _ _ _ _ (by omega)]
theorem infoMeter : (Tryz.prog.info? 252).map (fun i => (i.zero, i.size, i.bytes)) = some (some (.agg #[.int .i64 0, .int .i64 0]), 2, 16) := by kernel_rfl
theorem mtc_made (n : Nat) : (madeCells #[Value.int .i64 0, Value.int .i64 0] (n * 2)).toList = mtc (fun _ => 0) (fun _ => 0) n := by
  apply List.ext_getElem?
  intro j
  by_cases hj : j < n * 2
  · have e : (madeCells #[Value.int .i64 0, Value.int .i64 0] (n * 2)).toList[j]? = some ((#[Value.int .i64 0, Value.int .i64 0] : Array Value)[j % 2]!) := by
      simp [madeCells, hj]
    rw [e]
    obtain ⟨i, hi⟩ : ∃ i, j = i * 2 ∨ j = i * 2 + 1 := ⟨j / 2, by omega⟩
    rcases hi with rfl | rfl
    · rw [mtc_at0 _ _ n i (by omega), show i * 2 % 2 = 0 by omega]
      rfl
    · rw [mtc_at1 _ _ n i (by omega), show (i * 2 + 1) % 2 = 1 by omega]
      rfl
  · rw [List.getElem?_eq_none (by simp [size_madeCells]; omega), List.getElem?_eq_none (by rw [mtc_len]; omega)]
/-- Meters lie at block P: their arena; parents and ticks at block G. -/
structure MtAt (w : World) (base P p B G n c : Nat) (th : Nat → Bool) (vr pr tk : Nat → Int) : Prop where
  pl : P < w.heap.size
  pb : base ≤ P
  f0 : w.cell? ⟨P, 0, none⟩ = some (.pointer (some ⟨p, 0, none⟩))
  f1 : w.cell? ⟨P, 1, none⟩ = some (.slice (some ⟨G, 0, none⟩) n n)
  ar : ArAt w base p B n c th vr
  row : w.ownsRow base 252 2 (.slice (some ⟨G, 0, none⟩) n n) n (mtc pr tk n)
  n1 : P ≠ B
  n2 : P ≠ G
  n3 : G ≠ B
  n4 : G ≠ p
section
variable {w w' : World} {base P p B G n c : Nat} {th th' : Nat → Bool} {vr vr' pr pr' tk tk' : Nat → Int}
theorem MtAt.below (h : MtAt w base P p B G n c th vr pr tk) (hb : Below w.heap.size w w') : MtAt w' base P p B G n c th vr pr tk :=
  ⟨Nat.lt_of_lt_of_le h.pl hb.size, h.pb, (hb.cell (p := ⟨P, 0, none⟩) h.pl).trans h.f0, (hb.cell (p := ⟨P, 1, none⟩) h.pl).trans h.f1, h.ar.below hb, own_below h.row hb, h.n1, h.n2, h.n3, h.n4⟩
theorem MtAt.turn (h : MtAt w base P p B G n c th vr pr tk) (hA : ArAt w' base p B n c th' vr') (hg : w.grownBy w' (some B)) : MtAt w' base P p B G n c th' vr' pr tk :=
  ⟨Nat.lt_of_lt_of_le h.pl hg.size, h.pb, (World.cell?_of_block (a := ⟨P, 0, none⟩) (hg.block P h.pl (fun e => h.n1 (by injection e)))).trans h.f0, (World.cell?_of_block (a := ⟨P, 1, none⟩) (hg.block P h.pl (fun e => h.n1 (by injection e)))).trans h.f1, hA, h.row.kept hg (.inr (fun e => h.n3 (by simpa [Value.ownBlock] using e))), h.n1, h.n2, h.n3, h.n4⟩
theorem MtAt.at0 (h : MtAt w base P p B G n c th vr pr tk) (i : Nat) (hi : i < n) : w.cell? ⟨G, i * 2, none⟩ = some (.int .i64 (pr i)) := by
  rw [h.row.cellAt (i * 2) (by omega), mtc_at0 pr tk n i hi]
theorem MtAt.at1 (h : MtAt w base P p B G n c th vr pr tk) (i : Nat) (hi : i < n) : w.cell? ⟨G, i * 2 + 1, none⟩ = some (.int .i64 (tk i)) := by
  rw [h.row.cellAt (i * 2 + 1) (by omega), mtc_at1 pr tk n i hi]
theorem MtAt.put1 (h : MtAt w base P p B G n c th vr pr tk) (i : Nat) (hi : i < n) (x : Int) : MtAt (w.setCell ⟨G, i * 2 + 1, none⟩ (.int .i64 x)) base P p B G n c th vr pr (upd tk i x) ∧ w.grownBy (w.setCell ⟨G, i * 2 + 1, none⟩ (.int .i64 x)) (some G) := by
  have hs := h.row.stored (i * 2 + 1) (.int .i64 x)
  rw [mtc_set1 pr tk n i hi x] at hs
  exact ⟨⟨Nat.lt_of_lt_of_le h.pl hs.2.size, h.pb, (World.cell?_of_block (a := ⟨P, 0, none⟩) (hs.2.block P h.pl (fun e => h.n2 (by injection e)))).trans h.f0, (World.cell?_of_block (a := ⟨P, 1, none⟩) (hs.2.block P h.pl (fun e => h.n2 (by injection e)))).trans h.f1, h.ar.kept hs.2 (Ne.symm h.n4) (Ne.symm h.n3), hs.1, h.n1, h.n2, h.n3, h.n4⟩, hs.2⟩
theorem MtAt.congr (h : MtAt w base P p B G n c th vr pr tk) (h1 : ∀ i, i < n → th i = th' i) (h2 : ∀ i, i < n → vr i = vr' i) (h3 : ∀ i, i < n → pr i = pr' i) (h4 : ∀ i, i < n → tk i = tk' i) : MtAt w base P p B G n c th' vr' pr' tk' :=
  ⟨h.pl, h.pb, h.f0, h.f1, h.ar.congr h1 h2, by rw [← mtc_congr n h3 h4]; exact h.row, h.n1, h.n2, h.n3, h.n4⟩
end
set_option maxRecDepth 100000 in
theorem mtnew_ok (x : Int) (n : Nat) (hx : Hid (x = n)) (h1 : 1 ≤ n) (h2 : n ≤ 256) (w : World) :
    Calls Tryz.prog 78 #[.int .i64 x] w fun e w' => ∃ P p B G, e = .returned (.tuple #[.pointer (some ⟨P, 0, none⟩), .nilIface]) ∧ MtAt w' w.heap.size P p B G n n (fun _ => false) (fun _ => 0) (fun _ => 0) (fun _ => 0) ∧ Below w.heap.size w w' := by
  rw [hx.out]
  obtain ⟨i0, hi, hz0, hz1, hz2⟩ := info_parts infoMeter
  have HI := Lib.hid (⟨hi, hz0, hz1, hz2⟩ : Tryz.prog.info? 252 = some i0 ∧ i0.zero = some (.agg #[.int .i64 0, .int .i64 0]) ∧ i0.size = 2 ∧ i0.bytes = 16)
  clear hi hz0 hz1 hz2 hx
  go_enter Tryz.func78, Tryz.ntmps78
  go_wp2_with (first
    | (go_at_call 110; (with_reducible refine (anew_at _ n (Lib.hid rfl) h1 h2 _).mono ?_); rintro e w1 ⟨p, B, rfl, hA, hb⟩; have HA := Lib.hid hA; have HB := Lib.hid hb; clear hA hb)
    | (at_make; refine wpList_make_full _ rfl _ _ 109 rfl w.heap.size 252 i0 (.agg #[.int .i64 0, .int .i64 0]) 2 Tryz.underlying109 HI.out.1 HI.out.2.1 HI.out.2.2.1 .i64 .i64 _ _ n rfl rfl rfl rfl ?b2 ?b3 ?b4 ?_))
  case b2 => rw [HI.out.2.2.2]; omega
  case b3 => unfold maxLen; omega
  case b4 => exact HB.out.size
  intro w2 hown hgrow
  have HO : Hid (w2.ownsRow w.heap.size 252 2 (.slice (some ⟨w1.heap.size, 0, none⟩) n n) n (mtc (fun _ => 0) (fun _ => 0) n)) := Lib.hid (by rw [← mtc_made]; exact hown)
  have HG := Lib.hid (show Below w1.heap.size w1 w2 from (Below.refl _ _).grown hgrow (Nat.le_refl _) (fun k hk => by cases hk))
  clear hown hgrow
  go_wp2_with fail
  go_ret2
  have hp := HA.out.pl
  have hB := HA.out.lt
  have hG := (HO.out.lt w1.heap.size rfl)
  have hs := HG.out.size
  have hs1 := HB.out.size
  have h2' : ∀ o, Below w2.heap.size w2 (w2.alloc o) := fun o => (Below.refl _ _).alloc (Nat.le_refl _) o
  exact ⟨_, rfl, ⟨p, B, w1.heap.size, ⟨by simp, by omega, by simp, by simp, (HA.out.below HG.out).below (h2' _), HO.out.alloc _, by omega, by omega, by omega, by omega⟩⟩, (HB.out.trans (HG.out.mono HB.out.size)).alloc (Nat.le_trans HB.out.size HG.out.size) _⟩
/-- j, j - 1, .. : m of them. -/
def dn (j m : Nat) : List Int := (List.range m).map fun q : Nat => (j : Int) - q
end Go.Proofs.YtllcakiomihipaaGreatDoor
namespace Go.Proofs.YtllcakiomihipaaGreatDoor
open Go.ChangeShapes Go.WideShapes Go.ChangeAt Go.RowKit
set_option linter.unusedVariables false
theorem div_mid {s i j : Nat} (hj : j < s) : (i * s + j) / s = i ∧ (i * s + j) % s = j := by
  have h0 : 0 < s := by omega
  constructor
  · rw [Nat.add_comm, Nat.add_mul_div_right _ _ h0, Nat.div_eq_of_lt hj, Nat.zero_add]
  · rw [Nat.add_comm, Nat.add_mul_mod_self_right, Nat.mod_eq_of_lt hj]
theorem mid_lt {s n i j : Nat} (hi : i < n) (hj : j < s) : i * s + j < n * s := by
  have : (i + 1) * s ≤ n * s := Nat.mul_le_mul_right s hi
  rw [Nat.add_mul, Nat.one_mul] at this
  omega
/-- The cells of n places of s cells, one behind the other. -/
def flatS (s : Nat) (W : Nat → Nat → Value) (n : Nat) : List Value := (List.range (n * s)).map fun j => W (j / s) (j % s)
theorem flatS_len (s : Nat) (W : Nat → Nat → Value) (n : Nat) : (flatS s W n).length = n * s := by simp [flatS]
theorem flatS_at (s : Nat) (W : Nat → Nat → Value) (n i j : Nat) (hi : i < n) (hj : j < s) : (flatS s W n)[i * s + j]? = some (W i j) := by
  have h1 := mid_lt hi hj
  simp [flatS, h1, (div_mid (i := i) hj).1, (div_mid (i := i) hj).2]
/-- Some cells of one place anew, from its o-th on. -/
def updS (W : Nat → Nat → Value) (i o : Nat) (xs : List Value) : Nat → Nat → Value := fun a b => if a = i ∧ o ≤ b ∧ b < o + xs.length then xs.getD (b - o) (.int .i64 0) else W a b
theorem updS_in (W : Nat → Nat → Value) (i o : Nat) (xs : List Value) (q : Nat) (h : q < xs.length) : some (updS W i o xs i (o + q)) = xs[q]? := by
  unfold updS
  rw [if_pos ⟨rfl, by omega, by omega⟩, Nat.add_sub_cancel_left]
  simp [List.getD, h]
theorem flatS_over (s : Nat) (W : Nat → Nat → Value) (n i o : Nat) (xs : List Value) (hi : i < n) (hx : o + xs.length ≤ s) : over (flatS s W n) (i * s + o) xs = flatS s (updS W i o xs) n := by
  have hn : i * s + o + xs.length ≤ n * s := by
    have : (i + 1) * s ≤ n * s := Nat.mul_le_mul_right s hi
    rw [Nat.add_mul, Nat.one_mul] at this
    omega
  apply List.ext_getElem?
  intro j
  rw [over_get _ _ _ _ (by rw [flatS_len]; omega)]
  by_cases hj : j < n * s
  · have hs : 0 < s := by
      rcases Nat.eq_zero_or_pos s with h | h
      · rw [h, Nat.mul_zero] at hj; omega
      · exact h
    have hdm : j = j / s * s + j % s := by rw [Nat.mul_comm]; exact (Nat.div_add_mod j s).symm
    have hml : j % s < s := Nat.mod_lt _ hs
    by_cases h : i * s + o ≤ j ∧ j < i * s + o + xs.length
    · rw [if_pos h]
      have e : j = i * s + (j - i * s) := by omega
      have hl : j - i * s < s := by omega
      have h1 : j / s = i := by rw [e]; exact (div_mid hl).1
      have h2 : j % s = j - i * s := by rw [e, (div_mid hl).2]; omega
      have h3 : j - (i * s + o) < xs.length := by omega
      have h5 : j - i * s - o = j - (i * s + o) := by omega
      simp only [flatS, List.getElem?_map, List.getElem?_range hj, Option.map_some, updS, h1, h2]
      rw [if_pos ⟨trivial, by omega, by omega⟩, h5]
      simp [List.getD, h3]
    · rw [if_neg h]
      have : ¬ (j / s = i ∧ o ≤ j % s ∧ j % s < o + xs.length) := by
        rintro ⟨h1, h2, h3⟩
        rw [h1] at hdm
        omega
      simp only [flatS, List.getElem?_map, List.getElem?_range hj, Option.map_some, updS, if_neg this]
  · rw [if_neg (by omega), List.getElem?_eq_none (by rw [flatS_len]; omega), List.getElem?_eq_none (by rw [flatS_len]; omega)]
theorem flatS_made (z : List Value) (n : Nat) (h0 : 0 < z.length) : (madeCells z.toArray (n * z.length)).toList = flatS z.length (fun _ b => z.getD b (.int .i64 0)) n := by
  apply List.ext_getElem?
  intro j
  by_cases hj : j < n * z.length
  · have h : j % z.length < z.length := Nat.mod_lt _ h0
    have e : (madeCells z.toArray (n * z.length)).toList[j]? = some (z.toArray[j % z.length]!) := by
      simp [madeCells, hj]
    rw [e]
    simp [flatS, hj, h, List.getD]
  · rw [List.getElem?_eq_none (by simp [size_madeCells]; omega), List.getElem?_eq_none (by rw [flatS_len]; omega)]
/-- A pool lies at block P: its arena; its cells at block G. -/
structure PlAt (T : TypeId) (s : Nat) (w : World) (base P p B G n c : Nat) (th : Nat → Bool) (vr : Nat → Int) (W : Nat → Nat → Value) : Prop where
  pl : P < w.heap.size
  pb : base ≤ P
  f0 : w.cell? ⟨P, 0, none⟩ = some (.pointer (some ⟨p, 0, none⟩))
  f1 : w.cell? ⟨P, 1, none⟩ = some (.slice (some ⟨G, 0, none⟩) n n)
  ar : ArAt w base p B n c th vr
  row : w.ownsRow base T s (.slice (some ⟨G, 0, none⟩) n n) n (flatS s W n)
  n1 : P ≠ B
  n2 : P ≠ G
  n3 : G ≠ B
  n4 : G ≠ p
section
variable {T : TypeId} {s : Nat} {w w' : World} {base P p B G n c : Nat} {th th' : Nat → Bool} {vr vr' : Nat → Int} {W W' : Nat → Nat → Value}
theorem PlAt.below (h : PlAt T s w base P p B G n c th vr W) (hb : Below w.heap.size w w') : PlAt T s w' base P p B G n c th vr W :=
  ⟨Nat.lt_of_lt_of_le h.pl hb.size, h.pb, (hb.cell (p := ⟨P, 0, none⟩) h.pl).trans h.f0, (hb.cell (p := ⟨P, 1, none⟩) h.pl).trans h.f1, h.ar.below hb, own_below h.row hb, h.n1, h.n2, h.n3, h.n4⟩
theorem PlAt.turn (h : PlAt T s w base P p B G n c th vr W) (hA : ArAt w' base p B n c th' vr') (hg : w.grownBy w' (some B)) : PlAt T s w' base P p B G n c th' vr' W :=
  ⟨Nat.lt_of_lt_of_le h.pl hg.size, h.pb, (World.cell?_of_block (a := ⟨P, 0, none⟩) (hg.block P h.pl (fun e => h.n1 (by injection e)))).trans h.f0, (World.cell?_of_block (a := ⟨P, 1, none⟩) (hg.block P h.pl (fun e => h.n1 (by injection e)))).trans h.f1, hA, h.row.kept hg (.inr (fun e => h.n3 (by simpa [Value.ownBlock] using e))), h.n1, h.n2, h.n3, h.n4⟩
theorem PlAt.cells (h : PlAt T s w base P p B G n c th vr W) (i o : Nat) (hi : i < n) (xs : List Value) (hx : o + xs.length ≤ s) : PlAt T s (w.setCells G (i * s + o) xs) base P p B G n c th vr (updS W i o xs) ∧ w.grownBy (w.setCells G (i * s + o) xs) (some G) := by
  have hs := own_setCells xs (i * s + o) _ _ h.row
  rw [flatS_over s W n i o xs hi hx] at hs
  exact ⟨⟨Nat.lt_of_lt_of_le h.pl hs.2.size, h.pb, (World.cell?_of_block (a := ⟨P, 0, none⟩) (hs.2.block P h.pl (fun e => h.n2 (by injection e)))).trans h.f0, (World.cell?_of_block (a := ⟨P, 1, none⟩) (hs.2.block P h.pl (fun e => h.n2 (by injection e)))).trans h.f1, h.ar.kept hs.2 (Ne.symm h.n4) (Ne.symm h.n3), hs.1, h.n1, h.n2, h.n3, h.n4⟩, hs.2⟩
theorem PlAt.cell (h : PlAt T s w base P p B G n c th vr W) (i j : Nat) (hi : i < n) (hj : j < s) : w.cell? ⟨G, i * s + j, none⟩ = some (W i j) := by
  rw [h.row.cellAt (i * s + j) (mid_lt hi hj), flatS_at s W n i j hi hj]
theorem PlAt.gl (h : PlAt T s w base P p B G n c th vr W) : base ≤ G ∧ G < w.heap.size := h.row.lt G rfl
theorem PlAt.there (h : PlAt T s w base P p B G n c th vr W) (i o m : Nat) (hi : i < n) (hm : o + m ≤ s) : w.there G (i * s + o) m := fun j hj => by
  rw [Nat.add_assoc, h.cell i (o + j) hi (by omega)]
  exact ⟨rfl, h.row.frozenAt _⟩
theorem PlAt.range (h : PlAt T s w base P p B G n c th vr W) (i o : Nat) (xs : List Value) (hi : i < n) (hm : o + xs.length ≤ s) (hx : ∀ q v, xs[q]? = some v → W i (o + q) = v) : w.rangeAt G (i * s + o) xs := fun j v hv => by
  have hj : j < xs.length := (List.getElem?_eq_some_iff.1 hv).1
  rw [Nat.add_assoc, h.cell i (o + j) hi (by omega), hx j v hv]
theorem PlAt.congr (h : PlAt T s w base P p B G n c th vr W) (h1 : ∀ i, i < n → th i = th' i) (h2 : ∀ i, i < n → vr i = vr' i) : PlAt T s w base P p B G n c th' vr' W := ⟨h.pl, h.pb, h.f0, h.f1, h.ar.congr h1 h2, h.row, h.n1, h.n2, h.n3, h.n4⟩
/-- Blocks of its own apart, all is as it was: the same pool. -/
theorem PlAt.far (h : PlAt T s w base P p B G n c th vr W) {row : Option Nat} (hg : w.grownBy w' row) (h0 : row ≠ some P) (h1 : row ≠ some p) (h2 : row ≠ some B) (h3 : row ≠ some G) : PlAt T s w' base P p B G n c th vr W := by
  have hP := hg.block P h.pl (Ne.symm h0)
  have hp := hg.block p h.ar.pl (Ne.symm h1)
  exact ⟨Nat.lt_of_lt_of_le h.pl hg.size, h.pb, (World.cell?_of_block (a := ⟨P, 0, none⟩) hP).trans h.f0, (World.cell?_of_block (a := ⟨P, 1, none⟩) hP).trans h.f1,
    ⟨Nat.lt_of_lt_of_le h.ar.pl hg.size, h.ar.pb, (World.cell?_of_block (a := ⟨p, 0, none⟩) hp).trans h.ar.fld, h.ar.own.kept hg (.inr (fun e => h2 (by rw [← e]; rfl))), h.ar.ne, h.ar.le⟩,
    h.row.kept hg (.inr (fun e => h3 (by rw [← e]; rfl))), h.n1, h.n2, h.n3, h.n4⟩
end
end Go.Proofs.YtllcakiomihipaaGreatDoor
namespace Go.Proofs.YtllcakiomihipaaGreatDoor
open Go.Joins Go.ChangeShapes Go.WideShapes Go.ChangeAt Go.RowKit Go.Deep
set_option linter.unusedVariables false
/-- A slice of structs of integers that came in: nil, or 'cap' rows, the first 'len' its elements. -/
def IsRows (ks : List IntKind) (w : World) (a : Option Addr) (len cap : Nat) (zs : List (List Int)) : Prop :=
  (a = none ∧ len = 0 ∧ cap = 0 ∧ zs = []) ∨
  ∃ x, a = some x ∧ len ≤ cap ∧ cap ≤ maxLen ∧ zs.length = cap ∧ ∀ i, i < zs.length → ∀ j k, ks[j]? = some k → w.cell? (x.add (i * ks.length + j)) = some (.int k ((zs.getD i []).getD j 0)) ∧ (Lit.int k ((zs.getD i []).getD j 0)).wf = true
section
variable {H : Type} {enc : TypeId × Value → H} {P : Program} {w : World} {base : Nat} {held : Bool}
theorem open_rows {t e : TypeId} {fs : Array Field} {fuel : Nat} {a : Option Addr} {len cap : Nat} {x : DataW H × List MemPlace} {ks : List IntKind} (ht : P.underlying t = some (.slice e)) (he : P.underlying e = some (.struct fs))
    (hone : oneCellFields P fs = true) (hC : P.cellsOf e = ks.length) (hfk : fs.size = ks.length) (hk : ∀ (j : Nat) (f : Field), fs[j]? = some f → ∃ k, ks[j]? = some k ∧ P.underlying f.type = some (.int k))
    (h : DataW.trod enc P w base (fun _ => true) held fuel t (Value.slice a len cap).cells.toList = some x) : ∃ zs, IsRows ks w a len cap zs := by
  rcases open_slice ht h with h0 | ⟨y, l, c, m, n, D, Pl, hcs, hb, hl, hm, hmm, hx, hi⟩
  · simp [Value.cells] at h0
    obtain ⟨⟨rfl, rfl, rfl⟩, _⟩ := h0
    exact ⟨[], .inl ⟨rfl, rfl, rfl, rfl⟩⟩
  · simp [Value.cells] at hcs
    obtain ⟨rfl, rfl, rfl⟩ := hcs
    have hmc : m = cap := by simpa using hmm
    have key : ∀ i, i < m → ∃ z : List Int, ∀ j k, ks[j]? = some k → w.cell? (y.add (i * ks.length + j)) = some (.int k (z.getD j 0)) ∧ (Lit.int k (z.getD j 0)).wf = true := by
      intro i him
      obtain ⟨cs', hc, ht'⟩ := hi i him
      rw [hC] at hc
      obtain ⟨ys, n', hn', hy, hlen, hyl, hf⟩ := DataW.trod_struct he ht'
      obtain ⟨_, hcl, hat⟩ := World.cells?_some hc
      have one : ∀ j, j < ks.length → ∃ v : Int, ∀ k, ks[j]? = some k → w.cell? (y.add (i * ks.length + j)) = some (.int k v) ∧ (Lit.int k v).wf = true := by
        intro j hj
        have hjl : j < fs.size := by omega
        have hjf : fs[j]? = some fs[j] := Array.getElem?_eq_getElem hjl
        obtain ⟨k, hks, hu⟩ := hk j _ hjf
        obtain ⟨ho, hkk⟩ := hone_of hone j _ hjf
        have hcell := hat j hj
        have hv : cs'[j]? = some (cs'[j]'(by omega)) := List.getElem?_eq_getElem (by omega)
        have h1 := hf j _ hjf
        rw [ho, hkk] at h1
        have hone' : (cs'.drop j).take 1 = [cs'[j]'(by omega)] := by
          rw [List.drop_eq_getElem_cons (by omega)]
          rfl
        rw [hone'] at h1
        have hys : ys[j]? = some (ys[j]'(by omega)) := List.getElem?_eq_getElem (by omega)
        obtain ⟨v, e1, _, hw⟩ := DataW.trod_int hu (h1.trans hys)
        simp at e1
        refine ⟨v, fun k' hk' => ?_⟩
        obtain rfl := Option.some.inj (hks.symm.trans hk')
        refine ⟨?_, hw⟩
        rw [← Go.Deep.add_add, hcell, hv, e1]
      have pick : ∀ n, n ≤ ks.length → ∃ z : List Int, z.length = n ∧ ∀ j, j < n → ∀ k, ks[j]? = some k → w.cell? (y.add (i * ks.length + j)) = some (.int k (z.getD j 0)) ∧ (Lit.int k (z.getD j 0)).wf = true := by
        intro n
        induction n with
        | zero => intro _; exact ⟨[], rfl, fun j hj => by omega⟩
        | succ n ih =>
          intro hn
          obtain ⟨z, hz, hzz⟩ := ih (by omega)
          obtain ⟨v, hv⟩ := one n (by omega)
          refine ⟨z ++ [v], by simp [hz], fun j hj k hk' => ?_⟩
          by_cases hjn : j < n
          · have e : (z ++ [v]).getD j 0 = z.getD j 0 := by simp [List.getD, List.getElem?_append, hz, hjn]
            rw [e]; exact hzz j hjn k hk'
          · obtain rfl : j = n := by omega
            have e : (z ++ [v]).getD j 0 = v := by simp [List.getD, ← hz]
            rw [e]; exact hv k hk'
      obtain ⟨z, hz, hzz⟩ := pick ks.length (Nat.le_refl _)
      exact ⟨z, fun j k hjk => hzz j ((List.getElem?_eq_some_iff.1 hjk).1) k hjk⟩
    have all : ∀ n, n ≤ m → ∃ zs : List (List Int), zs.length = n ∧ ∀ i, i < n → ∀ j k, ks[j]? = some k → w.cell? (y.add (i * ks.length + j)) = some (.int k ((zs.getD i []).getD j 0)) ∧ (Lit.int k ((zs.getD i []).getD j 0)).wf = true := by
      intro n
      induction n with
      | zero => intro _; exact ⟨[], rfl, fun i hi => by omega⟩
      | succ n ih =>
        intro hn
        obtain ⟨zs, hz, hzz⟩ := ih (by omega)
        obtain ⟨z, hv⟩ := key n (by omega)
        refine ⟨zs ++ [z], by simp [hz], fun i hi j k hk' => ?_⟩
        by_cases hin : i < n
        · have e : (zs ++ [z]).getD i [] = zs.getD i [] := by simp [List.getD, List.getElem?_append, hz, hin]
          rw [e]; exact hzz i hin j k hk'
        · obtain rfl : i = n := by omega
          have e : (zs ++ [z]).getD i [] = z := by simp [List.getD, ← hz]
          rw [e]; exact hv j k hk'
    obtain ⟨zs, hz, hzz⟩ := all m (Nat.le_refl _)
    exact ⟨zs, .inr ⟨_, rfl, hl, hm, by omega, fun i hi => hzz i (by omega)⟩⟩
end

section
variable {P : Program}
/-- copy where an element has s cells: dst's block known whole. -/
theorem run_copy_wide (w : World) (dT sT ty elem : TypeId) (s g o dLen dCap : Nat) (a : Addr) (sLen sCap : Nat) (cur : Array Value) (t : TypeId) (cs : List Value)
    (hu : P.underlying dT = some (.slice elem)) (hs : (P.info? elem).map (·.size) = some s)
    (hg : w.heap[g]? = some (.cells cur t (0, 0))) (hn : cs.length = Nat.min sLen dLen * s)
    (hsrc : ∀ j v, cs[j]? = some v → w.cell? (a.add j) = some v) (hfit : o + cs.length ≤ cur.size) (h1 : ∀ v ∈ cs, v.oneCell' = true) :
    (Builtin.copy_ #[dT, sT] ty #[.slice (some ⟨g, o, none⟩) dLen dCap, .slice (some a) sLen sCap]).run P w =
      .ok (goInt (Nat.min sLen dLen)) (w.setRow g (cur.toList.take o ++ cs ++ cur.toList.drop (o + cs.length)).toArray) := by
  have hl := run_loadCells_list (P := P) w a cs hsrc
  have hst := run_storeCells_at P g o t cs 0 cur w hg (by simpa using hfit) h1
  cases hq : P.info? elem with
  | none => simp [hq] at hs
  | some i =>
    have hi : i.size = s := by simpa [hq] using hs
    rw [hn] at hl
    simp [Builtin.copy_, run_underlying hu, Builtin.lenOf, Builtin.firstCells, sizeOf, typeInfo, hq, hi, hl, hst]
theorem run_copy_wide_none (w : World) (dT sT ty elem : TypeId) (s : Nat) (d a : Option Addr) (dLen dCap sLen sCap : Nat) (hu : P.underlying dT = some (.slice elem)) (hs : (P.info? elem).map (·.size) = some s) (hn : Nat.min sLen dLen = 0) :
    (Builtin.copy_ #[dT, sT] ty #[.slice d dLen dCap, .slice a sLen sCap]).run P w = .ok (goInt 0) w := by
  cases hq : P.info? elem with
  | none => simp [hq] at hs
  | some i =>
    have hl : ∀ (x : Addr), (loadCells x 0).run P w = .ok #[] w := fun x => by simpa using run_loadCells_list (P := P) w x [] (by simp)
    cases d <;> cases a <;> simp [Builtin.copy_, run_underlying hu, Builtin.lenOf, Builtin.firstCells, sizeOf, typeInfo, hq, hn, storeCells, hl]
end
end Go.Proofs.YtllcakiomihipaaGreatDoor
namespace Go.Proofs.YtllcakiomihipaaGreatDoor
open Go.ChangeShapes Go.WideShapes Go.ChangeAt Go.RowKit
set_option linter.unusedVariables false
/-- A cell of nothing. -/
def zc (b : Nat) : Value := if b % 5 = 4 then .int .u32 0 else .int .i64 0
def zs80 : List Value := (List.range 80).map zc
theorem infoSlots : (Tryz.prog.info? 32).map (fun i => (i.zero, i.size, i.bytes)) = some (some (.agg zs80.toArray), 80, 640) := by kernel_rfl
theorem infoKey5 : (Tryz.prog.info? 31).map (·.size) = some 5 := by kernel_rfl
def keyZ : Value := .agg #[.int .i64 0, .int .i64 0, .int .i64 0, .int .i64 0, .int .u32 0]
theorem zeroKeyR (w : World) : (zeroValue 31).run Tryz.prog w = .ok keyZ w := by kernel_rfl
theorem zero16 : (Builtin.zeroCells keyZ.cells 16).toList = zs80 := by kernel_rfl
theorem zs80_len : zs80.length = 80 := by simp [zs80]
theorem zc_one (b : Nat) : (zc b).oneCell' = true := by unfold zc; split <;> rfl
section
variable {P : Program}
theorem run_copy_cells_wide (w : World) (dT sT ty elem : TypeId) (s b o dLen dCap : Nat) (a : Addr) (sLen sCap : Nat) (cs : List Value)
    (hu : P.underlying dT = some (.slice elem)) (hs : (P.info? elem).map (·.size) = some s) (hn : cs.length = Nat.min sLen dLen * s)
    (hsrc : ∀ j v, cs[j]? = some v → w.cell? (a.add j) = some v) (hc : ∀ j, j < cs.length → (w.cell? ⟨b, o + j, none⟩).isSome = true) (hf : ∀ j, j < cs.length → w.frozen? ⟨b, o + j, none⟩ = false) (h1 : ∀ v ∈ cs, v.oneCell' = true) :
    (Builtin.copy_ #[dT, sT] ty #[.slice (some ⟨b, o, none⟩) dLen dCap, .slice (some a) sLen sCap]).run P w = .ok (goInt (Nat.min sLen dLen)) (w.setCells b o cs) := by
  have hl := run_loadCells_list (P := P) w a cs hsrc
  have hst := run_storeCells_cells (P := P) b o cs 0 w (by simpa using hc) (by simpa using hf) h1
  cases hq : P.info? elem with
  | none => simp [hq] at hs
  | some i =>
    have hi : i.size = s := by simpa [hq] using hs
    rw [hn] at hl
    simp [Builtin.copy_, run_underlying hu, Builtin.lenOf, Builtin.firstCells, sizeOf, typeInfo, hq, hi, hl, hst]
theorem run_clear_wide (w : World) (t e ty : TypeId) (z : Value) (ht : P.underlying t = some (.slice e)) (hv : ∀ w, (zeroValue e).run P w = .ok z w) (b o n c : Nat) (hn : 0 < n) (cs : List Value) (hz : (Builtin.zeroCells z.cells n).toList = cs)
    (hc : ∀ j, j < cs.length → (w.cell? ⟨b, o + j, none⟩).isSome = true) (hf : ∀ j, j < cs.length → w.frozen? ⟨b, o + j, none⟩ = false) (h1 : ∀ v ∈ cs, v.oneCell' = true) :
    (Builtin.clear_ #[t] ty #[.slice (some ⟨b, o, none⟩) n c]).run P w = .ok (.tuple #[]) (w.setCells b o cs) := by
  have hst := run_storeCells_cells (P := P) b o cs 0 w (by simpa using hc) (by simpa using hf) h1
  simp only [Nat.add_zero] at hst
  obtain ⟨m, rfl⟩ : ∃ m, n = m + 1 := ⟨n - 1, by omega⟩
  simp [Builtin.clear_, run_underlying ht, hv, hz, hst]
end
/-- The cells of n nodes, one behind the other. -/
def flatV (W : Nat → Nat → Value) (n : Nat) : List Value := (List.range (n * 80)).map fun j => W (j / 80) (j % 80)
theorem flatV_len (W : Nat → Nat → Value) (n : Nat) : (flatV W n).length = n * 80 := by simp [flatV]
theorem flatV_at (W : Nat → Nat → Value) (n i j : Nat) (hi : i < n) (hj : j < 80) : (flatV W n)[i * 80 + j]? = some (W i j) := by
  have h1 : i * 80 + j < n * 80 := by omega
  have h2 : (i * 80 + j) / 80 = i := by omega
  have h3 : (i * 80 + j) % 80 = j := by omega
  simp [flatV, h1, h2, h3]
/-- Some cells of one node anew, from its o-th on. -/
def updV (W : Nat → Nat → Value) (i o : Nat) (xs : List Value) : Nat → Nat → Value := fun a b => if a = i ∧ o ≤ b ∧ b < o + xs.length then xs.getD (b - o) (.int .i64 0) else W a b
theorem flatV_over (W : Nat → Nat → Value) (n i o : Nat) (xs : List Value) (hi : i < n) (hx : o + xs.length ≤ 80) : over (flatV W n) (i * 80 + o) xs = flatV (updV W i o xs) n := by
  apply List.ext_getElem?
  intro j
  rw [over_get _ _ _ _ (by rw [flatV_len]; omega)]
  by_cases hj : j < n * 80
  · by_cases h : i * 80 + o ≤ j ∧ j < i * 80 + o + xs.length
    · rw [if_pos h]
      have h1 : j / 80 = i := by omega
      have h2 : j % 80 = j - i * 80 := by omega
      have h3 : j - (i * 80 + o) < xs.length := by omega
      have h4 : o ≤ j - i * 80 ∧ j - i * 80 < o + xs.length := by omega
      have h5 : j - i * 80 - o = j - (i * 80 + o) := by omega
      simp only [flatV, List.getElem?_map, List.getElem?_range hj, Option.map_some, updV, h1, h2]
      rw [if_pos ⟨trivial, h4.1, h4.2⟩, h5]
      simp [List.getD, h3]
    · rw [if_neg h]
      have : ¬ (j / 80 = i ∧ o ≤ j % 80 ∧ j % 80 < o + xs.length) := by omega
      simp only [flatV, List.getElem?_map, List.getElem?_range hj, Option.map_some, updV, if_neg this]
  · rw [if_neg (by omega), List.getElem?_eq_none (by rw [flatV_len]; omega), List.getElem?_eq_none (by rw [flatV_len]; omega)]
theorem flatV_made (n : Nat) : (madeCells zs80.toArray (n * 80)).toList = flatV (fun _ b => zc b) n := by
  apply List.ext_getElem?
  intro j
  by_cases hj : j < n * 80
  · have h : j % 80 < 80 := Nat.mod_lt _ (by decide)
    have e : (madeCells zs80.toArray (n * 80)).toList[j]? = some (zs80.toArray[j % 80]!) := by
      simp [madeCells, hj, zs80_len]
    rw [e]
    simp [flatV, hj, zs80, h]
  · rw [List.getElem?_eq_none (by simp [size_madeCells]; omega), List.getElem?_eq_none (by rw [flatV_len]; omega)]
/-- Nodes lie at block P: their arena; their keys at block G. -/
structure NdAt (w : World) (base P p B G n c : Nat) (th : Nat → Bool) (vr : Nat → Int) (W : Nat → Nat → Value) : Prop where
  pl : P < w.heap.size
  pb : base ≤ P
  f0 : w.cell? ⟨P, 0, none⟩ = some (.pointer (some ⟨p, 0, none⟩))
  f1 : w.cell? ⟨P, 1, none⟩ = some (.slice (some ⟨G, 0, none⟩) n n)
  ar : ArAt w base p B n c th vr
  row : w.ownsRow base 32 80 (.slice (some ⟨G, 0, none⟩) n n) n (flatV W n)
  n1 : P ≠ B
  n2 : P ≠ G
  n3 : G ≠ B
  n4 : G ≠ p
section
variable {w w' : World} {base P p B G n c : Nat} {th th' : Nat → Bool} {vr vr' : Nat → Int} {W W' : Nat → Nat → Value}
theorem NdAt.below (h : NdAt w base P p B G n c th vr W) (hb : Below w.heap.size w w') : NdAt w' base P p B G n c th vr W :=
  ⟨Nat.lt_of_lt_of_le h.pl hb.size, h.pb, (hb.cell (p := ⟨P, 0, none⟩) h.pl).trans h.f0, (hb.cell (p := ⟨P, 1, none⟩) h.pl).trans h.f1, h.ar.below hb, own_below h.row hb, h.n1, h.n2, h.n3, h.n4⟩
theorem NdAt.turn (h : NdAt w base P p B G n c th vr W) (hA : ArAt w' base p B n c th' vr') (hg : w.grownBy w' (some B)) : NdAt w' base P p B G n c th' vr' W :=
  ⟨Nat.lt_of_lt_of_le h.pl hg.size, h.pb, (World.cell?_of_block (a := ⟨P, 0, none⟩) (hg.block P h.pl (fun e => h.n1 (by injection e)))).trans h.f0, (World.cell?_of_block (a := ⟨P, 1, none⟩) (hg.block P h.pl (fun e => h.n1 (by injection e)))).trans h.f1, hA, h.row.kept hg (.inr (fun e => h.n3 (by simpa [Value.ownBlock] using e))), h.n1, h.n2, h.n3, h.n4⟩
theorem NdAt.cells (h : NdAt w base P p B G n c th vr W) (i o : Nat) (hi : i < n) (xs : List Value) (hx : o + xs.length ≤ 80) : NdAt (w.setCells G (i * 80 + o) xs) base P p B G n c th vr (updV W i o xs) ∧ w.grownBy (w.setCells G (i * 80 + o) xs) (some G) := by
  have hs := own_setCells xs (i * 80 + o) _ _ h.row
  rw [flatV_over W n i o xs hi hx] at hs
  exact ⟨⟨Nat.lt_of_lt_of_le h.pl hs.2.size, h.pb, (World.cell?_of_block (a := ⟨P, 0, none⟩) (hs.2.block P h.pl (fun e => h.n2 (by injection e)))).trans h.f0, (World.cell?_of_block (a := ⟨P, 1, none⟩) (hs.2.block P h.pl (fun e => h.n2 (by injection e)))).trans h.f1, h.ar.kept hs.2 (Ne.symm h.n4) (Ne.symm h.n3), hs.1, h.n1, h.n2, h.n3, h.n4⟩, hs.2⟩
theorem NdAt.cell (h : NdAt w base P p B G n c th vr W) (i j : Nat) (hi : i < n) (hj : j < 80) : w.cell? ⟨G, i * 80 + j, none⟩ = some (W i j) := by
  rw [h.row.cellAt (i * 80 + j) (by omega), flatV_at W n i j hi hj]
theorem NdAt.congr (h : NdAt w base P p B G n c th vr W) (h1 : ∀ i, i < n → th i = th' i) (h2 : ∀ i, i < n → vr i = vr' i) : NdAt w base P p B G n c th' vr' W := ⟨h.pl, h.pb, h.f0, h.f1, h.ar.congr h1 h2, h.row, h.n1, h.n2, h.n3, h.n4⟩
theorem NdAt.clear (h : NdAt w base P p B G n c th vr W) (i : Nat) (hi : i < n) : ∃ w1, (∀ ty, (Builtin.clear_ #[138] ty #[.slice (some ⟨G, i * 80, none⟩) 16 16]).run Tryz.prog w = .ok (.tuple #[]) w1) ∧ NdAt w1 base P p B G n c th vr (updV W i 0 zs80) ∧ w.grownBy w1 (some G) := by
  have hs := h.cells i 0 hi zs80 (by rw [zs80_len]; omega)
  rw [Nat.add_zero] at hs
  refine ⟨_, fun ty => ?_, hs⟩
  exact run_clear_wide (P := Tryz.prog) w 138 31 ty keyZ Tryz.underlying138 zeroKeyR G (i * 80) 16 16 (by decide) zs80 zero16 (fun j hj => by rw [zs80_len] at hj; rw [h.cell i j hi hj]; rfl) (fun j hj => h.row.frozenAt _) (fun v hv => by
    obtain ⟨x, _, rfl⟩ := List.mem_map.1 hv
    exact zc_one x)
theorem NdAt.copy (h : NdAt w base P p B G n c th vr W) (i : Nat) (hi : i < n) (a : Option Addr) (m c2 : Nat) (xs : List Value) (hm : xs.length = m * 5) (hx : m ≤ 16) (h1 : ∀ v ∈ xs, v.oneCell' = true) (ha : 0 < m → ∃ ad, a = some ad ∧ ∀ j v, xs[j]? = some v → w.cell? (ad.add j) = some v) :
    ∃ w1, (∀ ty, (Builtin.copy_ #[138, 138] ty #[.slice (some ⟨G, i * 80, none⟩) 16 16, .slice a m c2]).run Tryz.prog w = .ok (goInt m) w1) ∧ NdAt w1 base P p B G n c th vr (updV W i 0 xs) ∧ w.grownBy w1 (some G) := by
  by_cases h0 : m = 0
  · subst h0
    obtain rfl : xs = [] := List.length_eq_zero_iff.1 (by omega)
    refine ⟨w, fun ty => run_copy_wide_none (P := Tryz.prog) w 138 138 ty 31 5 _ a 16 16 0 c2 Tryz.underlying138 infoKey5 rfl, ?_, ⟨rfl, rfl, rfl, Nat.le_refl _, fun _ _ _ => rfl⟩⟩
    have e : updV W i 0 [] = W := by funext a b; simp [updV]
    rw [e]
    exact h
  · have hs := h.cells i 0 hi xs (by omega)
    rw [Nat.add_zero] at hs
    obtain ⟨ad, rfl, hsrc⟩ := ha (by omega)
    refine ⟨_, fun ty => ?_, hs⟩
    have hmin : Nat.min m 16 = m := Nat.min_eq_left hx
    have := run_copy_cells_wide (P := Tryz.prog) w 138 138 ty 31 5 G (i * 80) 16 16 ad m c2 xs Tryz.underlying138 infoKey5 (by rw [hmin]; exact hm) hsrc (fun j hj => by rw [h.cell i j hi (by omega)]; rfl) (fun j hj => h.row.frozenAt _) h1
    rw [this, hmin]
end
end Go.Proofs.YtllcakiomihipaaGreatDoor
namespace Go.Proofs.YtllcakiomihipaaGreatDoor
open Go.ChangeShapes Go.WideShapes Go.ChangeAt Go.RowKit
set_option linter.unusedVariables false

theorem bcell {W w1 : World} (hb : Below W.heap.size W w1) : (∀ b o, b < W.heap.size → w1.cell? ⟨b, o, none⟩ = W.cell? ⟨b, o, none⟩) ∧ (∀ b o, b < W.heap.size → w1.frozen? ⟨b, o, none⟩ = W.frozen? ⟨b, o, none⟩) :=
  ⟨fun b o h => hb.cell (p := ⟨b, o, none⟩) h, fun b o h => hb.frozen (p := ⟨b, o, none⟩) h⟩

/-- Are two keys the same? -/
def sameB (a0 a1 a2 a3 a4 b0 b1 b2 b3 b4 : Int) : Bool := a0 == b0 && (a1 == b1 && (a2 == b2 && (a3 == b3 && a4 == b4)))

theorem samekey_any (a0 a1 a2 a3 a4 b0 b1 b2 b3 b4 : Int) (w : World) :
    Calls Tryz.prog 22 #[.agg #[.int .i64 a0, .int .i64 a1, .int .i64 a2, .int .i64 a3, .int .u32 a4], .agg #[.int .i64 b0, .int .i64 b1, .int .i64 b2, .int .i64 b3, .int .u32 b4]] w
      fun e w' => e = .returned (.bool (sameB a0 a1 a2 a3 a4 b0 b1 b2 b3 b4)) ∧ Below w.heap.size w w' := by
  go_enter Tryz.func22, Tryz.ntmps22
  go_wp2
  all_goals go_ret
  all_goals refine ⟨?_, ((Below.refl _ _).alloc (Nat.le_refl _) _).alloc (by simp) _⟩
  all_goals simp [sameB, *]

/-- What a key is, weakened: kind and rights decide. -/
def Wk (k r : List Int) : Prop :=
  ((k.getD 0 0 = 2 ∨ k.getD 0 0 = 3) ∧ r = [k.getD 0 0, k.getD 1 0, k.getD 2 0, bits BinOp.or IntKind.i64 (k.getD 3 0) 5, k.getD 4 0]) ∨
  ((k.getD 0 0 = 0 ∨ k.getD 0 0 = 1 ∨ k.getD 0 0 = 12 ∨ k.getD 0 0 = 14) ∧ r = [k.getD 0 0, k.getD 1 0, k.getD 2 0, k.getD 3 0, k.getD 4 0]) ∨
  ((¬ k.getD 0 0 = 0 ∧ ¬ k.getD 0 0 = 1 ∧ ¬ k.getD 0 0 = 2 ∧ ¬ k.getD 0 0 = 3 ∧ ¬ k.getD 0 0 = 12 ∧ ¬ k.getD 0 0 = 14) ∧ r = [0, 0, 0, 0, 0])
end Go.Proofs.YtllcakiomihipaaGreatDoor
namespace Go.Proofs.YtllcakiomihipaaGreatDoor
open Go.ChangeShapes Go.WideShapes Go.ChangeAt Go.RowKit
set_option linter.unusedVariables false
/-- The program's own within: two tests, no memory. -/
theorem kwithin_yes (n h : Int) (h1 : 0 ≤ n) (h2 : n ≤ h) (w : World) : Calls Tryz.prog 69 #[.int .i64 n, .int .i64 h] w fun e w' => e = .returned (.bool true) ∧ w = w' := by
  have d1 : decide (n < 0) = false := by rw [decide_eq_false_iff_not]; omega
  have d2 : decide (0 ≤ n) = true := by rw [decide_eq_true_iff]; omega
  have d3 : decide (n ≤ h) = true := by rw [decide_eq_true_iff]; omega
  have d4 : decide (h < n) = false := by rw [decide_eq_false_iff_not]; omega
  go_enter Tryz.func69, Tryz.ntmps69
  go_wp2
  go_ret
  exact ⟨rfl, rfl⟩
theorem kwithin_no1 (n h : Int) (h1 : n < 0) (w : World) : Calls Tryz.prog 69 #[.int .i64 n, .int .i64 h] w fun e w' => e = .returned (.bool false) ∧ w = w' := by
  have d1 : decide (n < 0) = true := by rw [decide_eq_true_iff]; omega
  have d2 : decide (0 ≤ n) = false := by rw [decide_eq_false_iff_not]; omega
  go_enter Tryz.func69, Tryz.ntmps69
  go_wp2
  go_ret
  exact ⟨rfl, rfl⟩
theorem kwithin_no2 (n h : Int) (h1 : 0 ≤ n) (h2 : h < n) (w : World) : Calls Tryz.prog 69 #[.int .i64 n, .int .i64 h] w fun e w' => e = .returned (.bool false) ∧ w = w' := by
  have d1 : decide (n < 0) = false := by rw [decide_eq_false_iff_not]; omega
  have d2 : decide (0 ≤ n) = true := by rw [decide_eq_true_iff]; omega
  have d3 : decide (n ≤ h) = false := by rw [decide_eq_false_iff_not]; omega
  have d4 : decide (h < n) = true := by rw [decide_eq_true_iff]; omega
  go_enter Tryz.func69, Tryz.ntmps69
  go_wp2
  go_ret
  exact ⟨rfl, rfl⟩
theorem kmay_yes (k : Int) (h : k = 2 ∨ k = 3) (w : World) : Calls Tryz.prog 71 #[.int .i64 k] w fun e w' => e = .returned (.bool true) ∧ w = w' := by
  rcases h with rfl | rfl
  all_goals
    go_enter Tryz.func71, Tryz.ntmps71
    go_wp2
    go_ret
    exact ⟨rfl, rfl⟩
theorem kmay_no (k : Int) (h2 : ¬ k = 2) (h3 : ¬ k = 3) (w : World) : Calls Tryz.prog 71 #[.int .i64 k] w fun e w' => e = .returned (.bool false) ∧ w = w' := by
  have b2 : (k == 2) = false := by simp [h2]
  have b3 : (k == 3) = false := by simp [h3]
  go_enter Tryz.func71, Tryz.ntmps71
  go_wp2
  go_ret
  exact ⟨rfl, rfl⟩
def placesOf (k : Int) : Int := if k = 2 ∨ k = 3 then 256 else if k = 8 then 64 else if k = 4 ∨ k = 5 ∨ k = 6 ∨ k = 7 ∨ k = 9 ∨ k = 10 then 32 else 0
theorem kplaces_any (k : Int) (w : World) : Calls Tryz.prog 70 #[.int .i64 k] w fun e w' => e = .returned (.int .i64 (placesOf k)) ∧ w = w' := by
  by_cases h : k = 2 ∨ k = 3 ∨ k = 4 ∨ k = 5 ∨ k = 6 ∨ k = 7 ∨ k = 8 ∨ k = 9 ∨ k = 10
  · rcases h with rfl | rfl | rfl | rfl | rfl | rfl | rfl | rfl | rfl
    all_goals
      go_enter Tryz.func70, Tryz.ntmps70
      go_wp2
      go_ret
      exact ⟨rfl, rfl⟩
  · have h2 : ¬ k = 2 := by omega
    have h3 : ¬ k = 3 := by omega
    have h4 : ¬ k = 4 := by omega
    have h5 : ¬ k = 5 := by omega
    have h6 : ¬ k = 6 := by omega
    have h7 : ¬ k = 7 := by omega
    have h8 : ¬ k = 8 := by omega
    have h9 : ¬ k = 9 := by omega
    have h10 : ¬ k = 10 := by omega
    have e : placesOf k = 0 := by simp [placesOf, h2, h3, h4, h5, h6, h7, h8, h9, h10]
    rw [e]
    clear h e
    go_enter Tryz.func70, Tryz.ntmps70
    go_wp2
    go_ret
    exact ⟨rfl, rfl⟩
def dataMost (k : Int) : Int := if k = 1 then 4294967295 else if k = 2 then 4 else if k = 5 ∨ k = 6 then 536870911 else 0
theorem kmaxdata_any (k : Int) (w : World) : Calls Tryz.prog 72 #[.int .i64 k] w fun e w' => e = .returned (.int .u32 (dataMost k)) ∧ w = w' := by
  by_cases h : k = 1 ∨ k = 2 ∨ k = 5 ∨ k = 6
  · rcases h with rfl | rfl | rfl | rfl
    all_goals
      go_enter Tryz.func72, Tryz.ntmps72
      go_wp2
      go_ret
      exact ⟨rfl, rfl⟩
  · have h1 : ¬ k = 1 := by omega
    have h2 : ¬ k = 2 := by omega
    have h5 : ¬ k = 5 := by omega
    have h6 : ¬ k = 6 := by omega
    have e : dataMost k = 0 := by simp [dataMost, h1, h2, h5, h6]
    rw [e]
    clear h e
    go_enter Tryz.func72, Tryz.ntmps72
    go_wp2
    go_ret
    exact ⟨rfl, rfl⟩
end Go.Proofs.YtllcakiomihipaaGreatDoor
namespace Go.Proofs.YtllcakiomihipaaGreatDoor
open Go.ChangeShapes Go.WideShapes Go.ChangeAt Go.RowKit
set_option linter.unusedVariables false
theorem kplaces_is (k m : Int) (h : placesOf k = m) (w : World) : Calls Tryz.prog 70 #[.int .i64 k] w fun e w' => e = .returned (.int .i64 m) ∧ w = w' := by
  rw [← h]; exact kplaces_any k w
theorem kmaxdata_is (k m : Int) (h : dataMost k = m) (w : World) : Calls Tryz.prog 72 #[.int .i64 k] w fun e w' => e = .returned (.int .u32 m) ∧ w = w' := by
  rw [← h]; exact kmaxdata_any k w
end Go.Proofs.YtllcakiomihipaaGreatDoor
namespace Go.Proofs.YtllcakiomihipaaGreatDoor
open Go.ChangeShapes Go.WideShapes Go.ChangeAt Go.RowKit
set_option linter.unusedVariables false
theorem kwithin_in (n h : Int) (hn : Hid (0 ≤ n ∧ n ≤ h)) (w : World) : Calls Tryz.prog 69 #[.int .i64 n, .int .i64 h] w fun e w' => e = .returned (.bool true) ∧ w = w' := kwithin_yes n h hn.out.1 hn.out.2 w
end Go.Proofs.YtllcakiomihipaaGreatDoor
namespace Go.Proofs.YtllcakiomihipaaGreatDoor
open Go.ChangeShapes Go.WideShapes Go.ChangeAt Go.RowKit
set_option linter.unusedVariables false
theorem kwithin_out (n h : Int) (hn : Hid (¬ (0 ≤ n ∧ n ≤ h))) (w : World) : Calls Tryz.prog 69 #[.int .i64 n, .int .i64 h] w fun e w' => e = .returned (.bool false) ∧ w = w' := by
  by_cases h1 : n < 0
  · exact kwithin_no1 n h h1 w
  · have h2 : h < n := by have := hn.out; omega
    exact kwithin_no2 n h (by omega) h2 w
/-- No kind: what lies in the variable ErrShape. -/
theorem kvalid_shape (k0 k1 k2 k3 k4 : Int) (v : Value) (hk : Hid (¬ (0 ≤ k0 ∧ k0 ≤ 14))) (w : World) (hl : 3 < w.heap.size) (hv : w.cell? ⟨3, 0, none⟩ = some v) :
    Calls Tryz.prog 42 #[(Value.agg #[.int .i64 k0, .int .i64 k1, .int .i64 k2, .int .i64 k3, .int .u32 k4])] w fun e w' => e = .returned v ∧ Below w.heap.size w w' := by
  have n0 : (w.alloc (.cells #[.int .i64 k0, .int .i64 k1, .int .i64 k2, .int .i64 k3, .int .u32 k4] 31)).cell? ⟨3, 0, none⟩ = some v := (World.cell?_alloc_lt w _ ⟨3, 0, none⟩ hl).trans hv
  go_enter Tryz.func42, Tryz.ntmps42
  go_wp2_with (first
    | (go_at_call 69; (with_reducible refine (kwithin_out _ _ hk _).mono ?_); rintro e w1 ⟨rfl, rfl⟩))
  go_ret
  exact ⟨rfl, (Below.refl _ _).alloc (Nat.le_refl _) _⟩
end Go.Proofs.YtllcakiomihipaaGreatDoor
namespace Go.Proofs.YtllcakiomihipaaGreatDoor
open Go.ChangeShapes Go.WideShapes Go.ChangeAt Go.RowKit
set_option linter.unusedVariables false
/-- Is n from 0 to h? -/
def wB (n h : Int) : Bool := decide (0 ≤ n ∧ n ≤ h)
theorem kwithin_b (n h : Int) (b : Bool) (hb : Hid (wB n h = b)) (w : World) : Calls Tryz.prog 69 #[.int .i64 n, .int .i64 h] w fun e w' => e = .returned (.bool b) ∧ w = w' := by
  have hb := hb.out
  cases b with
  | true => exact kwithin_in n h (Lib.hid (by simpa [wB] using hb)) w
  | false => exact kwithin_out n h (Lib.hid (by simpa [wB] using hb)) w
theorem kquiet_left {P : Program} {f : FuncId} {args : Array Value} {w : World} {n : Nat} {v : Value}
    (h : Calls P f args (w.drewN n) fun e w' => e = .returned v ∧ w.drewN n = w') : Calls P f args (w.drewN n) fun e w'' => e = .returned v ∧ ∃ m, w'' = w.drewN m :=
  h.mono fun _ _ ⟨he, hm⟩ => ⟨he, n, hm.symm⟩
theorem kmay_b (k : Int) (b : Bool) (hb : Hid ((k == 2 || k == 3) = b)) (w : World) : Calls Tryz.prog 71 #[.int .i64 k] w fun e w' => e = .returned (.bool b) ∧ w = w' := by
  have hb := hb.out
  cases b with
  | true => exact kmay_yes k (by simpa using hb) w
  | false => simp at hb; exact kmay_no k hb.1 hb.2 w
set_option maxRecDepth 100000 in
set_option maxHeartbeats 400000 in
theorem kway_m_ok (k0 k1 k2 k3 k4 : Int) (P d : Int) (w : World) (h0 : 0 < P) (h9 : P ≤ 256) (hk : Hid (wB k0 14 = true)) (hp : Hid (placesOf k0 = P)) (hm : Hid ((k0 == 2 || k0 == 3) = true)) (w1 : Hid (wB k1 (P - 1) = true)) (w2 : Hid (wB k2 (1048575) = true)) (w3 : Hid (wB k3 (7) = true)) (hd : Hid (dataMost k0 = d)) (h4 : k4 ≤ d) :
    Calls Tryz.prog 42 #[(Value.agg #[.int .i64 k0, .int .i64 k1, .int .i64 k2, .int .i64 k3, .int .u32 k4])] w fun e w' => e = .returned .nilIface ∧ Below w.heap.size w w' := by
  have d4 : decide (d < k4) = false := by simp; omega
  go_enter Tryz.func42, Tryz.ntmps42
  go_wp2_with (first
    | (go_at_call 69; (with_reducible refine (kwithin_b _ _ _ hk _).mono ?_); rintro e w1 ⟨rfl, rfl⟩)
    | (go_at_call 70; refine (kplaces_is k0 _ hp.out _).mono ?_; rintro e w1 ⟨rfl, rfl⟩)
    | (go_at_call 71; refine (kmay_b k0 _ hm _).mono ?_; rintro e w1 ⟨rfl, rfl⟩))
  go_quiet ((first | (go_at_call 69; with_reducible exact kquiet_left (kwithin_b _ _ _ w1 _)) | (go_at_call 69; with_reducible exact kquiet_left (kwithin_b _ _ _ w2 _)) | (go_at_call 69; with_reducible exact kquiet_left (kwithin_b _ _ _ w3 _)) | (go_at_call 72; with_reducible exact kquiet_left (kmaxdata_is k0 _ hd.out _))))
  go_wp2
  go_ret
  exact ⟨rfl, below_drewN ((Below.refl _ _).alloc (Nat.le_refl _) _) _⟩
set_option maxRecDepth 100000 in
set_option maxHeartbeats 400000 in
theorem kway_m_b1 (k0 k1 k2 k3 k4 : Int) (P : Int) (w : World) (h0 : 0 < P) (h9 : P ≤ 256) (v : Value) (hl : 1 < w.heap.size) (hv : w.cell? ⟨1, 0, none⟩ = some v) (hk : Hid (wB k0 14 = true)) (hp : Hid (placesOf k0 = P)) (hm : Hid ((k0 == 2 || k0 == 3) = true)) (w1 : Hid (wB k1 (P - 1) = false)) :
    Calls Tryz.prog 42 #[(Value.agg #[.int .i64 k0, .int .i64 k1, .int .i64 k2, .int .i64 k3, .int .u32 k4])] w fun e w' => e = .returned v ∧ Below w.heap.size w w' := by
  have n0 : (w.alloc (.cells #[.int .i64 k0, .int .i64 k1, .int .i64 k2, .int .i64 k3, .int .u32 k4] 31)).cell? ⟨1, 0, none⟩ = some v := (World.cell?_alloc_lt w _ ⟨1, 0, none⟩ hl).trans hv
  go_enter Tryz.func42, Tryz.ntmps42
  go_wp2_with (first
    | (go_at_call 69; (with_reducible refine (kwithin_b _ _ _ hk _).mono ?_); rintro e w1 ⟨rfl, rfl⟩)
    | (go_at_call 70; refine (kplaces_is k0 _ hp.out _).mono ?_; rintro e w1 ⟨rfl, rfl⟩)
    | (go_at_call 71; refine (kmay_b k0 _ hm _).mono ?_; rintro e w1 ⟨rfl, rfl⟩))
  go_quiet ((first | (go_at_call 69; with_reducible exact kquiet_left (kwithin_b _ _ _ w1 _))))
  go_wp2
  go_ret
  exact ⟨rfl, below_drewN ((Below.refl _ _).alloc (Nat.le_refl _) _) _⟩
set_option maxRecDepth 100000 in
set_option maxHeartbeats 400000 in
theorem kway_m_b2 (k0 k1 k2 k3 k4 : Int) (P : Int) (w : World) (h0 : 0 < P) (h9 : P ≤ 256) (v : Value) (hl : 1 < w.heap.size) (hv : w.cell? ⟨1, 0, none⟩ = some v) (hk : Hid (wB k0 14 = true)) (hp : Hid (placesOf k0 = P)) (hm : Hid ((k0 == 2 || k0 == 3) = true)) (w1 : Hid (wB k1 (P - 1) = true)) (w2 : Hid (wB k2 (1048575) = false)) :
    Calls Tryz.prog 42 #[(Value.agg #[.int .i64 k0, .int .i64 k1, .int .i64 k2, .int .i64 k3, .int .u32 k4])] w fun e w' => e = .returned v ∧ Below w.heap.size w w' := by
  have n0 : (w.alloc (.cells #[.int .i64 k0, .int .i64 k1, .int .i64 k2, .int .i64 k3, .int .u32 k4] 31)).cell? ⟨1, 0, none⟩ = some v := (World.cell?_alloc_lt w _ ⟨1, 0, none⟩ hl).trans hv
  go_enter Tryz.func42, Tryz.ntmps42
  go_wp2_with (first
    | (go_at_call 69; (with_reducible refine (kwithin_b _ _ _ hk _).mono ?_); rintro e w1 ⟨rfl, rfl⟩)
    | (go_at_call 70; refine (kplaces_is k0 _ hp.out _).mono ?_; rintro e w1 ⟨rfl, rfl⟩)
    | (go_at_call 71; refine (kmay_b k0 _ hm _).mono ?_; rintro e w1 ⟨rfl, rfl⟩))
  go_quiet ((first | (go_at_call 69; with_reducible exact kquiet_left (kwithin_b _ _ _ w1 _)) | (go_at_call 69; with_reducible exact kquiet_left (kwithin_b _ _ _ w2 _))))
  go_wp2
  go_ret
  exact ⟨rfl, below_drewN ((Below.refl _ _).alloc (Nat.le_refl _) _) _⟩
set_option maxRecDepth 100000 in
set_option maxHeartbeats 400000 in
theorem kway_m_b3 (k0 k1 k2 k3 k4 : Int) (P : Int) (w : World) (h0 : 0 < P) (h9 : P ≤ 256) (v : Value) (hl : 1 < w.heap.size) (hv : w.cell? ⟨1, 0, none⟩ = some v) (hk : Hid (wB k0 14 = true)) (hp : Hid (placesOf k0 = P)) (hm : Hid ((k0 == 2 || k0 == 3) = true)) (w1 : Hid (wB k1 (P - 1) = true)) (w2 : Hid (wB k2 (1048575) = true)) (w3 : Hid (wB k3 (7) = false)) :
    Calls Tryz.prog 42 #[(Value.agg #[.int .i64 k0, .int .i64 k1, .int .i64 k2, .int .i64 k3, .int .u32 k4])] w fun e w' => e = .returned v ∧ Below w.heap.size w w' := by
  have n0 : (w.alloc (.cells #[.int .i64 k0, .int .i64 k1, .int .i64 k2, .int .i64 k3, .int .u32 k4] 31)).cell? ⟨1, 0, none⟩ = some v := (World.cell?_alloc_lt w _ ⟨1, 0, none⟩ hl).trans hv
  go_enter Tryz.func42, Tryz.ntmps42
  go_wp2_with (first
    | (go_at_call 69; (with_reducible refine (kwithin_b _ _ _ hk _).mono ?_); rintro e w1 ⟨rfl, rfl⟩)
    | (go_at_call 70; refine (kplaces_is k0 _ hp.out _).mono ?_; rintro e w1 ⟨rfl, rfl⟩)
    | (go_at_call 71; refine (kmay_b k0 _ hm _).mono ?_; rintro e w1 ⟨rfl, rfl⟩))
  go_quiet ((first | (go_at_call 69; with_reducible exact kquiet_left (kwithin_b _ _ _ w1 _)) | (go_at_call 69; with_reducible exact kquiet_left (kwithin_b _ _ _ w2 _)) | (go_at_call 69; with_reducible exact kquiet_left (kwithin_b _ _ _ w3 _))))
  go_wp2
  go_ret
  exact ⟨rfl, below_drewN ((Below.refl _ _).alloc (Nat.le_refl _) _) _⟩
set_option maxRecDepth 100000 in
set_option maxHeartbeats 400000 in
theorem kway_m_b4 (k0 k1 k2 k3 k4 : Int) (P d : Int) (w : World) (h0 : 0 < P) (h9 : P ≤ 256) (v : Value) (hl : 1 < w.heap.size) (hv : w.cell? ⟨1, 0, none⟩ = some v) (hk : Hid (wB k0 14 = true)) (hp : Hid (placesOf k0 = P)) (hm : Hid ((k0 == 2 || k0 == 3) = true)) (w1 : Hid (wB k1 (P - 1) = true)) (w2 : Hid (wB k2 (1048575) = true)) (w3 : Hid (wB k3 (7) = true)) (hd : Hid (dataMost k0 = d)) (h4 : d < k4) :
    Calls Tryz.prog 42 #[(Value.agg #[.int .i64 k0, .int .i64 k1, .int .i64 k2, .int .i64 k3, .int .u32 k4])] w fun e w' => e = .returned v ∧ Below w.heap.size w w' := by
  have n0 : (w.alloc (.cells #[.int .i64 k0, .int .i64 k1, .int .i64 k2, .int .i64 k3, .int .u32 k4] 31)).cell? ⟨1, 0, none⟩ = some v := (World.cell?_alloc_lt w _ ⟨1, 0, none⟩ hl).trans hv
  have d4 : decide (d < k4) = true := by simp; omega
  go_enter Tryz.func42, Tryz.ntmps42
  go_wp2_with (first
    | (go_at_call 69; (with_reducible refine (kwithin_b _ _ _ hk _).mono ?_); rintro e w1 ⟨rfl, rfl⟩)
    | (go_at_call 70; refine (kplaces_is k0 _ hp.out _).mono ?_; rintro e w1 ⟨rfl, rfl⟩)
    | (go_at_call 71; refine (kmay_b k0 _ hm _).mono ?_; rintro e w1 ⟨rfl, rfl⟩))
  go_quiet ((first | (go_at_call 69; with_reducible exact kquiet_left (kwithin_b _ _ _ w1 _)) | (go_at_call 69; with_reducible exact kquiet_left (kwithin_b _ _ _ w2 _)) | (go_at_call 69; with_reducible exact kquiet_left (kwithin_b _ _ _ w3 _)) | (go_at_call 72; with_reducible exact kquiet_left (kmaxdata_is k0 _ hd.out _))))
  go_wp2
  go_ret
  exact ⟨rfl, below_drewN ((Below.refl _ _).alloc (Nat.le_refl _) _) _⟩
set_option maxRecDepth 100000 in
set_option maxHeartbeats 400000 in
theorem kway_p_ok (k0 k1 k2 k3 k4 : Int) (P d : Int) (w : World) (h0 : 0 < P) (h9 : P ≤ 256) (hk : Hid (wB k0 14 = true)) (hp : Hid (placesOf k0 = P)) (hm : Hid ((k0 == 2 || k0 == 3) = false)) (w1 : Hid (wB k1 (P - 1) = true)) (w2 : Hid (wB k2 (1048575) = true)) (w3 : Hid (wB k3 (0) = true)) (hd : Hid (dataMost k0 = d)) (h4 : k4 ≤ d) :
    Calls Tryz.prog 42 #[(Value.agg #[.int .i64 k0, .int .i64 k1, .int .i64 k2, .int .i64 k3, .int .u32 k4])] w fun e w' => e = .returned .nilIface ∧ Below w.heap.size w w' := by
  have d4 : decide (d < k4) = false := by simp; omega
  go_enter Tryz.func42, Tryz.ntmps42
  go_wp2_with (first
    | (go_at_call 69; (with_reducible refine (kwithin_b _ _ _ hk _).mono ?_); rintro e w1 ⟨rfl, rfl⟩)
    | (go_at_call 70; refine (kplaces_is k0 _ hp.out _).mono ?_; rintro e w1 ⟨rfl, rfl⟩)
    | (go_at_call 71; refine (kmay_b k0 _ hm _).mono ?_; rintro e w1 ⟨rfl, rfl⟩))
  go_quiet ((first | (go_at_call 69; with_reducible exact kquiet_left (kwithin_b _ _ _ w1 _)) | (go_at_call 69; with_reducible exact kquiet_left (kwithin_b _ _ _ w2 _)) | (go_at_call 69; with_reducible exact kquiet_left (kwithin_b _ _ _ w3 _)) | (go_at_call 72; with_reducible exact kquiet_left (kmaxdata_is k0 _ hd.out _))))
  go_wp2
  go_ret
  exact ⟨rfl, below_drewN ((Below.refl _ _).alloc (Nat.le_refl _) _) _⟩
set_option maxRecDepth 100000 in
set_option maxHeartbeats 400000 in
theorem kway_p_b1 (k0 k1 k2 k3 k4 : Int) (P : Int) (w : World) (h0 : 0 < P) (h9 : P ≤ 256) (v : Value) (hl : 1 < w.heap.size) (hv : w.cell? ⟨1, 0, none⟩ = some v) (hk : Hid (wB k0 14 = true)) (hp : Hid (placesOf k0 = P)) (hm : Hid ((k0 == 2 || k0 == 3) = false)) (w1 : Hid (wB k1 (P - 1) = false)) :
    Calls Tryz.prog 42 #[(Value.agg #[.int .i64 k0, .int .i64 k1, .int .i64 k2, .int .i64 k3, .int .u32 k4])] w fun e w' => e = .returned v ∧ Below w.heap.size w w' := by
  have n0 : (w.alloc (.cells #[.int .i64 k0, .int .i64 k1, .int .i64 k2, .int .i64 k3, .int .u32 k4] 31)).cell? ⟨1, 0, none⟩ = some v := (World.cell?_alloc_lt w _ ⟨1, 0, none⟩ hl).trans hv
  go_enter Tryz.func42, Tryz.ntmps42
  go_wp2_with (first
    | (go_at_call 69; (with_reducible refine (kwithin_b _ _ _ hk _).mono ?_); rintro e w1 ⟨rfl, rfl⟩)
    | (go_at_call 70; refine (kplaces_is k0 _ hp.out _).mono ?_; rintro e w1 ⟨rfl, rfl⟩)
    | (go_at_call 71; refine (kmay_b k0 _ hm _).mono ?_; rintro e w1 ⟨rfl, rfl⟩))
  go_quiet ((first | (go_at_call 69; with_reducible exact kquiet_left (kwithin_b _ _ _ w1 _))))
  go_wp2
  go_ret
  exact ⟨rfl, below_drewN ((Below.refl _ _).alloc (Nat.le_refl _) _) _⟩
set_option maxRecDepth 100000 in
set_option maxHeartbeats 400000 in
theorem kway_p_b2 (k0 k1 k2 k3 k4 : Int) (P : Int) (w : World) (h0 : 0 < P) (h9 : P ≤ 256) (v : Value) (hl : 1 < w.heap.size) (hv : w.cell? ⟨1, 0, none⟩ = some v) (hk : Hid (wB k0 14 = true)) (hp : Hid (placesOf k0 = P)) (hm : Hid ((k0 == 2 || k0 == 3) = false)) (w1 : Hid (wB k1 (P - 1) = true)) (w2 : Hid (wB k2 (1048575) = false)) :
    Calls Tryz.prog 42 #[(Value.agg #[.int .i64 k0, .int .i64 k1, .int .i64 k2, .int .i64 k3, .int .u32 k4])] w fun e w' => e = .returned v ∧ Below w.heap.size w w' := by
  have n0 : (w.alloc (.cells #[.int .i64 k0, .int .i64 k1, .int .i64 k2, .int .i64 k3, .int .u32 k4] 31)).cell? ⟨1, 0, none⟩ = some v := (World.cell?_alloc_lt w _ ⟨1, 0, none⟩ hl).trans hv
  go_enter Tryz.func42, Tryz.ntmps42
  go_wp2_with (first
    | (go_at_call 69; (with_reducible refine (kwithin_b _ _ _ hk _).mono ?_); rintro e w1 ⟨rfl, rfl⟩)
    | (go_at_call 70; refine (kplaces_is k0 _ hp.out _).mono ?_; rintro e w1 ⟨rfl, rfl⟩)
    | (go_at_call 71; refine (kmay_b k0 _ hm _).mono ?_; rintro e w1 ⟨rfl, rfl⟩))
  go_quiet ((first | (go_at_call 69; with_reducible exact kquiet_left (kwithin_b _ _ _ w1 _)) | (go_at_call 69; with_reducible exact kquiet_left (kwithin_b _ _ _ w2 _))))
  go_wp2
  go_ret
  exact ⟨rfl, below_drewN ((Below.refl _ _).alloc (Nat.le_refl _) _) _⟩
set_option maxRecDepth 100000 in
set_option maxHeartbeats 400000 in
theorem kway_p_b3 (k0 k1 k2 k3 k4 : Int) (P : Int) (w : World) (h0 : 0 < P) (h9 : P ≤ 256) (v : Value) (hl : 1 < w.heap.size) (hv : w.cell? ⟨1, 0, none⟩ = some v) (hk : Hid (wB k0 14 = true)) (hp : Hid (placesOf k0 = P)) (hm : Hid ((k0 == 2 || k0 == 3) = false)) (w1 : Hid (wB k1 (P - 1) = true)) (w2 : Hid (wB k2 (1048575) = true)) (w3 : Hid (wB k3 (0) = false)) :
    Calls Tryz.prog 42 #[(Value.agg #[.int .i64 k0, .int .i64 k1, .int .i64 k2, .int .i64 k3, .int .u32 k4])] w fun e w' => e = .returned v ∧ Below w.heap.size w w' := by
  have n0 : (w.alloc (.cells #[.int .i64 k0, .int .i64 k1, .int .i64 k2, .int .i64 k3, .int .u32 k4] 31)).cell? ⟨1, 0, none⟩ = some v := (World.cell?_alloc_lt w _ ⟨1, 0, none⟩ hl).trans hv
  go_enter Tryz.func42, Tryz.ntmps42
  go_wp2_with (first
    | (go_at_call 69; (with_reducible refine (kwithin_b _ _ _ hk _).mono ?_); rintro e w1 ⟨rfl, rfl⟩)
    | (go_at_call 70; refine (kplaces_is k0 _ hp.out _).mono ?_; rintro e w1 ⟨rfl, rfl⟩)
    | (go_at_call 71; refine (kmay_b k0 _ hm _).mono ?_; rintro e w1 ⟨rfl, rfl⟩))
  go_quiet ((first | (go_at_call 69; with_reducible exact kquiet_left (kwithin_b _ _ _ w1 _)) | (go_at_call 69; with_reducible exact kquiet_left (kwithin_b _ _ _ w2 _)) | (go_at_call 69; with_reducible exact kquiet_left (kwithin_b _ _ _ w3 _))))
  go_wp2
  go_ret
  exact ⟨rfl, below_drewN ((Below.refl _ _).alloc (Nat.le_refl _) _) _⟩
set_option maxRecDepth 100000 in
set_option maxHeartbeats 400000 in
theorem kway_p_b4 (k0 k1 k2 k3 k4 : Int) (P d : Int) (w : World) (h0 : 0 < P) (h9 : P ≤ 256) (v : Value) (hl : 1 < w.heap.size) (hv : w.cell? ⟨1, 0, none⟩ = some v) (hk : Hid (wB k0 14 = true)) (hp : Hid (placesOf k0 = P)) (hm : Hid ((k0 == 2 || k0 == 3) = false)) (w1 : Hid (wB k1 (P - 1) = true)) (w2 : Hid (wB k2 (1048575) = true)) (w3 : Hid (wB k3 (0) = true)) (hd : Hid (dataMost k0 = d)) (h4 : d < k4) :
    Calls Tryz.prog 42 #[(Value.agg #[.int .i64 k0, .int .i64 k1, .int .i64 k2, .int .i64 k3, .int .u32 k4])] w fun e w' => e = .returned v ∧ Below w.heap.size w w' := by
  have n0 : (w.alloc (.cells #[.int .i64 k0, .int .i64 k1, .int .i64 k2, .int .i64 k3, .int .u32 k4] 31)).cell? ⟨1, 0, none⟩ = some v := (World.cell?_alloc_lt w _ ⟨1, 0, none⟩ hl).trans hv
  have d4 : decide (d < k4) = true := by simp; omega
  go_enter Tryz.func42, Tryz.ntmps42
  go_wp2_with (first
    | (go_at_call 69; (with_reducible refine (kwithin_b _ _ _ hk _).mono ?_); rintro e w1 ⟨rfl, rfl⟩)
    | (go_at_call 70; refine (kplaces_is k0 _ hp.out _).mono ?_; rintro e w1 ⟨rfl, rfl⟩)
    | (go_at_call 71; refine (kmay_b k0 _ hm _).mono ?_; rintro e w1 ⟨rfl, rfl⟩))
  go_quiet ((first | (go_at_call 69; with_reducible exact kquiet_left (kwithin_b _ _ _ w1 _)) | (go_at_call 69; with_reducible exact kquiet_left (kwithin_b _ _ _ w2 _)) | (go_at_call 69; with_reducible exact kquiet_left (kwithin_b _ _ _ w3 _)) | (go_at_call 72; with_reducible exact kquiet_left (kmaxdata_is k0 _ hd.out _))))
  go_wp2
  go_ret
  exact ⟨rfl, below_drewN ((Below.refl _ _).alloc (Nat.le_refl _) _) _⟩
set_option maxRecDepth 100000 in
set_option maxHeartbeats 400000 in
theorem kway_n_ok (k0 k1 k2 k3 k4 : Int) (d : Int) (w : World) (hk : Hid (wB k0 14 = true)) (hp : Hid (placesOf k0 = 0)) (hm : Hid ((k0 == 2 || k0 == 3) = false)) (w1 : Hid (wB k1 (0) = true)) (w2 : Hid (wB k2 (0) = true)) (w3 : Hid (wB k3 (0) = true)) (hd : Hid (dataMost k0 = d)) (h4 : k4 ≤ d) :
    Calls Tryz.prog 42 #[(Value.agg #[.int .i64 k0, .int .i64 k1, .int .i64 k2, .int .i64 k3, .int .u32 k4])] w fun e w' => e = .returned .nilIface ∧ Below w.heap.size w w' := by
  have d4 : decide (d < k4) = false := by simp; omega
  go_enter Tryz.func42, Tryz.ntmps42
  go_wp2_with (first
    | (go_at_call 69; (with_reducible refine (kwithin_b _ _ _ hk _).mono ?_); rintro e w1 ⟨rfl, rfl⟩)
    | (go_at_call 70; refine (kplaces_is k0 _ hp.out _).mono ?_; rintro e w1 ⟨rfl, rfl⟩)
    | (go_at_call 71; refine (kmay_b k0 _ hm _).mono ?_; rintro e w1 ⟨rfl, rfl⟩))
  go_quiet ((first | (go_at_call 69; with_reducible exact kquiet_left (kwithin_b _ _ _ w1 _)) | (go_at_call 69; with_reducible exact kquiet_left (kwithin_b _ _ _ w2 _)) | (go_at_call 69; with_reducible exact kquiet_left (kwithin_b _ _ _ w3 _)) | (go_at_call 72; with_reducible exact kquiet_left (kmaxdata_is k0 _ hd.out _))))
  go_wp2
  go_ret
  exact ⟨rfl, below_drewN ((Below.refl _ _).alloc (Nat.le_refl _) _) _⟩
set_option maxRecDepth 100000 in
set_option maxHeartbeats 400000 in
theorem kway_n_b1 (k0 k1 k2 k3 k4 : Int) (w : World) (v : Value) (hl : 1 < w.heap.size) (hv : w.cell? ⟨1, 0, none⟩ = some v) (hk : Hid (wB k0 14 = true)) (hp : Hid (placesOf k0 = 0)) (hm : Hid ((k0 == 2 || k0 == 3) = false)) (w1 : Hid (wB k1 (0) = false)) :
    Calls Tryz.prog 42 #[(Value.agg #[.int .i64 k0, .int .i64 k1, .int .i64 k2, .int .i64 k3, .int .u32 k4])] w fun e w' => e = .returned v ∧ Below w.heap.size w w' := by
  have n0 : (w.alloc (.cells #[.int .i64 k0, .int .i64 k1, .int .i64 k2, .int .i64 k3, .int .u32 k4] 31)).cell? ⟨1, 0, none⟩ = some v := (World.cell?_alloc_lt w _ ⟨1, 0, none⟩ hl).trans hv
  go_enter Tryz.func42, Tryz.ntmps42
  go_wp2_with (first
    | (go_at_call 69; (with_reducible refine (kwithin_b _ _ _ hk _).mono ?_); rintro e w1 ⟨rfl, rfl⟩)
    | (go_at_call 70; refine (kplaces_is k0 _ hp.out _).mono ?_; rintro e w1 ⟨rfl, rfl⟩)
    | (go_at_call 71; refine (kmay_b k0 _ hm _).mono ?_; rintro e w1 ⟨rfl, rfl⟩))
  go_quiet ((first | (go_at_call 69; with_reducible exact kquiet_left (kwithin_b _ _ _ w1 _))))
  go_wp2
  go_ret
  exact ⟨rfl, below_drewN ((Below.refl _ _).alloc (Nat.le_refl _) _) _⟩
set_option maxRecDepth 100000 in
set_option maxHeartbeats 400000 in
theorem kway_n_b2 (k0 k1 k2 k3 k4 : Int) (w : World) (v : Value) (hl : 1 < w.heap.size) (hv : w.cell? ⟨1, 0, none⟩ = some v) (hk : Hid (wB k0 14 = true)) (hp : Hid (placesOf k0 = 0)) (hm : Hid ((k0 == 2 || k0 == 3) = false)) (w1 : Hid (wB k1 (0) = true)) (w2 : Hid (wB k2 (0) = false)) :
    Calls Tryz.prog 42 #[(Value.agg #[.int .i64 k0, .int .i64 k1, .int .i64 k2, .int .i64 k3, .int .u32 k4])] w fun e w' => e = .returned v ∧ Below w.heap.size w w' := by
  have n0 : (w.alloc (.cells #[.int .i64 k0, .int .i64 k1, .int .i64 k2, .int .i64 k3, .int .u32 k4] 31)).cell? ⟨1, 0, none⟩ = some v := (World.cell?_alloc_lt w _ ⟨1, 0, none⟩ hl).trans hv
  go_enter Tryz.func42, Tryz.ntmps42
  go_wp2_with (first
    | (go_at_call 69; (with_reducible refine (kwithin_b _ _ _ hk _).mono ?_); rintro e w1 ⟨rfl, rfl⟩)
    | (go_at_call 70; refine (kplaces_is k0 _ hp.out _).mono ?_; rintro e w1 ⟨rfl, rfl⟩)
    | (go_at_call 71; refine (kmay_b k0 _ hm _).mono ?_; rintro e w1 ⟨rfl, rfl⟩))
  go_quiet ((first | (go_at_call 69; with_reducible exact kquiet_left (kwithin_b _ _ _ w1 _)) | (go_at_call 69; with_reducible exact kquiet_left (kwithin_b _ _ _ w2 _))))
  go_wp2
  go_ret
  exact ⟨rfl, below_drewN ((Below.refl _ _).alloc (Nat.le_refl _) _) _⟩
set_option maxRecDepth 100000 in
set_option maxHeartbeats 400000 in
theorem kway_n_b3 (k0 k1 k2 k3 k4 : Int) (w : World) (v : Value) (hl : 1 < w.heap.size) (hv : w.cell? ⟨1, 0, none⟩ = some v) (hk : Hid (wB k0 14 = true)) (hp : Hid (placesOf k0 = 0)) (hm : Hid ((k0 == 2 || k0 == 3) = false)) (w1 : Hid (wB k1 (0) = true)) (w2 : Hid (wB k2 (0) = true)) (w3 : Hid (wB k3 (0) = false)) :
    Calls Tryz.prog 42 #[(Value.agg #[.int .i64 k0, .int .i64 k1, .int .i64 k2, .int .i64 k3, .int .u32 k4])] w fun e w' => e = .returned v ∧ Below w.heap.size w w' := by
  have n0 : (w.alloc (.cells #[.int .i64 k0, .int .i64 k1, .int .i64 k2, .int .i64 k3, .int .u32 k4] 31)).cell? ⟨1, 0, none⟩ = some v := (World.cell?_alloc_lt w _ ⟨1, 0, none⟩ hl).trans hv
  go_enter Tryz.func42, Tryz.ntmps42
  go_wp2_with (first
    | (go_at_call 69; (with_reducible refine (kwithin_b _ _ _ hk _).mono ?_); rintro e w1 ⟨rfl, rfl⟩)
    | (go_at_call 70; refine (kplaces_is k0 _ hp.out _).mono ?_; rintro e w1 ⟨rfl, rfl⟩)
    | (go_at_call 71; refine (kmay_b k0 _ hm _).mono ?_; rintro e w1 ⟨rfl, rfl⟩))
  go_quiet ((first | (go_at_call 69; with_reducible exact kquiet_left (kwithin_b _ _ _ w1 _)) | (go_at_call 69; with_reducible exact kquiet_left (kwithin_b _ _ _ w2 _)) | (go_at_call 69; with_reducible exact kquiet_left (kwithin_b _ _ _ w3 _))))
  go_wp2
  go_ret
  exact ⟨rfl, below_drewN ((Below.refl _ _).alloc (Nat.le_refl _) _) _⟩
set_option maxRecDepth 100000 in
set_option maxHeartbeats 400000 in
theorem kway_n_b4 (k0 k1 k2 k3 k4 : Int) (d : Int) (w : World) (v : Value) (hl : 1 < w.heap.size) (hv : w.cell? ⟨1, 0, none⟩ = some v) (hk : Hid (wB k0 14 = true)) (hp : Hid (placesOf k0 = 0)) (hm : Hid ((k0 == 2 || k0 == 3) = false)) (w1 : Hid (wB k1 (0) = true)) (w2 : Hid (wB k2 (0) = true)) (w3 : Hid (wB k3 (0) = true)) (hd : Hid (dataMost k0 = d)) (h4 : d < k4) :
    Calls Tryz.prog 42 #[(Value.agg #[.int .i64 k0, .int .i64 k1, .int .i64 k2, .int .i64 k3, .int .u32 k4])] w fun e w' => e = .returned v ∧ Below w.heap.size w w' := by
  have n0 : (w.alloc (.cells #[.int .i64 k0, .int .i64 k1, .int .i64 k2, .int .i64 k3, .int .u32 k4] 31)).cell? ⟨1, 0, none⟩ = some v := (World.cell?_alloc_lt w _ ⟨1, 0, none⟩ hl).trans hv
  have d4 : decide (d < k4) = true := by simp; omega
  go_enter Tryz.func42, Tryz.ntmps42
  go_wp2_with (first
    | (go_at_call 69; (with_reducible refine (kwithin_b _ _ _ hk _).mono ?_); rintro e w1 ⟨rfl, rfl⟩)
    | (go_at_call 70; refine (kplaces_is k0 _ hp.out _).mono ?_; rintro e w1 ⟨rfl, rfl⟩)
    | (go_at_call 71; refine (kmay_b k0 _ hm _).mono ?_; rintro e w1 ⟨rfl, rfl⟩))
  go_quiet ((first | (go_at_call 69; with_reducible exact kquiet_left (kwithin_b _ _ _ w1 _)) | (go_at_call 69; with_reducible exact kquiet_left (kwithin_b _ _ _ w2 _)) | (go_at_call 69; with_reducible exact kquiet_left (kwithin_b _ _ _ w3 _)) | (go_at_call 72; with_reducible exact kquiet_left (kmaxdata_is k0 _ hd.out _))))
  go_wp2
  go_ret
  exact ⟨rfl, below_drewN ((Below.refl _ _).alloc (Nat.le_refl _) _) _⟩
end Go.Proofs.YtllcakiomihipaaGreatDoor
namespace Go.Proofs.YtllcakiomihipaaGreatDoor
open Go.ChangeShapes Go.WideShapes Go.ChangeAt Go.RowKit
set_option linter.unusedVariables false
def hidOf (k : Int) : Int := if 0 < placesOf k then placesOf k - 1 else 0
def hverOf (k : Int) : Int := if 0 < placesOf k then 1048575 else 0
def hrOf (k : Int) : Int := if (k == 2 || k == 3) = true then 7 else 0
/-- Is this a right key? -/
def rightB (k0 k1 k2 k3 k4 : Int) : Bool := wB k0 14 && (wB k1 (hidOf k0) && (wB k2 (hverOf k0) && (wB k3 (hrOf k0) && decide (k4 ≤ dataMost k0))))
/-- What the program says of a key: nothing, or which error. -/
def kErr (vs vr : Value) (k0 k1 k2 k3 k4 : Int) : Value := if rightB k0 k1 k2 k3 k4 = true then .nilIface else if wB k0 14 = true then vr else vs
theorem placesOf_le (k : Int) : placesOf k ≤ 256 := by unfold placesOf; repeat' split
                                                       all_goals omega
theorem placesOf_ge (k : Int) : 0 ≤ placesOf k := by unfold placesOf; repeat' split
                                                     all_goals omega
/-- The two errors lie in their variables. -/
def ErrsAt (vs vr : Value) (w : World) : Prop := w.cell? ⟨3, 0, none⟩ = some vs ∧ w.cell? ⟨1, 0, none⟩ = some vr ∧ 3 < w.heap.size ∧ 1 < w.heap.size
theorem ErrsAt.below {vs vr : Value} {w w' : World} (h : ErrsAt vs vr w) (hb : Below w.heap.size w w') : ErrsAt vs vr w' :=
  ⟨(hb.cell (p := ⟨3, 0, none⟩) h.2.2.1).trans h.1, (hb.cell (p := ⟨1, 0, none⟩) h.2.2.2).trans h.2.1, by have := h.2.2.1; have := hb.size; omega, by have := h.2.2.2; have := hb.size; omega⟩
theorem kvalid_any (k0 k1 k2 k3 k4 : Int) (vs vr : Value) (w : World) (hE : ErrsAt vs vr w) :
    Calls Tryz.prog 42 #[(Value.agg #[.int .i64 k0, .int .i64 k1, .int .i64 k2, .int .i64 k3, .int .u32 k4])] w fun e w' => e = .returned (kErr vs vr k0 k1 k2 k3 k4) ∧ Below w.heap.size w w' := by
  obtain ⟨hs, hr, ls, lr⟩ := hE
  by_cases b0 : wB k0 14 = true
  rotate_left
  · have e : kErr vs vr k0 k1 k2 k3 k4 = vs := by simp [kErr, rightB, b0]
    rw [e]
    exact kvalid_shape k0 k1 k2 k3 k4 vs (Lib.hid (by simpa [wB] using b0)) w ls hs
  have hm : (k0 == 2 || k0 == 3) = true ∨ (k0 == 2 || k0 == 3) = false := by cases (k0 == 2 || k0 == 3) <;> simp
  have hP0 := placesOf_ge k0
  have hP9 := placesOf_le k0
  rcases hm with hm | hm
  · have hP : 0 < placesOf k0 := by
      simp at hm
      rcases hm with rfl | rfl <;> decide
    by_cases b1 : wB k1 (placesOf k0 - 1) = true
    rotate_left
    · have e : kErr vs vr k0 k1 k2 k3 k4 = vr := by simp [kErr, rightB, hidOf, hP, b0, b1]
      rw [e]; exact kway_m_b1 k0 k1 k2 k3 k4 _ w hP hP9 vr lr hr (Lib.hid b0) (Lib.hid rfl) (Lib.hid hm) (Lib.hid (by simpa using b1))
    by_cases b2 : wB k2 1048575 = true
    rotate_left
    · have e : kErr vs vr k0 k1 k2 k3 k4 = vr := by simp [kErr, rightB, hverOf, hP, b0, b2]
      rw [e]; exact kway_m_b2 k0 k1 k2 k3 k4 _ w hP hP9 vr lr hr (Lib.hid b0) (Lib.hid rfl) (Lib.hid hm) (Lib.hid b1) (Lib.hid (by simpa using b2))
    by_cases b3 : wB k3 7 = true
    rotate_left
    · have e : kErr vs vr k0 k1 k2 k3 k4 = vr := by simp only [kErr, rightB, hrOf, if_pos hm, b0]; simp [b3]
      rw [e]; exact kway_m_b3 k0 k1 k2 k3 k4 _ w hP hP9 vr lr hr (Lib.hid b0) (Lib.hid rfl) (Lib.hid hm) (Lib.hid b1) (Lib.hid b2) (Lib.hid (by simpa using b3))
    by_cases b4 : k4 ≤ dataMost k0
    rotate_left
    · have e : kErr vs vr k0 k1 k2 k3 k4 = vr := by simp [kErr, rightB, b0, b4]
      rw [e]; exact kway_m_b4 k0 k1 k2 k3 k4 _ _ w hP hP9 vr lr hr (Lib.hid b0) (Lib.hid rfl) (Lib.hid hm) (Lib.hid b1) (Lib.hid b2) (Lib.hid b3) (Lib.hid rfl) (by omega)
    have e : kErr vs vr k0 k1 k2 k3 k4 = .nilIface := by
      have : rightB k0 k1 k2 k3 k4 = true := by simp only [rightB, hidOf, hverOf, hrOf, if_pos hP, if_pos hm, b0, b1, b2, b3]; simp [b4]
      simp [kErr, this]
    rw [e]; exact kway_m_ok k0 k1 k2 k3 k4 _ _ w hP hP9 (Lib.hid b0) (Lib.hid rfl) (Lib.hid hm) (Lib.hid b1) (Lib.hid b2) (Lib.hid b3) (Lib.hid rfl) b4
  · have hr0 : hrOf k0 = 0 := by simp only [hrOf, hm]; simp
    by_cases hP : 0 < placesOf k0
    · by_cases b1 : wB k1 (placesOf k0 - 1) = true
      rotate_left
      · have e : kErr vs vr k0 k1 k2 k3 k4 = vr := by simp [kErr, rightB, hidOf, hP, b0, b1]
        rw [e]; exact kway_p_b1 k0 k1 k2 k3 k4 _ w hP hP9 vr lr hr (Lib.hid b0) (Lib.hid rfl) (Lib.hid hm) (Lib.hid (by simpa using b1))
      by_cases b2 : wB k2 1048575 = true
      rotate_left
      · have e : kErr vs vr k0 k1 k2 k3 k4 = vr := by simp [kErr, rightB, hverOf, hP, b0, b2]
        rw [e]; exact kway_p_b2 k0 k1 k2 k3 k4 _ w hP hP9 vr lr hr (Lib.hid b0) (Lib.hid rfl) (Lib.hid hm) (Lib.hid b1) (Lib.hid (by simpa using b2))
      by_cases b3 : wB k3 0 = true
      rotate_left
      · have e : kErr vs vr k0 k1 k2 k3 k4 = vr := by simp [kErr, rightB, hr0, b0, b3]
        rw [e]; exact kway_p_b3 k0 k1 k2 k3 k4 _ w hP hP9 vr lr hr (Lib.hid b0) (Lib.hid rfl) (Lib.hid hm) (Lib.hid b1) (Lib.hid b2) (Lib.hid (by simpa using b3))
      by_cases b4 : k4 ≤ dataMost k0
      rotate_left
      · have e : kErr vs vr k0 k1 k2 k3 k4 = vr := by simp [kErr, rightB, b0, b4]
        rw [e]; exact kway_p_b4 k0 k1 k2 k3 k4 _ _ w hP hP9 vr lr hr (Lib.hid b0) (Lib.hid rfl) (Lib.hid hm) (Lib.hid b1) (Lib.hid b2) (Lib.hid b3) (Lib.hid rfl) (by omega)
      have e : kErr vs vr k0 k1 k2 k3 k4 = .nilIface := by
        have : rightB k0 k1 k2 k3 k4 = true := by simp only [rightB, hidOf, hverOf, hr0, if_pos hP, b0, b1, b2, b3]; simp [b4]
        simp [kErr, this]
      rw [e]; exact kway_p_ok k0 k1 k2 k3 k4 _ _ w hP hP9 (Lib.hid b0) (Lib.hid rfl) (Lib.hid hm) (Lib.hid b1) (Lib.hid b2) (Lib.hid b3) (Lib.hid rfl) b4
    · have hz : placesOf k0 = 0 := by omega
      by_cases b1 : wB k1 0 = true
      rotate_left
      · have e : kErr vs vr k0 k1 k2 k3 k4 = vr := by simp [kErr, rightB, hidOf, hP, b0, b1]
        rw [e]; exact kway_n_b1 k0 k1 k2 k3 k4 w vr lr hr (Lib.hid b0) (Lib.hid hz) (Lib.hid hm) (Lib.hid (by simpa using b1))
      by_cases b2 : wB k2 0 = true
      rotate_left
      · have e : kErr vs vr k0 k1 k2 k3 k4 = vr := by simp [kErr, rightB, hverOf, hP, b0, b2]
        rw [e]; exact kway_n_b2 k0 k1 k2 k3 k4 w vr lr hr (Lib.hid b0) (Lib.hid hz) (Lib.hid hm) (Lib.hid b1) (Lib.hid (by simpa using b2))
      by_cases b3 : wB k3 0 = true
      rotate_left
      · have e : kErr vs vr k0 k1 k2 k3 k4 = vr := by simp [kErr, rightB, hr0, b0, b3]
        rw [e]; exact kway_n_b3 k0 k1 k2 k3 k4 w vr lr hr (Lib.hid b0) (Lib.hid hz) (Lib.hid hm) (Lib.hid b1) (Lib.hid b2) (Lib.hid (by simpa using b3))
      by_cases b4 : k4 ≤ dataMost k0
      rotate_left
      · have e : kErr vs vr k0 k1 k2 k3 k4 = vr := by simp [kErr, rightB, b0, b4]
        rw [e]; exact kway_n_b4 k0 k1 k2 k3 k4 _ w vr lr hr (Lib.hid b0) (Lib.hid hz) (Lib.hid hm) (Lib.hid b1) (Lib.hid b2) (Lib.hid b3) (Lib.hid rfl) (by omega)
      have e : kErr vs vr k0 k1 k2 k3 k4 = .nilIface := by
        have : rightB k0 k1 k2 k3 k4 = true := by simp only [rightB, hidOf, hverOf, hr0, if_neg hP, b0, b1, b2, b3]; simp [b4]
        simp [kErr, this]
      rw [e]; exact kway_n_ok k0 k1 k2 k3 k4 _ w (Lib.hid b0) (Lib.hid hz) (Lib.hid hm) (Lib.hid b1) (Lib.hid b2) (Lib.hid b3) (Lib.hid rfl) b4
end Go.Proofs.YtllcakiomihipaaGreatDoor
namespace Go.Proofs.YtllcakiomihipaaGreatDoor
open Go.ChangeShapes Go.WideShapes Go.ChangeAt Go.RowKit
set_option linter.unusedVariables false
set_option maxRecDepth 100000 in
theorem nnew_ok (x : Int) (n : Nat) (hx : Hid (x = n)) (h1 : 1 ≤ n) (h2 : n ≤ 256) (w : World) :
    Calls Tryz.prog 159 #[.int .i64 x] w fun e w' => ∃ P p B G, e = .returned (.tuple #[.pointer (some ⟨P, 0, none⟩), .nilIface]) ∧ NdAt w' w.heap.size P p B G n n (fun _ => false) (fun _ => 0) (fun _ b => zc b) ∧ Below w.heap.size w w' := by
  rw [hx.out]
  obtain ⟨i0, hi, hz0, hz1, hz2⟩ := info_parts infoSlots
  have HI := Lib.hid (⟨hi, hz0, hz1, hz2⟩ : Tryz.prog.info? 32 = some i0 ∧ i0.zero = some (.agg zs80.toArray) ∧ i0.size = 80 ∧ i0.bytes = 640)
  clear hi hz0 hz1 hz2 hx
  go_enter Tryz.func159, Tryz.ntmps159
  go_wp2_with (first
    | (go_at_call 110; (with_reducible refine (anew_at _ n (Lib.hid rfl) h1 h2 _).mono ?_); rintro e w1 ⟨p, B, rfl, hA, hb⟩; have HA := Lib.hid hA; have HB := Lib.hid hb; clear hA hb)
    | (at_make; refine wpList_make_full _ rfl _ _ 153 rfl w.heap.size 32 i0 (.agg zs80.toArray) 80 Tryz.underlying153 HI.out.1 HI.out.2.1 HI.out.2.2.1 .i64 .i64 _ _ n rfl rfl rfl rfl ?b2 ?b3 ?b4 ?_))
  case b2 => rw [HI.out.2.2.2]; omega
  case b3 => unfold maxLen; omega
  case b4 => exact HB.out.size
  intro w2 hown hgrow
  have HO : Hid (w2.ownsRow w.heap.size 32 80 (.slice (some ⟨w1.heap.size, 0, none⟩) n n) n (flatV (fun _ b => zc b) n)) := Lib.hid (by rw [← flatV_made]; exact hown)
  have HG := Lib.hid (show Below w1.heap.size w1 w2 from (Below.refl _ _).grown hgrow (Nat.le_refl _) (fun k hk => by cases hk))
  clear hown hgrow
  go_wp2_with fail
  go_ret2
  have hp := HA.out.pl
  have hB := HA.out.lt
  have hG := (HO.out.lt w1.heap.size rfl)
  have hs := HG.out.size
  have hs1 := HB.out.size
  have h2' : ∀ o, Below w2.heap.size w2 (w2.alloc o) := fun o => (Below.refl _ _).alloc (Nat.le_refl _) o
  exact ⟨_, p, B, w1.heap.size, rfl, ⟨by simp, by omega, by simp, by simp, (HA.out.below HG.out).below (h2' _), HO.out.alloc _, by omega, by omega, by omega, by omega⟩, (HB.out.trans (HG.out.mono HB.out.size)).alloc (Nat.le_trans HB.out.size HG.out.size) _⟩
/-- A key's field as a value. -/
def kval (q : Nat) (x : Int) : Value := if q = 4 then .int .u32 x else .int .i64 x
/-- The cells of m keys. -/
def kcs (kk : Nat → Nat → Int) (m : Nat) : List Value := (List.range (m * 5)).map fun q => kval (q % 5) (kk (q / 5) (q % 5))
theorem kcs_len (kk : Nat → Nat → Int) (m : Nat) : (kcs kk m).length = m * 5 := by simp [kcs]
/-- Keys in a row, apart from the nodes. -/
structure SrcK (w : World) (a : Option Addr) (m : Nat) (kk : Nat → Nat → Int) (B G : Nat) : Prop where
  src : ∀ i, i < m → ∃ ad, a = some ad ∧ ad.block < w.heap.size ∧ ad.block ≠ B ∧ ad.block ≠ G ∧ ∀ q, q < 5 → w.cell? (ad.add (i * 5 + q)) = some (kval q (kk i q))
theorem SrcK.kept {w w' : World} {a : Option Addr} {m : Nat} {kk : Nat → Nat → Int} {B G g : Nat} (h : SrcK w a m kk B G) (hg : w.grownBy w' (some g)) (hB : g = B ∨ g = G) : SrcK w' a m kk B G := ⟨fun i hi => by
  obtain ⟨ad, h1, h2, h3, h4, h5⟩ := h.src i hi
  refine ⟨ad, h1, Nat.lt_of_lt_of_le h2 hg.size, h3, h4, fun q hq => (World.cell?_of_block (a := ad.add (i * 5 + q)) ?_).trans (h5 q hq)⟩
  rw [add_block']
  exact hg.block _ h2 (fun e => by injection e with e; rcases hB with rfl | rfl; exact h3 e; exact h4 e)⟩
theorem SrcK.below {w w' : World} {a : Option Addr} {m : Nat} {kk : Nat → Nat → Int} {B G : Nat} (h : SrcK w a m kk B G) (hb : Below w.heap.size w w') : SrcK w' a m kk B G := ⟨fun i hi => by
  obtain ⟨ad, h1, h2, h3, h4, h5⟩ := h.src i hi
  exact ⟨ad, h1, Nat.lt_of_lt_of_le h2 hb.size, h3, h4, fun q hq => (hb.cell (p := ad.add (i * 5 + q)) (by rw [add_block']; exact h2)).trans (h5 q hq)⟩⟩
/-- One key, with letters. -/
def InK (w : World) (e : Addr) (y0 y1 y2 y3 y4 : Int) : Prop := w.cell? e = some (.int .i64 y0) ∧ w.cell? ⟨e.block, e.off + 1, none⟩ = some (.int .i64 y1) ∧ w.cell? ⟨e.block, e.off + 2, none⟩ = some (.int .i64 y2) ∧ w.cell? ⟨e.block, e.off + 3, none⟩ = some (.int .i64 y3) ∧ w.cell? ⟨e.block, e.off + 4, none⟩ = some (.int .u32 y4)
theorem add_more (ad : Addr) (i j : Nat) : ad.add (i + (j + 1)) = ⟨(ad.add i).block, (ad.add i).off + (j + 1), none⟩ := by
  rw [← Go.Deep.add_add]
  rfl
theorem SrcK.in {w : World} {a : Option Addr} {m : Nat} {kk : Nat → Nat → Int} {B G : Nat} (h : SrcK w a m kk B G) (i : Nat) (hi : i < m) : ∃ ad, a = some ad ∧ InK w (ad.add (i * 5)) (kk i 0) (kk i 1) (kk i 2) (kk i 3) (kk i 4) := by
  obtain ⟨ad, h1, _, _, _, h5⟩ := h.src i hi
  have h50 := h5 0 (by decide)
  have h51 := h5 1 (by decide)
  have h52 := h5 2 (by decide)
  have h53 := h5 3 (by decide)
  have h54 := h5 4 (by decide)
  rw [add_more ad (i * 5) 0] at h51
  rw [add_more ad (i * 5) 1] at h52
  rw [add_more ad (i * 5) 2] at h53
  rw [add_more ad (i * 5) 3] at h54
  exact ⟨ad, h1, h50, h51, h52, h53, h54⟩
theorem SrcK.list {w : World} {a : Option Addr} {m : Nat} {kk : Nat → Nat → Int} {B G : Nat} (h : SrcK w a m kk B G) : 0 < m → ∃ ad, a = some ad ∧ ∀ j v, (kcs kk m)[j]? = some v → w.cell? (ad.add j) = some v := by
  intro h0
  obtain ⟨ad, h1, _⟩ := h.src 0 h0
  refine ⟨ad, h1, fun j v hj => ?_⟩
  have hlt : j < m * 5 := by
    rcases Nat.lt_or_ge j (m * 5) with h' | h'
    · exact h'
    · rw [List.getElem?_eq_none (by rw [kcs_len]; omega)] at hj; cases hj
  obtain ⟨ad', e1, _, _, _, h5⟩ := h.src (j / 5) (by omega)
  obtain rfl : ad = ad' := by rw [h1] at e1; exact Option.some.inj e1
  have h6 := h5 (j % 5) (by omega)
  rw [show j / 5 * 5 + j % 5 = j by omega] at h6
  rw [h6]
  simp only [kcs, List.getElem?_map, List.getElem?_range hlt, Option.map_some] at hj
  exact hj
theorem nvalid_ok (k0 k1 k2 k3 k4 : Int) (hk : Hid (rightB k0 k1 k2 k3 k4 = true)) (vs vr : Value) (w : World) (hE : ErrsAt vs vr w) :
    Calls Tryz.prog 42 #[(Value.agg #[.int .i64 k0, .int .i64 k1, .int .i64 k2, .int .i64 k3, .int .u32 k4])] w fun e w' => e = .returned .nilIface ∧ Below w.heap.size w w' :=
  (kvalid_any k0 k1 k2 k3 k4 vs vr w hE).mono fun e w' ⟨h1, h2⟩ => ⟨by rw [h1]; unfold kErr; rw [if_pos hk.out], h2⟩
def KRight (kk : Nat → Nat → Int) (i : Nat) : Prop := rightB (kk i 0) (kk i 1) (kk i 2) (kk i 3) (kk i 4) = true
end Go.Proofs.YtllcakiomihipaaGreatDoor
namespace Go.Proofs.YtllcakiomihipaaGreatDoor
open Go.ChangeShapes Go.WideShapes Go.ChangeAt Go.RowKit
set_option linter.unusedVariables false
/-- What a node of these cells is. -/
def freshV (W : Nat → Nat → Value) (i : Nat) (xs : List Value) : Nat → Nat → Value := updV (updV W i 0 zs80) i 0 xs
theorem freshV_other (W : Nat → Nat → Value) (i : Nat) (xs : List Value) (a b : Nat) (h : a ≠ i) : freshV W i xs a b = W a b := by
  unfold freshV updV
  rw [if_neg (fun e => h e.1), if_neg (fun e => h e.1)]
theorem freshV_out (W : Nat → Nat → Value) (i : Nat) (xs : List Value) (b : Nat) (h : xs.length ≤ b) (hb : b < 80) : freshV W i xs i b = zc b := by
  unfold freshV
  rw [updV, if_neg (by omega), updV, if_pos ⟨rfl, by omega, by rw [zs80_len]; omega⟩]
  simp [List.getD, zs80, hb]
end Go.Proofs.YtllcakiomihipaaGreatDoor
namespace Go.Proofs.YtllcakiomihipaaGreatDoor
open Go.ChangeShapes Go.WideShapes Go.ChangeAt Go.RowKit
set_option linter.unusedVariables false
/-- Nodes over a law's start. -/
structure NV (W0 w : World) (base P p B G n c : Nat) (th : Nat → Bool) (vr_ : Nat → Int) (W : Nat → Nat → Value) : Prop where
  bel : Below W0.heap.size W0 w
  wb : W0.heap.size ≤ base
  nd : NdAt w base P p B G n c th vr_ W
section
variable {W0 w w' : World} {base P p B G n c : Nat} {th th' : Nat → Bool} {vr_ vr' : Nat → Int} {W W' : Nat → Nat → Value}
theorem NV.lo (h : NV W0 w base P p B G n c th vr_ W) : W0.heap.size ≤ B ∧ W0.heap.size ≤ G := ⟨Nat.le_trans h.wb h.nd.ar.lt.1, Nat.le_trans h.wb (h.nd.row.lt G rfl).1⟩
theorem NV.step (h : NV W0 w base P p B G n c th vr_ W) (hb : Below w.heap.size w w') : NV W0 w' base P p B G n c th vr_ W := ⟨h.bel.trans (hb.mono h.bel.size), h.wb, h.nd.below hb⟩
theorem NV.made (h : NV W0 w base P p B G n c th vr_ W) (hP : NdAt w' base P p B G n c th' vr' W') (hb : PBelow w w' B G) : NV W0 w' base P p B G n c th' vr' W' := ⟨h.bel.trans (hb.below h.lo.1 h.lo.2 h.bel.size), h.wb, hP⟩
end
end Go.Proofs.YtllcakiomihipaaGreatDoor
namespace Go.Proofs.YtllcakiomihipaaGreatDoor
open Go.ChangeShapes Go.WideShapes Go.ChangeAt Go.RowKit
set_option linter.unusedVariables false
theorem five (q : Nat) (h : q < 5) : q = 0 ∨ q = 1 ∨ q = 2 ∨ q = 3 ∨ q = 4 := by omega
/-- One key's cells. -/
def k5 (y0 y1 y2 y3 y4 : Int) : List Value := [.int .i64 y0, .int .i64 y1, .int .i64 y2, .int .i64 y3, .int .u32 y4]
theorem kcs_at (kk : Nat → Nat → Int) (m i q : Nat) (hi : i < m) (hq : q < 5) : (kcs kk m)[i * 5 + q]? = some (kval q (kk i q)) := by
  have h1 : i * 5 + q < m * 5 := by omega
  have h2 : (i * 5 + q) / 5 = i := by omega
  have h3 : (i * 5 + q) % 5 = q := by omega
  simp [kcs, h1, h2, h3]
/-- A row of keys of the law's own. -/
def KR (w : World) (bs g c' m : Nat) (kk : Nat → Nat → Int) : Prop := w.ownsRow bs 31 5 (.slice (some ⟨g, 0, none⟩) m c') m (kcs kk m)
theorem KR.src {w : World} {bs g c' m B G : Nat} {kk : Nat → Nat → Int} (h : KR w bs g c' m kk) (hB : B < bs) (hG : G < bs) : SrcK w (some ⟨g, 0, none⟩) m kk B G := ⟨fun i hi => by
  have hl := World.ownsRow.lt h g rfl
  refine ⟨⟨g, 0, none⟩, rfl, hl.2, by simp; omega, by simp; omega, fun q hq => ?_⟩
  rw [show Addr.add ⟨g, 0, none⟩ (i * 5 + q) = ⟨g, i * 5 + q, none⟩ by (unfold Addr.add; split <;> simp_all)]
  rw [World.ownsRow.cellAt h (i * 5 + q) (by omega)]
  exact kcs_at kk m i q hi hq⟩
theorem KR.lo {w : World} {bs g c' m : Nat} {kk : Nat → Nat → Int} (h : KR w bs g c' m kk) : bs ≤ g ∧ g < w.heap.size := World.ownsRow.lt h g rfl
theorem KR.same {w w' : World} {bs g c' m : Nat} {kk : Nat → Nat → Int} (h : KR w bs g c' m kk) (hb : w'.heap[g]? = w.heap[g]?) : KR w' bs g c' m kk := by
  refine ⟨h.1, ?_⟩
  rcases h.2 with hn | ⟨g1, cap, cur, hv, hB, hg, rest⟩
  · exact .inl hn
  · refine .inr ⟨g1, cap, cur, hv, hB, ?_, rest⟩
    have : g1 = g := by injection hv with e1 _ _; injection e1 with e1; injection e1 with e1; exact e1.symm
    rw [this] at hg ⊢
    rw [hb]
    exact hg
theorem KR.below {w w' : World} {bs g c' m : Nat} {kk : Nat → Nat → Int} (h : KR w bs g c' m kk) (hb : Below w.heap.size w w') : KR w' bs g c' m kk := h.same (hb.block g h.lo.2)
theorem KR.made {w w' : World} {bs g c' m B G : Nat} {kk : Nat → Nat → Int} (h : KR w bs g c' m kk) (hb : PBelow w w' B G) (hB : B < bs) (hG : G < bs) : KR w' bs g c' m kk := h.same (hb.2.2.2.2 g h.lo.2 (by have := h.lo.1; omega) (by have := h.lo.1; omega))
/-- Numbers, one behind the other. -/
def kkN (i q : Nat) : Int := if q = 0 then 1 else if q = 4 then (i : Int) else 0
/-- One key anew. -/
def kkS (kk : Nat → Nat → Int) (r : Nat) (y0 y1 y2 y3 y4 : Int) : Nat → Nat → Int := fun i q => if i = r then (if q = 0 then y0 else if q = 1 then y1 else if q = 2 then y2 else if q = 3 then y3 else y4) else kk i q
theorem kcs_set (kk : Nat → Nat → Int) (m r : Nat) (y0 y1 y2 y3 y4 : Int) (hr : r < m) : over (kcs kk m) (r * 5) (k5 y0 y1 y2 y3 y4) = kcs (kkS kk r y0 y1 y2 y3 y4) m := by
  apply List.ext_getElem?
  intro j
  have hl : (k5 y0 y1 y2 y3 y4).length = 5 := rfl
  rw [over_get _ _ _ _ (by rw [hl, kcs_len]; omega), hl]
  by_cases hj : j < m * 5
  · have e1 : j = j / 5 * 5 + j % 5 := by omega
    have hq : j % 5 < 5 := by omega
    have hi : j / 5 < m := by omega
    rw [show (kcs (kkS kk r y0 y1 y2 y3 y4) m)[j]? = some (kval (j % 5) (kkS kk r y0 y1 y2 y3 y4 (j / 5) (j % 5))) by (have h := kcs_at (kkS kk r y0 y1 y2 y3 y4) m (j / 5) (j % 5) hi hq; rwa [← e1] at h)]
    rw [show (kcs kk m)[j]? = some (kval (j % 5) (kk (j / 5) (j % 5))) by (have h := kcs_at kk m (j / 5) (j % 5) hi hq; rwa [← e1] at h)]
    by_cases h : r * 5 ≤ j ∧ j < r * 5 + 5
    · rw [if_pos h]
      have e2 : j / 5 = r := by omega
      have e3 : j - r * 5 = j % 5 := by omega
      rw [e2, e3]
      unfold kkS
      rw [if_pos rfl]
      generalize j % 5 = q at hq
      rcases five q hq with rfl | rfl | rfl | rfl | rfl <;> rfl
    · rw [if_neg h]
      have e2 : j / 5 ≠ r := by omega
      unfold kkS
      rw [if_neg e2]
  · rw [if_neg (by omega), List.getElem?_eq_none (by rw [kcs_len]; omega), List.getElem?_eq_none (by rw [kcs_len]; omega)]
theorem KR.set {w : World} {bs g c' m : Nat} {kk : Nat → Nat → Int} (h : KR w bs g c' m kk) (r : Nat) (hr : r < m) (y0 y1 y2 y3 y4 : Int) :
    KR (((((w.setCell ⟨g, r * 5, none⟩ (.int .i64 y0)).setCell ⟨g, r * 5 + 1, none⟩ (.int .i64 y1)).setCell ⟨g, r * 5 + 2, none⟩ (.int .i64 y2)).setCell ⟨g, r * 5 + 3, none⟩ (.int .i64 y3)).setCell ⟨g, r * 5 + 4, none⟩ (.int .u32 y4)) bs g c' m (kkS kk r y0 y1 y2 y3 y4)
    ∧ w.grownBy (((((w.setCell ⟨g, r * 5, none⟩ (.int .i64 y0)).setCell ⟨g, r * 5 + 1, none⟩ (.int .i64 y1)).setCell ⟨g, r * 5 + 2, none⟩ (.int .i64 y2)).setCell ⟨g, r * 5 + 3, none⟩ (.int .i64 y3)).setCell ⟨g, r * 5 + 4, none⟩ (.int .u32 y4)) (some g) := by
  have hs := own_setCells (k5 y0 y1 y2 y3 y4) (r * 5) _ _ h
  rw [kcs_set kk m r y0 y1 y2 y3 y4 hr] at hs
  exact hs
theorem KR.cells {w : World} {bs g c' m : Nat} {kk : Nat → Nat → Int} (h : KR w bs g c' m kk) (r q : Nat) (hr : r < m) (hq : q < 5) : w.cell? ⟨g, r * 5 + q, none⟩ = some (kval q (kk r q)) := by
  rw [World.ownsRow.cellAt h (r * 5 + q) (by omega)]
  exact kcs_at kk m r q hr hq
theorem KR.free {w : World} {bs g c' m : Nat} {kk : Nat → Nat → Int} (h : KR w bs g c' m kk) (j : Nat) : w.frozen? ⟨g, j, none⟩ = false := World.ownsRow.frozenAt h j
theorem NdAt.kept {w w' : World} {base P p B G n c g : Nat} {th : Nat → Bool} {vr_ : Nat → Int} {W : Nat → Nat → Value} (h : NdAt w base P p B G n c th vr_ W) (hg : w.grownBy w' (some g)) (h1 : P ≠ g) (h2 : p ≠ g) (h3 : B ≠ g) (h4 : G ≠ g) : NdAt w' base P p B G n c th vr_ W :=
  ⟨Nat.lt_of_lt_of_le h.pl hg.size, h.pb, (World.cell?_of_block (a := ⟨P, 0, none⟩) (hg.block P h.pl (fun e => h1 (by injection e)))).trans h.f0, (World.cell?_of_block (a := ⟨P, 1, none⟩) (hg.block P h.pl (fun e => h1 (by injection e)))).trans h.f1, h.ar.kept hg h2 h3, h.row.kept hg (.inr (fun e => h4 (by simpa [Value.ownBlock] using e))), h.n1, h.n2, h.n3, h.n4⟩
theorem NV.kept {W0 w w' : World} {base P p B G n c g : Nat} {th : Nat → Bool} {vr_ : Nat → Int} {W : Nat → Nat → Value} (h : NV W0 w base P p B G n c th vr_ W) (hg : w.grownBy w' (some g)) (h0 : W0.heap.size ≤ g) (h1 : P ≠ g) (h2 : p ≠ g) (h3 : B ≠ g) (h4 : G ≠ g) : NV W0 w' base P p B G n c th vr_ W :=
  ⟨h.bel.grown hg h.bel.size (fun k hk => by injection hk with e; omega), h.wb, h.nd.kept hg h1 h2 h3 h4⟩
end Go.Proofs.YtllcakiomihipaaGreatDoor
namespace Go.Proofs.YtllcakiomihipaaGreatDoor
open Go.ChangeShapes Go.WideShapes Go.ChangeAt Go.RowKit
set_option linter.unusedVariables false
/-- A node's cells. -/
def ndc (f : Nat → Value) : List Value := (List.range 80).map f
end Go.Proofs.YtllcakiomihipaaGreatDoor
namespace Go.Proofs.YtllcakiomihipaaGreatDoor
open Go.ChangeShapes Go.WideShapes Go.ChangeAt Go.RowKit
set_option linter.unusedVariables false
/-- A key lies in a slot. -/
def KAt (f : Nat → Value) (j : Nat) (y0 y1 y2 y3 y4 : Int) : Prop := f (j * 5) = .int .i64 y0 ∧ f (j * 5 + 1) = .int .i64 y1 ∧ f (j * 5 + 2) = .int .i64 y2 ∧ f (j * 5 + 3) = .int .i64 y3 ∧ f (j * 5 + 4) = .int .u32 y4
theorem zc_q (j q : Nat) (hq : q < 5) : zc (j * 5 + q) = kval q 0 := by
  have e : (j * 5 + q) % 5 = q := by omega
  unfold zc kval
  rw [e]
theorem freshV_nokey (W : Nat → Nat → Value) (i : Nat) (kk : Nat → Nat → Int) (m j : Nat) (hj : m ≤ j) (h16 : j < 16) : KAt (freshV W i (kcs kk m) i) j 0 0 0 0 0 := by
  have h : ∀ q, q < 5 → freshV W i (kcs kk m) i (j * 5 + q) = kval q 0 := fun q hq => (freshV_out W i _ _ (by rw [kcs_len]; omega) (by omega)).trans (zc_q j q hq)
  exact ⟨h 0 (by decide), h 1 (by decide), h 2 (by decide), h 3 (by decide), h 4 (by decide)⟩
theorem freshV_rest (W : Nat → Nat → Value) (i : Nat) (xs : List Value) (a j : Nat) (h : a ≠ i) {y0 y1 y2 y3 y4 : Int} (hk : KAt (W a) j y0 y1 y2 y3 y4) : KAt (freshV W i xs a) j y0 y1 y2 y3 y4 := by
  unfold KAt at hk ⊢
  simp only [freshV_other W i xs a _ h]
  exact hk
theorem updV_q (W : Nat → Nat → Value) (i s : Nat) (y0 y1 y2 y3 y4 : Int) (q : Nat) (hq : q < 5) : some (updV W i (s * 5) (k5 y0 y1 y2 y3 y4) i (s * 5 + q)) = (k5 y0 y1 y2 y3 y4)[q]? := by
  have hl : (k5 y0 y1 y2 y3 y4).length = 5 := rfl
  unfold updV
  rw [if_pos ⟨rfl, by omega, by rw [hl]; omega⟩, show s * 5 + q - s * 5 = q by omega]
  rcases five q hq with rfl | rfl | rfl | rfl | rfl <;> rfl
theorem updV_key (W : Nat → Nat → Value) (i s : Nat) (y0 y1 y2 y3 y4 : Int) : KAt (updV W i (s * 5) (k5 y0 y1 y2 y3 y4) i) s y0 y1 y2 y3 y4 :=
  ⟨Option.some.inj (updV_q W i s y0 y1 y2 y3 y4 0 (by decide)), Option.some.inj (updV_q W i s y0 y1 y2 y3 y4 1 (by decide)), Option.some.inj (updV_q W i s y0 y1 y2 y3 y4 2 (by decide)), Option.some.inj (updV_q W i s y0 y1 y2 y3 y4 3 (by decide)), Option.some.inj (updV_q W i s y0 y1 y2 y3 y4 4 (by decide))⟩
theorem updV_rest (W : Nat → Nat → Value) (i s a j : Nat) (z0 z1 z2 z3 z4 : Int) (h : ¬ (a = i ∧ j = s)) {y0 y1 y2 y3 y4 : Int} (hk : KAt (W a) j y0 y1 y2 y3 y4) : KAt (updV W i (s * 5) (k5 z0 z1 z2 z3 z4) a) j y0 y1 y2 y3 y4 := by
  have hl : (k5 z0 z1 z2 z3 z4).length = 5 := rfl
  have e : ∀ q, q < 5 → updV W i (s * 5) (k5 z0 z1 z2 z3 z4) a (j * 5 + q) = W a (j * 5 + q) := fun q hq => by
    unfold updV
    rw [if_neg (by rw [hl]; omega)]
  have e0 := e 0 (by decide)
  rw [Nat.add_zero] at e0
  unfold KAt at hk ⊢
  rw [e0, e 1 (by decide), e 2 (by decide), e 3 (by decide), e 4 (by decide)]
  exact hk
theorem KAt.one {f : Nat → Value} (h : ∀ j, j < 16 → ∃ y0 y1 y2 y3 y4, KAt f j y0 y1 y2 y3 y4) : ∀ b, b < 80 → (f b).oneCell' = true := by
  intro b hb
  obtain ⟨y0, y1, y2, y3, y4, h0, h1, h2, h3, h4⟩ := h (b / 5) (by omega)
  have e : b = b / 5 * 5 + b % 5 := by omega
  rcases five (b % 5) (by omega) with hq | hq | hq | hq | hq
  · rw [e, hq, Nat.add_zero, h0]; rfl
  · rw [e, hq, h1]; rfl
  · rw [e, hq, h2]; rfl
  · rw [e, hq, h3]; rfl
  · rw [e, hq, h4]; rfl
end Go.Proofs.YtllcakiomihipaaGreatDoor
namespace Go.Proofs.YtllcakiomihipaaGreatDoor
open Go.ChangeShapes Go.WideShapes Go.ChangeAt Go.RowKit
set_option linter.unusedVariables false
def zk (b : Nat) : Value := if b = 0 then .bool false else if b % 5 = 0 then .int .u32 0 else .int .i64 0
def zs31 : List Value := (List.range 31).map zk
theorem zs31_len : zs31.length = 31 := by simp [zs31]
theorem infoFac31 : (Tryz.prog.info? 161).map (fun i => (i.zero, i.size, i.bytes)) = some (some (.agg zs31.toArray), 31, 248) := by kernel_rfl
theorem zs31_get (b : Nat) (hb : b < 31) : zs31.getD b (.int .i64 0) = zk b := by simp [zs31, List.getD, hb]
theorem PlAt.congrW {T : TypeId} {s : Nat} {w : World} {base P p B G n c : Nat} {th : Nat → Bool} {vr : Nat → Int} {W W' : Nat → Nat → Value} (h : PlAt T s w base P p B G n c th vr W) (hw : ∀ i j, i < n → j < s → W i j = W' i j) (h0 : 0 < s) : PlAt T s w base P p B G n c th vr W' := by
  have e : flatS s W n = flatS s W' n := by
    apply List.ext_getElem?
    intro j
    by_cases hj : j < n * s
    · have h1 : j / s < n := by rw [Nat.div_lt_iff_lt_mul h0]; exact hj
      simp [flatS, hj, hw (j / s) (j % s) h1 (Nat.mod_lt _ h0)]
    · rw [List.getElem?_eq_none (by rw [flatS_len]; omega), List.getElem?_eq_none (by rw [flatS_len]; omega)]
  exact ⟨h.pl, h.pb, h.f0, h.f1, h.ar, by rw [← e]; exact h.row, h.n1, h.n2, h.n3, h.n4⟩
set_option maxRecDepth 100000 in
theorem mknew_ok (x : Int) (n : Nat) (hx : Hid (x = n)) (h1 : 1 ≤ n) (h2 : n ≤ 256) (w : World) :
    Calls Tryz.prog 80 #[.int .i64 x] w fun e w' => ∃ P p B G, e = .returned (.tuple #[.pointer (some ⟨P, 0, none⟩), .nilIface]) ∧ PlAt 161 31 w' w.heap.size P p B G n n (fun _ => false) (fun _ => 0) (fun _ b => zk b) ∧ Below w.heap.size w w' := by
  rw [hx.out]
  obtain ⟨i0, hi, hz0, hz1, hz2⟩ := info_parts infoFac31
  have HI := Lib.hid (⟨hi, hz0, hz1, hz2⟩ : Tryz.prog.info? 161 = some i0 ∧ i0.zero = some (.agg zs31.toArray) ∧ i0.size = 31 ∧ i0.bytes = 248)
  clear hi hz0 hz1 hz2 hx
  go_enter Tryz.func80, Tryz.ntmps80
  go_wp2_with (first
    | (go_at_call 110; (with_reducible refine (anew_at _ n (Lib.hid rfl) h1 h2 _).mono ?_); rintro e w1 ⟨p, B, rfl, hA, hb⟩; have HA := Lib.hid hA; have HB := Lib.hid hb; clear hA hb)
    | (at_make; refine wpList_make_full _ rfl _ _ 116 rfl w.heap.size 161 i0 (.agg zs31.toArray) 31 Tryz.underlying116 HI.out.1 HI.out.2.1 HI.out.2.2.1 .i64 .i64 _ _ n rfl rfl rfl rfl ?b2 ?b3 ?b4 ?_))
  case b2 => rw [HI.out.2.2.2]; omega
  case b3 => unfold maxLen; omega
  case b4 => exact HB.out.size
  intro w2 hown hgrow
  have HO : Hid (w2.ownsRow w.heap.size 161 31 (.slice (some ⟨w1.heap.size, 0, none⟩) n n) n (flatS 31 (fun _ b => zs31.getD b (.int .i64 0)) n)) := Lib.hid (by
    have h := flatS_made zs31 n (by rw [zs31_len]; decide)
    rw [zs31_len] at h
    rw [← h]; exact hown)
  have HG := Lib.hid (show Below w1.heap.size w1 w2 from (Below.refl _ _).grown hgrow (Nat.le_refl _) (fun k hk => by cases hk))
  clear hown hgrow
  go_wp2_with fail
  go_ret2
  have hp := HA.out.pl
  have hB := HA.out.lt
  have hG := (HO.out.lt w1.heap.size rfl)
  have hs := HG.out.size
  have hs1 := HB.out.size
  have h2' : ∀ o, Below w2.heap.size w2 (w2.alloc o) := fun o => (Below.refl _ _).alloc (Nat.le_refl _) o
  refine ⟨_, p, B, w1.heap.size, rfl, PlAt.congrW (W := fun _ b => zs31.getD b (.int .i64 0)) ⟨by simp, by omega, by simp, by simp, (HA.out.below HG.out).below (h2' _), HO.out.alloc _, by omega, by omega, by omega, by omega⟩ (fun i j _ hj => zs31_get j hj) (by decide), (HB.out.trans (HG.out.mono HB.out.size)).alloc (Nat.le_trans HB.out.size HG.out.size) _⟩
end Go.Proofs.YtllcakiomihipaaGreatDoor
namespace Go.Proofs.YtllcakiomihipaaGreatDoor
open Go.ChangeShapes Go.WideShapes Go.ChangeAt Go.RowKit
set_option linter.unusedVariables false
set_option linter.unusedSimpArgs false
/-- The cells of a domain that is nothing yet. -/
def zd (b : Nat) : Value := if b < 9 then .int .u32 0 else if b < 11 then .int .i64 0 else if b = 106 then .int .i64 0 else if (b - 11) % 5 = 4 then .int .u32 0 else .int .i64 0
/-- .. and of one that is Available. -/
def zd1 (b : Nat) : Value := if b = 9 then .int .i64 1 else zd b
def zsD : List Value := (List.range 107).map zd
def zsD1 : List Value := (List.range 107).map zd1
def zq (b : Nat) : Value := if b = 0 then .slice none 0 0 else .map none
def zsQ : List Value := [.slice none 0 0, .map none]
theorem zsD_len : zsD.length = 107 := by simp [zsD]
theorem zsD1_len : zsD1.length = 107 := by simp [zsD1]
theorem infoDom : (Tryz.prog.info? 34).map (fun i => (i.zero, i.size, i.bytes)) = some (some (.agg zsD.toArray), 107, 824) := by kernel_rfl
theorem infoQue : (Tryz.prog.info? 101).map (fun i => (i.zero, i.size, i.bytes)) = some (some (.agg zsQ.toArray), 2, 32) := by kernel_rfl
theorem zsD_get (b : Nat) (hb : b < 107) : zsD.getD b (.int .i64 0) = zd b := by simp [zsD, List.getD, hb]
theorem zd_one (b : Nat) : (zd b).oneCell' = true := by
  unfold zd
  repeat' split
  all_goals rfl
theorem zsD1_one : ∀ v ∈ zsD1, v.oneCell' = true := by
  intro v hv
  obtain ⟨x, _, rfl⟩ := List.mem_map.1 hv
  unfold zd1
  split
  · rfl
  · exact zd_one _
/-- Domains at block P: their arena; their cells at block G; nobody waits for any of them. -/
structure DsAt (w : World) (base P p B G Q n c : Nat) (th : Nat → Bool) (vr : Nat → Int) (W : Nat → Nat → Value) : Prop where
  pl : PlAt 34 107 w base P p B G n c th vr W
  f2 : w.cell? ⟨P, 2, none⟩ = some (.slice (some ⟨Q, 0, none⟩) n n)
  qs : w.ownsRow base 101 2 (.slice (some ⟨Q, 0, none⟩) n n) n (flatS 2 (fun _ b => zq b) n)
  q1 : P ≠ Q
  q2 : Q ≠ B
  q3 : Q ≠ G
section
variable {w w' : World} {base P p B G Q n c : Nat} {th th' : Nat → Bool} {vr vr' : Nat → Int} {W W' : Nat → Nat → Value}
theorem DsAt.below (h : DsAt w base P p B G Q n c th vr W) (hb : Below w.heap.size w w') : DsAt w' base P p B G Q n c th vr W :=
  ⟨h.pl.below hb, (hb.cell (p := ⟨P, 2, none⟩) h.pl.pl).trans h.f2, own_below h.qs hb, h.q1, h.q2, h.q3⟩
theorem DsAt.turn (h : DsAt w base P p B G Q n c th vr W) (hA : ArAt w' base p B n c th' vr') (hg : w.grownBy w' (some B)) : DsAt w' base P p B G Q n c th' vr' W :=
  ⟨h.pl.turn hA hg, (World.cell?_of_block (a := ⟨P, 2, none⟩) (hg.block P h.pl.pl (fun e => h.pl.n1 (by injection e)))).trans h.f2, h.qs.kept hg (.inr (fun e => h.q2 (by simpa [Value.ownBlock] using e))), h.q1, h.q2, h.q3⟩
theorem DsAt.cells (h : DsAt w base P p B G Q n c th vr W) (i o : Nat) (hi : i < n) (xs : List Value) (hx : o + xs.length ≤ 107) : DsAt (w.setCells G (i * 107 + o) xs) base P p B G Q n c th vr (updS W i o xs) ∧ w.grownBy (w.setCells G (i * 107 + o) xs) (some G) := by
  have hs := h.pl.cells i o hi xs hx
  exact ⟨⟨hs.1, (World.cell?_of_block (a := ⟨P, 2, none⟩) (hs.2.block P h.pl.pl (fun e => h.pl.n2 (by injection e)))).trans h.f2, h.qs.kept hs.2 (.inr (fun e => h.q3 (by simpa [Value.ownBlock] using e))), h.q1, h.q2, h.q3⟩, hs.2⟩
theorem DsAt.queue (h : DsAt w base P p B G Q n c th vr W) (i : Nat) (hi : i < n) : w.cell? ⟨Q, i * 2, none⟩ = some (.slice none 0 0) ∧ w.cell? ⟨Q, i * 2 + 1, none⟩ = some (.map none) := by
  constructor
  · rw [h.qs.cellAt (i * 2) (by omega), ← Nat.add_zero (i * 2), flatS_at 2 _ n i 0 hi (by decide)]; rfl
  · rw [h.qs.cellAt (i * 2 + 1) (by omega), flatS_at 2 _ n i 1 hi (by decide)]; rfl
theorem DsAt.same (h : DsAt w base P p B G Q n c th vr W) (hs : w.heap.size ≤ w'.heap.size) (hk : ∀ k, base ≤ k → k < w.heap.size → w'.heap[k]? = w.heap[k]?) : DsAt w' base P p B G Q n c th vr W := by
  have hP := hk P h.pl.pb h.pl.pl
  have hp := hk p h.pl.ar.pb h.pl.ar.pl
  have hB := hk B h.pl.ar.lt.1 h.pl.ar.lt.2
  have hG := hk G h.pl.gl.1 h.pl.gl.2
  have hQ := hk Q (h.qs.lt Q rfl).1 (h.qs.lt Q rfl).2
  have row : ∀ {e s m : Nat} {g : Nat} {xs : List Value}, w.ownsRow base e s (.slice (some ⟨g, 0, none⟩) m m) m xs → w'.heap[g]? = w.heap[g]? → w'.ownsRow base e s (.slice (some ⟨g, 0, none⟩) m m) m xs := fun {e s m g xs} hr hb => by
    refine ⟨hr.1, ?_⟩
    rcases hr.2 with hn | ⟨g', cap, cur, e', hB, hg, rest⟩
    · exact .inl hn
    · refine .inr ⟨g', cap, cur, e', hB, ?_, rest⟩
      simp at e'
      rw [← e'.1, hb, e'.1]; exact hg
  refine ⟨⟨Nat.lt_of_lt_of_le h.pl.pl hs, h.pl.pb, (World.cell?_of_block (a := ⟨P, 0, none⟩) hP).trans h.pl.f0, (World.cell?_of_block (a := ⟨P, 1, none⟩) hP).trans h.pl.f1, ⟨Nat.lt_of_lt_of_le h.pl.ar.pl hs, h.pl.ar.pb, (World.cell?_of_block (a := ⟨p, 0, none⟩) hp).trans h.pl.ar.fld, ?_, h.pl.ar.ne, h.pl.ar.le⟩, row h.pl.row hG, h.pl.n1, h.pl.n2, h.pl.n3, h.pl.n4⟩, (World.cell?_of_block (a := ⟨P, 2, none⟩) hP).trans h.f2, row h.qs hQ, h.q1, h.q2, h.q3⟩
  refine ⟨h.pl.ar.own.1, ?_⟩
  rcases h.pl.ar.own.2 with hn | ⟨g', cap, cur, e', hB', hg, rest⟩
  · exact .inl hn
  · refine .inr ⟨g', cap, cur, e', hB', ?_, rest⟩
    simp at e'
    rw [← e'.1, hB, e'.1]; exact hg
end
theorem zsQ_get (b : Nat) (hb : b < 2) : zsQ.getD b (.int .i64 0) = zq b := by
  rcases (show b = 0 ∨ b = 1 by omega) with rfl | rfl <;> rfl
theorem flatS_congr (s : Nat) (W W' : Nat → Nat → Value) (n : Nat) (h0 : 0 < s) (hw : ∀ i j, i < n → j < s → W i j = W' i j) : flatS s W n = flatS s W' n := by
  apply List.ext_getElem?
  intro j
  by_cases hj : j < n * s
  · have h1 : j / s < n := by rw [Nat.div_lt_iff_lt_mul h0]; exact hj
    simp [flatS, hj, hw (j / s) (j % s) h1 (Nat.mod_lt _ h0)]
  · rw [List.getElem?_eq_none (by rw [flatS_len]; omega), List.getElem?_eq_none (by rw [flatS_len]; omega)]
/-- Domains being made: their cells, their queues, as far as they are there. -/
structure D0 (B0 : Nat) (w1 w : World) (n : Nat) (oG oQ : Option Nat) : Prop where
  bel : Below w1.heap.size w1 w
  g : ∀ G, oG = some G → w1.heap.size ≤ G ∧ w.ownsRow B0 34 107 (.slice (some ⟨G, 0, none⟩) n n) n (flatS 107 (fun _ b => zd b) n)
  q : ∀ Q, oQ = some Q → w1.heap.size ≤ Q ∧ w.ownsRow B0 101 2 (.slice (some ⟨Q, 0, none⟩) n n) n (flatS 2 (fun _ b => zq b) n)
  ne : ∀ G Q, oG = some G → oQ = some Q → G ≠ Q
theorem own_grown {w w' : World} {B E s n : Nat} {v : Value} {xs : List Value} (h : w.ownsRow B E s v n xs) (hg : w.grownBy w' none) : w'.ownsRow B E s v n xs := own_below h ((Below.refl _ _).grown hg (Nat.le_refl _) (fun k hk => by cases hk))
theorem D0.mkG {B0 : Nat} {w1 w w' : World} {n : Nat} {oQ : Option Nat} (h : D0 B0 w1 w n none oQ) (G : Nat) (hG : w.heap.size = G) (hown : w'.ownsRow B0 34 107 (.slice (some ⟨G, 0, none⟩) n n) n (madeCells zsD.toArray (n * 107)).toList) (hgrow : w.grownBy w' none) : D0 B0 w1 w' n (some G) oQ := by
  refine ⟨h.bel.grown hgrow h.bel.size (fun k hk => by cases hk), fun G' e => ?_, fun Q e => ⟨(h.q Q e).1, own_grown (h.q Q e).2 hgrow⟩, fun G' Q e1 e2 => ?_⟩
  · injection e with e
    subst e
    refine ⟨by rw [← hG]; exact h.bel.size, ?_⟩
    have h2 := flatS_made zsD n (by rw [zsD_len]; decide)
    rw [zsD_len] at h2
    rw [flatS_congr 107 _ (fun _ b => zsD.getD b (.int .i64 0)) n (by decide) (fun i j _ hj => (zsD_get j hj).symm), ← h2]
    exact hown
  · injection e1 with e1
    have := ((h.q Q e2).2.lt Q rfl).2
    omega
theorem D0.mkQ {B0 : Nat} {w1 w w' : World} {n : Nat} {oG : Option Nat} (h : D0 B0 w1 w n oG none) (Q : Nat) (hQ : w.heap.size = Q) (hown : w'.ownsRow B0 101 2 (.slice (some ⟨Q, 0, none⟩) n n) n (madeCells zsQ.toArray (n * 2)).toList) (hgrow : w.grownBy w' none) : D0 B0 w1 w' n oG (some Q) := by
  refine ⟨h.bel.grown hgrow h.bel.size (fun k hk => by cases hk), fun G e => ⟨(h.g G e).1, own_grown (h.g G e).2 hgrow⟩, fun Q' e => ?_, fun G Q' e1 e2 => ?_⟩
  · injection e with e
    subst e
    refine ⟨by rw [← hQ]; exact h.bel.size, ?_⟩
    have h2 := flatS_made zsQ n (by decide)
    rw [show zsQ.length = 2 from rfl] at h2
    rw [flatS_congr 2 _ (fun _ b => zsQ.getD b (.int .i64 0)) n (by decide) (fun i j _ hj => (zsQ_get j hj).symm), ← h2]
    exact hown
  · injection e2 with e2
    have := ((h.g G e1).2.lt G rfl).2
    omega
theorem D0.done {w0 w1 w w2 : World} {n p B G Q : Nat} (hA : ArAt w1 w0.heap.size p B n n (fun _ => false) (fun _ => 0)) (hb : Below w0.heap.size w0 w1) (h : D0 w0.heap.size w1 w n (some G) (some Q)) (T : TypeId) (h2 : w2 = w.alloc (.cells #[.pointer (some ⟨p, 0, none⟩), .slice (some ⟨G, 0, none⟩) n n, .slice (some ⟨Q, 0, none⟩) n n] T (0, 0))) : DsAt w2 w0.heap.size w.heap.size p B G Q n n (fun _ => false) (fun _ => 0) (fun _ b => zd b) ∧ Below w0.heap.size w0 w2 := by
  subst h2
  have hp := hA.pl
  have hB := hA.lt
  have hG := h.g G rfl
  have hQ := h.q Q rfl
  have hGl := (hG.2.lt G rfl).2
  have hQl := (hQ.2.lt Q rfl).2
  have hne := h.ne G Q rfl rfl
  have hs := h.bel.size
  have hs1 := hb.size
  have h2' : ∀ o, Below w.heap.size w (w.alloc o) := fun o => (Below.refl _ _).alloc (Nat.le_refl _) o
  exact ⟨⟨⟨by simp, by omega, by simp, by simp, (hA.below h.bel).below (h2' _), hG.2.alloc _, by omega, by omega, by omega, by omega⟩, by simp, hQ.2.alloc _, by omega, by omega, Ne.symm hne⟩, (hb.trans (h.bel.mono hs1)).alloc (by omega) _⟩
set_option maxRecDepth 100000 in
set_option maxHeartbeats 1000000 in
theorem dnew_ok (x : Int) (n : Nat) (hx : Hid (x = n)) (h1 : 1 ≤ n) (h2 : n ≤ 256) (w : World) :
    Calls Tryz.prog 77 #[.int .i64 x] w fun e w' => ∃ P p B G Q, e = .returned (.tuple #[.pointer (some ⟨P, 0, none⟩), .nilIface]) ∧ DsAt w' w.heap.size P p B G Q n n (fun _ => false) (fun _ => 0) (fun _ b => zd b) ∧ Below w.heap.size w w' := by
  rw [hx.out]
  obtain ⟨i0, hi, hz0, hz1, hz2⟩ := info_parts infoDom
  have HI := Lib.hid (⟨hi, hz0, hz1, hz2⟩ : Tryz.prog.info? 34 = some i0 ∧ i0.zero = some (.agg zsD.toArray) ∧ i0.size = 107 ∧ i0.bytes = 824)
  clear hi hz0 hz1 hz2 hx
  obtain ⟨i1, hi, hz0, hz1, hz2⟩ := info_parts infoQue
  have HJ := Lib.hid (⟨hi, hz0, hz1, hz2⟩ : Tryz.prog.info? 101 = some i1 ∧ i1.zero = some (.agg zsQ.toArray) ∧ i1.size = 2 ∧ i1.bytes = 32)
  clear hi hz0 hz1 hz2
  go_enter Tryz.func77, Tryz.ntmps77
  go_upto_region 4 with (first
    | (go_at_call 110; (with_reducible refine (anew_at _ n (Lib.hid rfl) h1 h2 _).mono ?_); rintro e w1 ⟨p, B, rfl, hA, hb⟩; have HA := Lib.hid hA; have HB := Lib.hid hb; clear hA hb))
  obtain ⟨wD, hwD⟩ : ∃ wD, wD = w1.drew := ⟨_, rfl⟩
  have HD : Hid (D0 w.heap.size w1 wD n none none) := Lib.hid (by rw [hwD]; exact ⟨(Below.refl _ _).drew, fun _ e => (by cases e), fun _ e => (by cases e), fun _ _ e => (by cases e)⟩)
  refine wp_region_noPanic ?_
  refine wp_region_held_drew (S := fun w' => True) (by kernel_rfl) trivial (fun hHeld => ?_)
  rw [← hwD]
  clear hwD
  refine wpAnyH_take (i := 0) (v := ?_) (by rfl) (by kernel_rfl) (by kernel_rfl) (by kernel_rfl) (fun _ _ _ h => h) (Or.inl ⟨by kernel_rfl, ?_⟩) (by assumption) ?_; rotate_left 1; (focus (intro w hSw; (try dsimp only at hSw); simp only [List.getElem_toArray, List.getElem_cons_succ, List.getElem_cons_zero]; all_goals go_simp; all_goals (try with_reducible rfl))); (try simp only [Act.put, List.getElem_toArray, List.getElem_cons_succ, List.getElem_cons_zero, List.setIfInBounds_toArray, List.set_cons_zero, List.set_cons_succ])
  refine wpAnyH_take (i := 1) (v := ?_) (by rfl) (by kernel_rfl) (by kernel_rfl) (by kernel_rfl) (fun _ _ _ h => h) (Or.inl ⟨by kernel_rfl, ?_⟩) (by assumption) ?_; rotate_left 1; (focus (intro w hSw; (try dsimp only at hSw); simp only [List.getElem_toArray, List.getElem_cons_succ, List.getElem_cons_zero]; all_goals go_simp; all_goals (try with_reducible rfl))); (try simp only [Act.put, List.getElem_toArray, List.getElem_cons_succ, List.getElem_cons_zero, List.setIfInBounds_toArray, List.set_cons_zero, List.set_cons_succ])
  refine wpAnyH_take (i := 3) (v := ?_) (by rfl) (by kernel_rfl) (by kernel_rfl) (by kernel_rfl) (fun _ _ _ h => h) (Or.inl ⟨by kernel_rfl, ?_⟩) (by assumption) ?_; rotate_left 1; (focus (intro w hSw; (try dsimp only at hSw); simp only [List.getElem_toArray, List.getElem_cons_succ, List.getElem_cons_zero]; all_goals go_simp; all_goals (try with_reducible rfl))); (try simp only [Act.put, List.getElem_toArray, List.getElem_cons_succ, List.getElem_cons_zero, List.setIfInBounds_toArray, List.set_cons_zero, List.set_cons_succ])
  refine wpAnyH_ready (rs := [2, 4]) (by kernel_rfl) (by simp) ?_
  refine AllReadyH.cons (by rfl) (fun K' hK => ?_) (AllReadyH.cons (by rfl) (fun K' hK => ?_) AllReadyH.nil)
  · rw [if_pos (by kernel_rfl)]; simp only [List.getElem_toArray, List.getElem_cons_succ, List.getElem_cons_zero]
    obtain ⟨wG, hrun, hown, hgrow⟩ := run_make_full (P := Tryz.prog) wD w.heap.size 81 34 i0 (.agg zsD.toArray) 107 Tryz.underlying81 HI.out.1 HI.out.2.1 HI.out.2.2.1 .i64 .i64 n (by rw [HI.out.2.2.2]; omega) (by unfold maxLen; omega) (Nat.le_trans HB.out.size HD.out.bel.size); obtain ⟨G, hG⟩ : ∃ G, wD.heap.size = G := ⟨_, rfl⟩; rw [hG] at hown hrun; have HwG := Lib.hid (HD.out.mkG G hG hown hgrow); clear hown hgrow hG; go_wp2_with fail; clear hrun
    refine hK.out _ _ trivial (fun hHeld => ?_); clear hK; (try simp only [Act.put, List.getElem_toArray, List.getElem_cons_succ, List.getElem_cons_zero, List.setIfInBounds_toArray, List.set_cons_zero, List.set_cons_succ])
    refine wpAnyH_ready (rs := [4]) (by kernel_rfl) (by simp) ?_; refine AllReadyH.cons (by rfl) (fun K hK => ?_) AllReadyH.nil; rw [if_pos (by kernel_rfl)]; simp only [List.getElem_toArray, List.getElem_cons_succ, List.getElem_cons_zero]
    obtain ⟨wQ, hrun, hown, hgrow⟩ := run_make_full (P := Tryz.prog) wG w.heap.size 82 101 i1 (.agg zsQ.toArray) 2 Tryz.underlying82 HJ.out.1 HJ.out.2.1 HJ.out.2.2.1 .i64 .i64 n (by rw [HJ.out.2.2.2]; omega) (by unfold maxLen; omega) (Nat.le_trans HB.out.size HwG.out.bel.size); obtain ⟨Q, hQ⟩ : ∃ Q, wG.heap.size = Q := ⟨_, rfl⟩; rw [hQ] at hown hrun; have HwQ := Lib.hid (HwG.out.mkQ Q hQ hown hgrow); clear hown hgrow hQ; go_wp2_with fail; clear hrun
    refine hK.out _ _ trivial (fun hHeld => ?_); clear hK; (try simp only [Act.put, List.getElem_toArray, List.getElem_cons_succ, List.getElem_cons_zero, List.setIfInBounds_toArray, List.set_cons_zero, List.set_cons_succ])
    refine wpAnyH_take (i := 5) (v := ?_) (by rfl) (by kernel_rfl) (by kernel_rfl) (by kernel_rfl) (fun _ _ _ h => h) (Or.inl ⟨by kernel_rfl, ?_⟩) (by assumption) ?_; rotate_left 1; (focus (intro w hSw; (try dsimp only at hSw); simp only [List.getElem_toArray, List.getElem_cons_succ, List.getElem_cons_zero]; all_goals go_simp; all_goals (try with_reducible rfl))); (try simp only [Act.put, List.getElem_toArray, List.getElem_cons_succ, List.getElem_cons_zero, List.setIfInBounds_toArray, List.set_cons_zero, List.set_cons_succ]); refine wpAnyH_ready (rs := [6]) (by kernel_rfl) (by simp) ?_; refine AllReadyH.cons (by rfl) (fun K hK => ?_) AllReadyH.nil; rw [if_pos (by kernel_rfl)]; simp only [List.getElem_toArray, List.getElem_cons_succ, List.getElem_cons_zero]; go_wp2_with fail; refine hK.out _ _ trivial (fun hHeld => ?_); clear hK; (try simp only [Act.put, List.getElem_toArray, List.getElem_cons_succ, List.getElem_cons_zero, List.setIfInBounds_toArray, List.set_cons_zero, List.set_cons_succ]); (try refine wpAnyH_take (i := 7) (v := ?_) (by rfl) (by kernel_rfl) (by kernel_rfl) (by kernel_rfl) (fun _ _ _ h => h) (Or.inl ⟨by kernel_rfl, ?_⟩) (by assumption) ?_; rotate_left 1; (focus (intro w hSw; (try dsimp only at hSw); simp only [List.getElem_toArray, List.getElem_cons_succ, List.getElem_cons_zero]; all_goals go_simp; all_goals (try with_reducible rfl))); (try simp only [Act.put, List.getElem_toArray, List.getElem_cons_succ, List.getElem_cons_zero, List.setIfInBounds_toArray, List.set_cons_zero, List.set_cons_succ])); (try refine wpAnyH_take (i := 8) (v := ?_) (by rfl) (by kernel_rfl) (by kernel_rfl) (by kernel_rfl) (fun _ _ _ h => h) (Or.inl ⟨by kernel_rfl, ?_⟩) (by assumption) ?_; rotate_left 1; (focus (intro w hSw; (try dsimp only at hSw); simp only [List.getElem_toArray, List.getElem_cons_succ, List.getElem_cons_zero]; all_goals go_simp; all_goals (try with_reducible rfl))); (try simp only [Act.put, List.getElem_toArray, List.getElem_cons_succ, List.getElem_cons_zero, List.setIfInBounds_toArray, List.set_cons_zero, List.set_cons_succ])); refine wpAnyH_done (by kernel_rfl) ?_ _; refine NoPanic.normal ?_; go_wp2_with fail; go_ret2; have hD := D0.done HA.out HB.out HwQ.out 84 rfl; exact ⟨_, _, _, _, _, rfl, hD.1, hD.2⟩
  · rw [if_pos (by kernel_rfl)]; simp only [List.getElem_toArray, List.getElem_cons_succ, List.getElem_cons_zero]
    obtain ⟨wQ, hrun, hown, hgrow⟩ := run_make_full (P := Tryz.prog) wD w.heap.size 82 101 i1 (.agg zsQ.toArray) 2 Tryz.underlying82 HJ.out.1 HJ.out.2.1 HJ.out.2.2.1 .i64 .i64 n (by rw [HJ.out.2.2.2]; omega) (by unfold maxLen; omega) (Nat.le_trans HB.out.size HD.out.bel.size); obtain ⟨Q, hQ⟩ : ∃ Q, wD.heap.size = Q := ⟨_, rfl⟩; rw [hQ] at hown hrun; have HwQ := Lib.hid (HD.out.mkQ Q hQ hown hgrow); clear hown hgrow hQ; go_wp2_with fail; clear hrun
    refine hK.out _ _ trivial (fun hHeld => ?_); clear hK; (try simp only [Act.put, List.getElem_toArray, List.getElem_cons_succ, List.getElem_cons_zero, List.setIfInBounds_toArray, List.set_cons_zero, List.set_cons_succ])
    refine wpAnyH_ready (rs := [2]) (by kernel_rfl) (by simp) ?_; refine AllReadyH.cons (by rfl) (fun K hK => ?_) AllReadyH.nil; rw [if_pos (by kernel_rfl)]; simp only [List.getElem_toArray, List.getElem_cons_succ, List.getElem_cons_zero]
    obtain ⟨wG, hrun, hown, hgrow⟩ := run_make_full (P := Tryz.prog) wQ w.heap.size 81 34 i0 (.agg zsD.toArray) 107 Tryz.underlying81 HI.out.1 HI.out.2.1 HI.out.2.2.1 .i64 .i64 n (by rw [HI.out.2.2.2]; omega) (by unfold maxLen; omega) (Nat.le_trans HB.out.size HwQ.out.bel.size); obtain ⟨G, hG⟩ : ∃ G, wQ.heap.size = G := ⟨_, rfl⟩; rw [hG] at hown hrun; have HwG := Lib.hid (HwQ.out.mkG G hG hown hgrow); clear hown hgrow hG; go_wp2_with fail; clear hrun
    refine hK.out _ _ trivial (fun hHeld => ?_); clear hK; (try simp only [Act.put, List.getElem_toArray, List.getElem_cons_succ, List.getElem_cons_zero, List.setIfInBounds_toArray, List.set_cons_zero, List.set_cons_succ])
    refine wpAnyH_take (i := 5) (v := ?_) (by rfl) (by kernel_rfl) (by kernel_rfl) (by kernel_rfl) (fun _ _ _ h => h) (Or.inl ⟨by kernel_rfl, ?_⟩) (by assumption) ?_; rotate_left 1; (focus (intro w hSw; (try dsimp only at hSw); simp only [List.getElem_toArray, List.getElem_cons_succ, List.getElem_cons_zero]; all_goals go_simp; all_goals (try with_reducible rfl))); (try simp only [Act.put, List.getElem_toArray, List.getElem_cons_succ, List.getElem_cons_zero, List.setIfInBounds_toArray, List.set_cons_zero, List.set_cons_succ]); refine wpAnyH_ready (rs := [6]) (by kernel_rfl) (by simp) ?_; refine AllReadyH.cons (by rfl) (fun K hK => ?_) AllReadyH.nil; rw [if_pos (by kernel_rfl)]; simp only [List.getElem_toArray, List.getElem_cons_succ, List.getElem_cons_zero]; go_wp2_with fail; refine hK.out _ _ trivial (fun hHeld => ?_); clear hK; (try simp only [Act.put, List.getElem_toArray, List.getElem_cons_succ, List.getElem_cons_zero, List.setIfInBounds_toArray, List.set_cons_zero, List.set_cons_succ]); (try refine wpAnyH_take (i := 7) (v := ?_) (by rfl) (by kernel_rfl) (by kernel_rfl) (by kernel_rfl) (fun _ _ _ h => h) (Or.inl ⟨by kernel_rfl, ?_⟩) (by assumption) ?_; rotate_left 1; (focus (intro w hSw; (try dsimp only at hSw); simp only [List.getElem_toArray, List.getElem_cons_succ, List.getElem_cons_zero]; all_goals go_simp; all_goals (try with_reducible rfl))); (try simp only [Act.put, List.getElem_toArray, List.getElem_cons_succ, List.getElem_cons_zero, List.setIfInBounds_toArray, List.set_cons_zero, List.set_cons_succ])); (try refine wpAnyH_take (i := 8) (v := ?_) (by rfl) (by kernel_rfl) (by kernel_rfl) (by kernel_rfl) (fun _ _ _ h => h) (Or.inl ⟨by kernel_rfl, ?_⟩) (by assumption) ?_; rotate_left 1; (focus (intro w hSw; (try dsimp only at hSw); simp only [List.getElem_toArray, List.getElem_cons_succ, List.getElem_cons_zero]; all_goals go_simp; all_goals (try with_reducible rfl))); (try simp only [Act.put, List.getElem_toArray, List.getElem_cons_succ, List.getElem_cons_zero, List.setIfInBounds_toArray, List.set_cons_zero, List.set_cons_succ])); refine wpAnyH_done (by kernel_rfl) ?_ _; refine NoPanic.normal ?_; go_wp2_with fail; go_ret2; have hD := D0.done HA.out HB.out HwG.out 84 rfl; exact ⟨_, _, _, _, _, rfl, hD.1, hD.2⟩
end Go.Proofs.YtllcakiomihipaaGreatDoor
namespace Go.Proofs.YtllcakiomihipaaGreatDoor
open Go.ChangeShapes Go.WideShapes Go.ChangeAt Go.RowKit
set_option linter.unusedVariables false
/-- The chain of x: at most f of it. -/
def chF (pr : Nat → Int) : Nat → Int → List Int
  | 0, _ => []
  | f + 1, x => if x < 0 then [] else x :: chF pr f (pr x.toNat)
theorem chF_neg (pr : Nat → Int) (f : Nat) (x : Int) (h : x < 0) : chF pr f x = [] := by
  cases f with
  | zero => rfl
  | succ f => simp [chF, h]
theorem chF_fuel (pr : Nat → Int) (j : Nat) (hpr : ∀ i, i ≤ j → -1 ≤ pr i ∧ pr i < i) : ∀ (f g : Nat) (x : Int), x ≤ j → x < f → x < g → chF pr f x = chF pr g x := by
  intro f
  induction f with
  | zero => intro g x _ h _; rw [chF_neg _ _ _ (by omega), chF_neg _ _ _ (by omega)]
  | succ f ih =>
    intro g x hx h1 h2
    cases g with
    | zero => rw [chF_neg _ _ _ (by omega), chF_neg _ _ _ (by omega)]
    | succ g =>
      unfold chF
      by_cases h0 : x < 0
      · rw [if_pos h0, if_pos h0]
      · rw [if_neg h0, if_neg h0]
        have h3 := hpr x.toNat (by omega)
        rw [ih g (pr x.toNat) (by omega) (by omega) (by omega)]
end Go.Proofs.YtllcakiomihipaaGreatDoor
namespace Go.Proofs.YtllcakiomihipaaGreatDoor
open Go.ChangeShapes Go.WideShapes Go.ChangeAt Go.RowKit
set_option linter.unusedVariables false
/-- Numbers that are read there. -/
def RN (w : World) (g d : Nat) (xs : List Int) : Prop := ∀ i, i < d → w.cell? ⟨g, i, none⟩ = some (.int .i64 (xs.getD i 0))
set_option maxRecDepth 100000 in
theorem six_yes (g d c' q : Nat) (xs : List Int) (v : Int) (hd : d ≤ 1000) (hq : q < d) (hno : Hid (∀ i, i < q → xs.getD i 0 ≠ v)) (hyes : Hid (xs.getD q 0 = v)) (w : World) (hr : RN w g d xs) :
    Calls Tryz.prog 59 #[.slice (some ⟨g, 0, none⟩) d c', .int .i64 v] w fun e w' => e = .returned (.int .i64 q) ∧ w = w' := by
  have HR := Lib.hid hr
  clear hr
  go_enter Tryz.func59, Tryz.ntmps59
  go_wp2_with fail
  go_loop [8] (fun i => ∃ k : Nat, k ≤ q ∧ i = .int .i64 k) (fun i => d - (intOf i).toNat)
  case atStart => exact ⟨0, by omega, rfl⟩
  case round =>
    obtain ⟨k, hk, rfl⟩ := hrel
    have hc := HR.out k (by omega)
    have k0 : (0 : Int) ≤ k := by omega
    have k1 : (k : Int) < d := by omega
    by_cases hlt : k < q
    · have hne := hno.out k hlt
      generalize xs.getD k 0 = x at hc hne
      have hb : (v == x) = false := beq_eq_false_iff_ne.2 (Ne.symm hne)
      clear hne
      go_wp2_with fail
      go_round
      case rel => exact ⟨k + 1, by omega, by go_num⟩
      case measure => simp [intOf]; omega
    · obtain rfl : q = k := by omega
      rw [hyes.out] at hc
      have hb : (v == v) = true := beq_self_eq_true v
      go_wp2_with fail
      go_ret
      exact ⟨rfl, rfl⟩
theorem first_in (xs : List Int) (v : Int) : ∀ d, (∀ i, i < d → xs.getD i 0 ≠ v) ∨ ∃ q, q < d ∧ (∀ i, i < q → xs.getD i 0 ≠ v) ∧ xs.getD q 0 = v := by
  intro d
  induction d with
  | zero => exact .inl (fun i hi => by omega)
  | succ d ih =>
    rcases ih with h | ⟨q, h1, h2⟩
    · by_cases e : xs.getD d 0 = v
      · exact .inr ⟨d, by omega, h, e⟩
      · refine .inl (fun i hi => ?_)
        by_cases h3 : i = d
        · subst h3; exact e
        · exact h i (by omega)
    · exact .inr ⟨q, by omega, h2⟩
end Go.Proofs.YtllcakiomihipaaGreatDoor
namespace Go.Proofs.YtllcakiomihipaaGreatDoor
open Go.ChangeShapes Go.WideShapes Go.ChangeAt Go.RowKit
set_option linter.unusedVariables false
/-- The cells of a bank's account, of a title. -/
def acS (pr us lm : Nat → Int) : Nat → Nat → Value := fun i b => if b = 0 then .int .i64 (pr i) else if b = 1 then .int .i64 (us i) else .int .i64 (lm i)
def tiS (ow vn : Nat → Int) : Nat → Nat → Value := fun i b => if b = 0 then .int .i64 (ow i) else .int .i64 (vn i)
/-- Which blocks are unlike. -/
structure BkNe (P p B A G1 G2 G3 : Nat) : Prop where
  PB : P ≠ B
  PA : P ≠ A
  P1 : P ≠ G1
  P2 : P ≠ G2
  P3 : P ≠ G3
  pA : p ≠ A
  p1 : p ≠ G1
  p2 : p ≠ G2
  p3 : p ≠ G3
  AB : A ≠ B
  A1 : A ≠ G1
  A2 : A ≠ G2
  A3 : A ≠ G3
  B1 : B ≠ G1
  B2 : B ≠ G2
  B3 : B ≠ G3
  g12 : G1 ≠ G2
  g13 : G1 ≠ G3
  g23 : G2 ≠ G3
/-- A row of so many places of so many cells. -/
def RowS (w : World) (base : Nat) (T : TypeId) (s G n : Nat) (W : Nat → Nat → Value) : Prop := w.ownsRow base T s (.slice (some ⟨G, 0, none⟩) n n) n (flatS s W n)
theorem RowS.lt {w : World} {base : Nat} {T : TypeId} {s G n : Nat} {W : Nat → Nat → Value} (h : RowS w base T s G n W) : base ≤ G ∧ G < w.heap.size := World.ownsRow.lt h G rfl
theorem RowS.same {w w' : World} {base : Nat} {T : TypeId} {s G n : Nat} {W : Nat → Nat → Value} (h : RowS w base T s G n W) (hb : w'.heap[G]? = w.heap[G]?) : RowS w' base T s G n W := by
  refine ⟨h.1, ?_⟩
  rcases h.2 with hn | ⟨g', cap, cur, e', hB, hg, rest⟩
  · exact .inl hn
  · refine .inr ⟨g', cap, cur, e', hB, ?_, rest⟩
    simp at e'
    rw [← e'.1, hb, e'.1]; exact hg
theorem RowS.at {w : World} {base : Nat} {T : TypeId} {s G n : Nat} {W : Nat → Nat → Value} (h : RowS w base T s G n W) (i j : Nat) (hi : i < n) (hj : j < s) : w.cell? ⟨G, i * s + j, none⟩ = some (W i j) := by
  rw [World.ownsRow.cellAt h (i * s + j) (mid_lt hi hj), flatS_at s W n i j hi hj]
theorem RowS.fr {w : World} {base : Nat} {T : TypeId} {s G n : Nat} {W : Nat → Nat → Value} (h : RowS w base T s G n W) (j : Nat) : w.frozen? ⟨G, j, none⟩ = false := World.ownsRow.frozenAt h j
theorem RowS.congr {w : World} {base : Nat} {T : TypeId} {s G n : Nat} {W W' : Nat → Nat → Value} (h : RowS w base T s G n W) (h0 : 0 < s) (hw : ∀ i j, i < n → j < s → W i j = W' i j) : RowS w base T s G n W' := by
  unfold RowS
  rw [← flatS_congr s W W' n h0 hw]
  exact h
theorem RowS.set {w : World} {base : Nat} {T : TypeId} {s G n : Nat} {W : Nat → Nat → Value} (h : RowS w base T s G n W) (i j : Nat) (hi : i < n) (hj : j < s) (u : Value) : RowS (w.setCell ⟨G, i * s + j, none⟩ u) base T s G n (updS W i j [u]) ∧ w.grownBy (w.setCell ⟨G, i * s + j, none⟩ u) (some G) := by
  have hs := own_setCells [u] (i * s + j) _ _ h
  rw [flatS_over s W n i j [u] hi (by simp; omega)] at hs
  exact hs
theorem updS_acP (pr us lm : Nat → Int) (i : Nat) (x : Int) : ∀ a b, b < 3 → updS (acS pr us lm) i 0 [.int .i64 x] a b = acS (upd pr i x) us lm a b := by
  intro a b hb
  unfold updS acS upd
  rcases (show b = 0 ∨ b = 1 ∨ b = 2 by omega) with rfl | rfl | rfl <;> by_cases e : a = i <;> simp [e]
theorem updS_acU (pr us lm : Nat → Int) (i : Nat) (x : Int) : ∀ a b, b < 3 → updS (acS pr us lm) i 1 [.int .i64 x] a b = acS pr (upd us i x) lm a b := by
  intro a b hb
  unfold updS acS upd
  rcases (show b = 0 ∨ b = 1 ∨ b = 2 by omega) with rfl | rfl | rfl <;> by_cases e : a = i <;> simp [e]
theorem updS_acL (pr us lm : Nat → Int) (i : Nat) (x : Int) : ∀ a b, b < 3 → updS (acS pr us lm) i 2 [.int .i64 x] a b = acS pr us (upd lm i x) a b := by
  intro a b hb
  unfold updS acS upd
  rcases (show b = 0 ∨ b = 1 ∨ b = 2 by omega) with rfl | rfl | rfl <;> by_cases e : a = i <;> simp [e]
theorem updS_ti0 (ow vn : Nat → Int) (i : Nat) (x : Int) : ∀ a b, b < 2 → updS (tiS ow vn) i 0 [.int .i64 x] a b = tiS (upd ow i x) vn a b := by
  intro a b hb
  unfold updS tiS upd
  rcases (show b = 0 ∨ b = 1 by omega) with rfl | rfl <;> by_cases e : a = i <;> simp [e]
theorem updS_ti1 (ow vn : Nat → Int) (i : Nat) (x : Int) : ∀ a b, b < 2 → updS (tiS ow vn) i 1 [.int .i64 x] a b = tiS ow (upd vn i x) a b := by
  intro a b hb
  unfold updS tiS upd
  rcases (show b = 0 ∨ b = 1 by omega) with rfl | rfl <;> by_cases e : a = i <;> simp [e]
/-- Banks at block P: their arena, accounts at A, whose the nodes, pages, domains are. -/
structure BkAt (w : World) (base P p B A G1 G2 G3 n c mb db : Nat) (th : Nat → Bool) (vr pr us lm o1 v1 o2 v2 o3 v3 : Nat → Int) : Prop where
  pl : P < w.heap.size
  pb : base ≤ P
  f0 : w.cell? ⟨P, 0, none⟩ = some (.pointer (some ⟨p, 0, none⟩))
  f1 : w.cell? ⟨P, 1, none⟩ = some (.pointer (some ⟨mb, 0, none⟩))
  f2 : w.cell? ⟨P, 2, none⟩ = some (.pointer (some ⟨db, 0, none⟩))
  f3 : w.cell? ⟨P, 3, none⟩ = some (.slice (some ⟨A, 0, none⟩) n n)
  f4 : w.cell? ⟨P, 4, none⟩ = some (.slice (some ⟨G1, 0, none⟩) 256 256)
  f5 : w.cell? ⟨P, 5, none⟩ = some (.slice (some ⟨G2, 0, none⟩) 256 256)
  f6 : w.cell? ⟨P, 6, none⟩ = some (.slice (some ⟨G3, 0, none⟩) 256 256)
  ar : ArAt w base p B n c th vr
  ac : RowS w base 182 3 A n (acS pr us lm)
  t1 : RowS w base 185 2 G1 256 (tiS o1 v1)
  t2 : RowS w base 185 2 G2 256 (tiS o2 v2)
  t3 : RowS w base 185 2 G3 256 (tiS o3 v3)
  ne : BkNe P p B A G1 G2 G3
section
variable {w w' : World}
theorem BkAt.keep {base P p B A G1 G2 G3 n c mb db : Nat} {th : Nat → Bool} {vr pr us lm o1 v1 o2 v2 o3 v3 : Nat → Int} (h : (BkAt w base P p B A G1 G2 G3 n c mb db th vr pr us lm o1 v1 o2 v2 o3 v3)) (hs : w.heap.size ≤ w'.heap.size) (hP : w'.heap[P]? = w.heap[P]?) {th' : Nat → Bool} {vr' pr' us' lm' o1' v1' o2' v2' o3' v3' : Nat → Int} (hr : ArAt w' base p B n c th' vr') (ha : RowS w' base 182 3 A n (acS pr' us' lm')) (h1 : RowS w' base 185 2 G1 256 (tiS o1' v1')) (h2 : RowS w' base 185 2 G2 256 (tiS o2' v2')) (h3 : RowS w' base 185 2 G3 256 (tiS o3' v3')) : BkAt w' base P p B A G1 G2 G3 n c mb db th' vr' pr' us' lm' o1' v1' o2' v2' o3' v3' :=
  ⟨Nat.lt_of_lt_of_le h.pl hs, h.pb, (World.cell?_of_block (a := ⟨P, 0, none⟩) hP).trans h.f0, (World.cell?_of_block (a := ⟨P, 1, none⟩) hP).trans h.f1, (World.cell?_of_block (a := ⟨P, 2, none⟩) hP).trans h.f2, (World.cell?_of_block (a := ⟨P, 3, none⟩) hP).trans h.f3, (World.cell?_of_block (a := ⟨P, 4, none⟩) hP).trans h.f4, (World.cell?_of_block (a := ⟨P, 5, none⟩) hP).trans h.f5, (World.cell?_of_block (a := ⟨P, 6, none⟩) hP).trans h.f6, hr, ha, h1, h2, h3, h.ne⟩
theorem ArAt.same2 {base p B n c : Nat} {th : Nat → Bool} {vr : Nat → Int} (h : ArAt w base p B n c th vr) (hs : w.heap.size ≤ w'.heap.size) (h1 : w'.heap[p]? = w.heap[p]?) (h2 : w'.heap[B]? = w.heap[B]?) : ArAt w' base p B n c th vr := by
  refine ⟨Nat.lt_of_lt_of_le h.pl hs, h.pb, (World.cell?_of_block (a := ⟨p, 0, none⟩) h1).trans h.fld, ?_, h.ne, h.le⟩
  refine ⟨h.own.1, ?_⟩
  rcases h.own.2 with hn | ⟨g', cap, cur, e', hB, hg, rest⟩
  · exact .inl hn
  · refine .inr ⟨g', cap, cur, e', hB, ?_, rest⟩
    simp at e'
    rw [← e'.1, h2, e'.1]; exact hg
theorem BkAt.same {base P p B A G1 G2 G3 n c mb db : Nat} {th : Nat → Bool} {vr pr us lm o1 v1 o2 v2 o3 v3 : Nat → Int} (h : (BkAt w base P p B A G1 G2 G3 n c mb db th vr pr us lm o1 v1 o2 v2 o3 v3)) (hs : w.heap.size ≤ w'.heap.size) (hk : ∀ k, base ≤ k → k < w.heap.size → w'.heap[k]? = w.heap[k]?) : (BkAt w' base P p B A G1 G2 G3 n c mb db th vr pr us lm o1 v1 o2 v2 o3 v3) :=
  h.keep hs (hk P h.pb h.pl) (h.ar.same2 hs (hk p h.ar.pb h.ar.pl) (hk B h.ar.lt.1 h.ar.lt.2)) (h.ac.same (hk A h.ac.lt.1 h.ac.lt.2)) (h.t1.same (hk G1 h.t1.lt.1 h.t1.lt.2)) (h.t2.same (hk G2 h.t2.lt.1 h.t2.lt.2)) (h.t3.same (hk G3 h.t3.lt.1 h.t3.lt.2))
theorem BkAt.below {base P p B A G1 G2 G3 n c mb db : Nat} {th : Nat → Bool} {vr pr us lm o1 v1 o2 v2 o3 v3 : Nat → Int} (h : (BkAt w base P p B A G1 G2 G3 n c mb db th vr pr us lm o1 v1 o2 v2 o3 v3)) (hb : Below w.heap.size w w') : (BkAt w' base P p B A G1 G2 G3 n c mb db th vr pr us lm o1 v1 o2 v2 o3 v3) := h.same hb.size (fun k _ hk => hb.block k hk)
/-- The arena's row was written. -/
theorem BkAt.turn {base P p B A G1 G2 G3 n c mb db : Nat} {th : Nat → Bool} {vr pr us lm o1 v1 o2 v2 o3 v3 : Nat → Int} (h : (BkAt w base P p B A G1 G2 G3 n c mb db th vr pr us lm o1 v1 o2 v2 o3 v3)) {th' : Nat → Bool} {vr' : Nat → Int} (hA : ArAt w' base p B n c th' vr') (hg : w.grownBy w' (some B)) : BkAt w' base P p B A G1 G2 G3 n c mb db th' vr' pr us lm o1 v1 o2 v2 o3 v3 := by
  have k : ∀ x, x < w.heap.size → x ≠ B → w'.heap[x]? = w.heap[x]? := fun x hx hn => hg.block x hx (fun e => hn (by injection e))
  exact h.keep hg.size (k P h.pl h.ne.PB) hA (h.ac.same (k A h.ac.lt.2 h.ne.AB)) (h.t1.same (k G1 h.t1.lt.2 (Ne.symm h.ne.B1))) (h.t2.same (k G2 h.t2.lt.2 (Ne.symm h.ne.B2))) (h.t3.same (k G3 h.t3.lt.2 (Ne.symm h.ne.B3)))
theorem BkAt.acc {base P p B A G1 G2 G3 n c mb db : Nat} {th : Nat → Bool} {vr pr us lm o1 v1 o2 v2 o3 v3 : Nat → Int} (h : (BkAt w base P p B A G1 G2 G3 n c mb db th vr pr us lm o1 v1 o2 v2 o3 v3)) {pr' us' lm' : Nat → Int} (ha : RowS w' base 182 3 A n (acS pr' us' lm')) (hg : w.grownBy w' (some A)) : BkAt w' base P p B A G1 G2 G3 n c mb db th vr pr' us' lm' o1 v1 o2 v2 o3 v3 := by
  have k : ∀ x, x < w.heap.size → x ≠ A → w'.heap[x]? = w.heap[x]? := fun x hx hn => hg.block x hx (fun e => hn (by injection e))
  exact h.keep hg.size (k P h.pl h.ne.PA) (h.ar.same2 hg.size (k p h.ar.pl h.ne.pA) (k B h.ar.lt.2 (Ne.symm h.ne.AB))) ha (h.t1.same (k G1 h.t1.lt.2 (Ne.symm h.ne.A1))) (h.t2.same (k G2 h.t2.lt.2 (Ne.symm h.ne.A2))) (h.t3.same (k G3 h.t3.lt.2 (Ne.symm h.ne.A3)))
theorem BkAt.ti3 {base P p B A G1 G2 G3 n c mb db : Nat} {th : Nat → Bool} {vr pr us lm o1 v1 o2 v2 o3 v3 : Nat → Int} (h : (BkAt w base P p B A G1 G2 G3 n c mb db th vr pr us lm o1 v1 o2 v2 o3 v3)) {o3' v3' : Nat → Int} (ha : RowS w' base 185 2 G3 256 (tiS o3' v3')) (hg : w.grownBy w' (some G3)) : BkAt w' base P p B A G1 G2 G3 n c mb db th vr pr us lm o1 v1 o2 v2 o3' v3' := by
  have k : ∀ x, x < w.heap.size → x ≠ G3 → w'.heap[x]? = w.heap[x]? := fun x hx hn => hg.block x hx (fun e => hn (by injection e))
  exact h.keep hg.size (k P h.pl h.ne.P3) (h.ar.same2 hg.size (k p h.ar.pl h.ne.p3) (k B h.ar.lt.2 h.ne.B3)) (h.ac.same (k A h.ac.lt.2 h.ne.A3)) (h.t1.same (k G1 h.t1.lt.2 h.ne.g13)) (h.t2.same (k G2 h.t2.lt.2 h.ne.g23)) ha
theorem low_of {base g : Nat} (hg : w.grownBy w' (some g)) (h1 : base ≤ g) (h2 : base ≤ w.heap.size) : Below base w w' := ⟨hg.os, hg.tape, hg.output, hg.size, fun k hk => hg.block k (by omega) (fun e => by injection e with e; omega)⟩
/-- An account's field anew. -/
theorem BkAt.setU {base P p B A G1 G2 G3 n c mb db : Nat} {th : Nat → Bool} {vr pr us lm o1 v1 o2 v2 o3 v3 : Nat → Int} (h : (BkAt w base P p B A G1 G2 G3 n c mb db th vr pr us lm o1 v1 o2 v2 o3 v3)) (i : Nat) (hi : i < n) (x : Int) : BkAt (w.setCell ⟨A, i * 3 + 1, none⟩ (.int .i64 x)) base P p B A G1 G2 G3 n c mb db th vr pr (upd us i x) lm o1 v1 o2 v2 o3 v3 ∧ w.grownBy (w.setCell ⟨A, i * 3 + 1, none⟩ (.int .i64 x)) (some A) := by
  have hs := h.ac.set i 1 hi (by decide) (.int .i64 x)
  exact ⟨h.acc (hs.1.congr (by decide) (fun a b _ hb => updS_acU _ _ _ _ _ a b hb)) hs.2, hs.2⟩
theorem BkAt.setP {base P p B A G1 G2 G3 n c mb db : Nat} {th : Nat → Bool} {vr pr us lm o1 v1 o2 v2 o3 v3 : Nat → Int} (h : (BkAt w base P p B A G1 G2 G3 n c mb db th vr pr us lm o1 v1 o2 v2 o3 v3)) (i : Nat) (hi : i < n) (x : Int) : BkAt (w.setCell ⟨A, i * 3, none⟩ (.int .i64 x)) base P p B A G1 G2 G3 n c mb db th vr (upd pr i x) us lm o1 v1 o2 v2 o3 v3 ∧ w.grownBy (w.setCell ⟨A, i * 3, none⟩ (.int .i64 x)) (some A) := by
  have hs := h.ac.set i 0 hi (by decide) (.int .i64 x)
  rw [Nat.add_zero] at hs
  exact ⟨h.acc (hs.1.congr (by decide) (fun a b _ hb => updS_acP _ _ _ _ _ a b hb)) hs.2, hs.2⟩
theorem BkAt.setL {base P p B A G1 G2 G3 n c mb db : Nat} {th : Nat → Bool} {vr pr us lm o1 v1 o2 v2 o3 v3 : Nat → Int} (h : (BkAt w base P p B A G1 G2 G3 n c mb db th vr pr us lm o1 v1 o2 v2 o3 v3)) (i : Nat) (hi : i < n) (x : Int) : BkAt (w.setCell ⟨A, i * 3 + 2, none⟩ (.int .i64 x)) base P p B A G1 G2 G3 n c mb db th vr pr us (upd lm i x) o1 v1 o2 v2 o3 v3 ∧ w.grownBy (w.setCell ⟨A, i * 3 + 2, none⟩ (.int .i64 x)) (some A) := by
  have hs := h.ac.set i 2 hi (by decide) (.int .i64 x)
  exact ⟨h.acc (hs.1.congr (by decide) (fun a b _ hb => updS_acL _ _ _ _ _ a b hb)) hs.2, hs.2⟩
theorem RowS.title {base G : Nat} {ow vn : Nat → Int} (h : RowS w base 185 2 G 256 (tiS ow vn)) (i : Nat) (hi : i < 256) (x y : Int) : RowS ((w.setCell ⟨G, i * 2, none⟩ (.int .i64 x)).setCell ⟨G, i * 2 + 1, none⟩ (.int .i64 y)) base 185 2 G 256 (tiS (upd ow i x) (upd vn i y)) ∧ w.grownBy ((w.setCell ⟨G, i * 2, none⟩ (.int .i64 x)).setCell ⟨G, i * 2 + 1, none⟩ (.int .i64 y)) (some G) := by
  have h1 := h.set i 0 hi (by decide) (.int .i64 x)
  rw [Nat.add_zero] at h1
  have h2 := (h1.1.congr (by decide) (fun a b _ hb => updS_ti0 _ _ _ _ a b hb)).set i 1 hi (by decide) (.int .i64 y)
  exact ⟨h2.1.congr (by decide) (fun a b _ hb => updS_ti1 _ _ _ _ a b hb), grown_more h1.2 h2.2⟩
theorem BkAt.ac0 {base P p B A G1 G2 G3 n c mb db : Nat} {th : Nat → Bool} {vr pr us lm o1 v1 o2 v2 o3 v3 : Nat → Int} (h : (BkAt w base P p B A G1 G2 G3 n c mb db th vr pr us lm o1 v1 o2 v2 o3 v3)) (i : Nat) (hi : i < n) : w.cell? ⟨A, i * 3, none⟩ = some (.int .i64 (pr i)) := by have := h.ac.at i 0 hi (by decide); simpa [acS] using this
theorem BkAt.ac1 {base P p B A G1 G2 G3 n c mb db : Nat} {th : Nat → Bool} {vr pr us lm o1 v1 o2 v2 o3 v3 : Nat → Int} (h : (BkAt w base P p B A G1 G2 G3 n c mb db th vr pr us lm o1 v1 o2 v2 o3 v3)) (i : Nat) (hi : i < n) : w.cell? ⟨A, i * 3 + 1, none⟩ = some (.int .i64 (us i)) := by have := h.ac.at i 1 hi (by decide); simpa [acS] using this
theorem BkAt.ac2 {base P p B A G1 G2 G3 n c mb db : Nat} {th : Nat → Bool} {vr pr us lm o1 v1 o2 v2 o3 v3 : Nat → Int} (h : (BkAt w base P p B A G1 G2 G3 n c mb db th vr pr us lm o1 v1 o2 v2 o3 v3)) (i : Nat) (hi : i < n) : w.cell? ⟨A, i * 3 + 2, none⟩ = some (.int .i64 (lm i)) := by have := h.ac.at i 2 hi (by decide); simpa [acS] using this
theorem RowS.ti {base G : Nat} {ow vn : Nat → Int} (h : RowS w base 185 2 G 256 (tiS ow vn)) (i : Nat) (hi : i < 256) : w.cell? ⟨G, i * 2, none⟩ = some (.int .i64 (ow i)) ∧ w.cell? ⟨G, i * 2 + 1, none⟩ = some (.int .i64 (vn i)) := by
  have h0 := h.at i 0 hi (by decide)
  have h1 := h.at i 1 hi (by decide)
  exact ⟨by simpa [tiS] using h0, by simpa [tiS] using h1⟩
end
end Go.Proofs.YtllcakiomihipaaGreatDoor
namespace Go.Proofs.YtllcakiomihipaaGreatDoor
open Go.ChangeShapes Go.WideShapes Go.ChangeAt Go.RowKit
set_option linter.unusedVariables false
/-- The banks from number x up. -/
def chL (pr : Nat → Int) (x : Int) : List Int := chF pr 300 x
/-- Parents stand below. -/
def PrOk (nb : Nat) (pr : Nat → Int) : Prop := ∀ i, i < nb → -1 ≤ pr i ∧ pr i < (i : Int)
theorem chL_neg (pr : Nat → Int) (x : Int) (h : x < 0) : chL pr x = [] := chF_neg pr 300 x h
theorem chL_cons {nb : Nat} {pr : Nat → Int} (hp : PrOk nb pr) (q : Nat) (hq : q < nb) (hb : nb ≤ 256) : chL pr (q : Int) = (q : Int) :: chL pr (pr q) := by
  have h := hp q hq
  have e1 : ∀ f : Nat, chF pr (f + 1) (q : Int) = (q : Int) :: chF pr f (pr q) := fun f => by
    rw [chF, if_neg (by omega), Int.toNat_natCast]
  have e2 := e1 299
  unfold chL
  rw [show (300 : Nat) = 299 + 1 from rfl, e2, chF_fuel pr q (fun i hi => hp i (by omega)) 299 (299 + 1) (pr q) (by omega) (by omega) (by omega)]
theorem chL_bound {nb : Nat} {pr : Nat → Int} (hp : PrOk nb pr) (hb : nb ≤ 256) : ∀ (q : Nat) (y : Int), y < q → q ≤ nb → (chL pr y).length ≤ q ∧ ∀ z, z ∈ chL pr y → 0 ≤ z ∧ z ≤ y := by
  intro q
  induction q with
  | zero => intro y hy _; rw [chL_neg pr y (by omega)]; exact ⟨Nat.le_refl _, fun z hz => by cases hz⟩
  | succ q ih =>
    intro y hy hq
    by_cases h0 : y < 0
    · rw [chL_neg pr y h0]; exact ⟨by simp, fun z hz => by cases hz⟩
    · obtain ⟨k, rfl⟩ : ∃ k : Nat, y = k := ⟨y.toNat, by omega⟩
      have h := hp k (by omega)
      rw [chL_cons hp k (by omega) hb]
      have h2 := ih (pr k) (by omega) (by omega)
      refine ⟨by simp; exact h2.1, fun z hz => ?_⟩
      rcases List.mem_cons.1 hz with rfl | hz
      · omega
      · have := h2.2 z hz; omega
theorem infoIntB : (Tryz.prog.info? 3).map (fun i => (i.zero, i.size, i.bytes)) = some (some (.int .i64 0), 1, 8) := by kernel_rfl
set_option maxRecDepth 100000 in
set_option maxHeartbeats 1000000 in
theorem bchain_is {base P p B A G1 G2 G3 n c mb db : Nat} {th : Nat → Bool} {vr pr us lm o1 v1 o2 v2 o3 v3 : Nat → Int} (y0 : Int) (nb : Nat) (hy0 : -1 ≤ y0) (hy1 : y0 < nb) (hnb : nb ≤ n) (hth : Hid (∀ i, i < nb → th i = true)) (hpr : Hid (PrOk nb pr)) (w : World) (h : (BkAt w base P p B A G1 G2 G3 n c mb db th vr pr us lm o1 v1 o2 v2 o3 v3)) :
    Calls Tryz.prog 82 #[.pointer (some ⟨P, 0, none⟩), .int .i64 y0] w fun e w' => ∃ v, e = .returned v ∧ w'.ownsRow w.heap.size 3 1 v (chL pr y0).length ((chL pr y0).map (Value.int .i64)) ∧ Below w.heap.size w w' := by
  have H := Lib.hid h
  have hn := h.ar.le
  obtain ⟨i0, hi, hz0, hz1, hz2⟩ := info_parts infoIntB
  have HI := Lib.hid (⟨hi, hz0, hz1, hz2⟩ : Tryz.prog.info? 3 = some i0 ∧ i0.zero = some (.int .i64 0) ∧ i0.size = 1 ∧ i0.bytes = 8)
  obtain ⟨LL, HLL⟩ : ∃ LL, Hid (chL pr y0 = LL) := ⟨_, Lib.hid rfl⟩
  have hLn : LL.length ≤ nb := by rw [← HLL.out]; exact (chL_bound hpr.out (by omega) nb y0 (by omega) (Nat.le_refl _)).1
  rw [HLL.out]
  clear h hi hz0 hz1 hz2
  go_enter Tryz.func82, Tryz.ntmps82
  go_wp2_with fail
  go_loopw [1, 5] (fun x v wr => ∃ (y : Int) (xs : List Int), x = .int .i64 y ∧ -1 ≤ y ∧ y < nb ∧ Hid (xs ++ chL pr y = LL) ∧ wr.ownsRow w.heap.size 3 1 v xs.length (xs.map (Value.int .i64)) ∧ Below w.heap.size w wr) (fun x _ _ => (intOf x + 1).toNat)
  case atStart => exact ⟨y0, [], rfl, by omega, by omega, Lib.hid (by simpa using HLL.out), World.ownsRow_nil _ _ _ _, Below.refl _ _⟩
  case round =>
    obtain ⟨y, xs, rfl, hy0, hy1, HE, hown, hbel⟩ := hrel
    have HW := Lib.hid hown
    have HL := Lib.hid hbel
    have HM := Lib.hid (H.out.below hbel)
    have f0 := HM.out.f0
    have f3 := HM.out.f3
    have hxs : xs.length ≤ nb := by have := HE.out; rw [← this] at hLn; simp at hLn; omega
    clear hown hbel
    by_cases hlt : 0 ≤ y
    · obtain ⟨q, rfl⟩ : ∃ q : Nat, y = q := ⟨y.toNat, by omega⟩
      have hqj : q < nb := by omega
      obtain ⟨r, HR⟩ : ∃ r, Hid (pr q = r) := ⟨_, Lib.hid rfl⟩
      have hr := hpr.out q hqj
      rw [HR.out] at hr
      obtain ⟨hr0, hr1⟩ := hr
      have c0 := HM.out.ac0 q (by omega)
      rw [HR.out] at c0
      have HT := Lib.hid (hth.out q hqj)
      have HE2 : Hid ((xs ++ [(q : Int)]) ++ chL pr r = LL) := Lib.hid (by
        rw [← HE.out, ← HR.out, chL_cons hpr.out q hqj (by omega)]
        simp)
      obtain ⟨nl, HNL⟩ : ∃ nl, Hid (xs.length = nl) := ⟨_, Lib.hid rfl⟩
      have hnl : nl ≤ 256 := by have := HNL.out; omega
      rw [HNL.out] at HW
      have k0 : (0 : Int) ≤ q := by omega
      have k1 : (q : Int) < n := by omega
      clear HE
      go_wp2_with (first
        | (go_at_call 29; (with_reducible refine (athere_in q (by omega) true HT _ HM.out.ar).mono ?_); rintro e w1 ⟨rfl, rfl⟩)
        | (at_builtin; refine wpList_append_own _ rfl _ _ 64 rfl w.heap.size 3 i0 (.int .i64 0) 1 8 Tryz.underlying64 HI.out.1 HI.out.2.1 HI.out.2.2.1 HI.out.2.2.2 rfl (by decide) _ _ _ rfl (HW.out.alloc _) ⟨wr.heap.size, 0, none⟩ 1 1 [.int .i64 q] rfl rfl (cell_one_new _ _ _) (ints_oneCell .i64 [(q : Int)]) (by unfold maxLen; omega) (by omega) (by have := HL.out.size; simp; omega) ?_; intro v' w2 hown' hgrow' _; have HB2 : Hid (Below w.heap.size w w2) := Lib.hid ((HL.out.alloc HL.out.size _).grown hgrow' (by have := HL.out.size; simp; omega) (fun g hg => (HW.out.lt g hg).1)); have HO2 : Hid (w2.ownsRow w.heap.size 3 1 v' (nl + 1) ((xs ++ [(q : Int)]).map (Value.int .i64))) := Lib.hid (by rw [List.map_append]; exact hown'); have HM2 := Lib.hid (H.out.below HB2.out); have f0' := HM2.out.f0; have f3' := HM2.out.f3; have c0' := HM2.out.ac0 q (by omega); rw [HR.out] at c0'; clear hown' hgrow' f0 f3 c0))
      go_roundw
      case rel => exact ⟨r, xs ++ [(q : Int)], rfl, by omega, by omega, HE2, by rw [show (xs ++ [(q : Int)]).length = nl + 1 by have := HNL.out; simp; omega]; exact HO2.out, HB2.out⟩
      case measure => simp [intOf]; omega
    · have HE3 : Hid (xs = LL) := Lib.hid (by have h := HE.out; rw [chL_neg _ _ (by omega)] at h; simpa using h)
      go_wp2_with (first
        | (go_at_call 29; (with_reducible refine (athere_out _ (by omega) _ HM.out.ar).mono ?_); rintro e w1 ⟨rfl, rfl⟩))
      go_ret
      exact ⟨_, rfl, by rw [← HE3.out]; exact HW.out, HL.out⟩
/-- A row of numbers, some or none: its address. -/
theorem own_ints {w : World} {B : Nat} {v : Value} {L : List Int} (h : w.ownsRow B 3 1 v L.length (L.map (Value.int .i64))) : ∃ a c, v = .slice a L.length c ∧ (0 < L.length → ∃ g, a = some ⟨g, 0, none⟩ ∧ RN w g L.length L ∧ B ≤ g ∧ g < w.heap.size) := by
  rcases h.2 with ⟨rfl, h0⟩ | ⟨g, cap, cur, rfl, hB, hg, rest⟩
  · exact ⟨none, 0, by rw [h0], fun h => by omega⟩
  · refine ⟨some ⟨g, 0, none⟩, cap, rfl, fun _ => ⟨g, rfl, fun i hi => ?_, hB, (h.lt g rfl).2⟩⟩
    rw [h.cellAt i (by omega)]
    simp [List.getD, hi]
theorem mem_getD (L : List Int) (x : Int) : x ∈ L ↔ ∃ i, i < L.length ∧ L.getD i 0 = x := by
  rw [List.mem_iff_getElem]
  constructor
  · rintro ⟨i, hi, e⟩; exact ⟨i, hi, by simp [List.getD, hi, e]⟩
  · rintro ⟨i, hi, e⟩; refine ⟨i, hi, ?_⟩; simpa [List.getD, hi] using e
end Go.Proofs.YtllcakiomihipaaGreatDoor
namespace Go.Proofs.YtllcakiomihipaaGreatDoor
open Go.ChangeShapes Go.WideShapes Go.ChangeAt Go.RowKit
set_option linter.unusedVariables false
set_option linter.unusedSimpArgs false
set_option maxRecDepth 100000 in
theorem mul64_is (w : World) : Calls Tryz.prog 222 #[.int .u64 1, .int .u64 256] w fun e w' => e = .returned (.tuple #[.int .u64 0, .int .u64 256]) ∧ w = w' := by
  go_enter Tryz.func222, Tryz.ntmps222
  go_wp2_with fail
  go_ret2
  exact ⟨rfl, rfl⟩
set_option maxRecDepth 100000 in
theorem mul_is (w : World) : Calls Tryz.prog 201 #[.int .u64 1, .int .u64 256] w fun e w' => e = .returned (.tuple #[.int .u64 0, .int .u64 256]) ∧ w = w' := by
  go_enter Tryz.func201, Tryz.ntmps201
  go_wp2_with (first | (go_at_call 222; (with_reducible refine (mul64_is _).mono ?_); rintro e w1 ⟨rfl, rfl⟩))
  go_ret2
  exact ⟨rfl, rfl⟩
/-- Some places anew. -/
theorem flatS_places (s : Nat) (W W' : Nat → Nat → Value) (n k m : Nat) (h0 : 0 < s) (hk : k + m ≤ n) (xs : List Value) (hx : xs.length = m * s) (h1 : ∀ i j, i < m → j < s → xs[i * s + j]? = some (W' (k + i) j)) (h2 : ∀ i j, i < n → j < s → ¬ (k ≤ i ∧ i < k + m) → W' i j = W i j) : over (flatS s W n) (k * s) xs = flatS s W' n := by
  have hle : k * s + m * s ≤ n * s := by rw [← Nat.add_mul]; exact Nat.mul_le_mul_right s hk
  apply List.ext_getElem?
  intro j
  rw [over_get _ _ _ _ (by rw [flatS_len, hx]; omega)]
  by_cases hj : j < n * s
  · have hdm : j = j / s * s + j % s := by rw [Nat.mul_comm]; exact (Nat.div_add_mod j s).symm
    have hml : j % s < s := Nat.mod_lt _ h0
    have hdl : j / s < n := by rw [Nat.div_lt_iff_lt_mul h0]; exact hj
    by_cases h : k * s ≤ j ∧ j < k * s + xs.length
    · rw [if_pos h]
      have hq1 : k ≤ j / s := by rw [Nat.le_div_iff_mul_le h0]; exact h.1
      have hq2 : j / s < k + m := by rw [Nat.div_lt_iff_lt_mul h0, Nat.add_mul]; rw [hx] at h; exact h.2
      have e := h1 (j / s - k) (j % s) (by omega) hml
      have e2 : (j / s - k) * s = j / s * s - k * s := Nat.sub_mul _ _ _
      have hks : k * s ≤ j / s * s := Nat.mul_le_mul_right s hq1
      rw [show (j / s - k) * s + j % s = j - k * s by omega, show k + (j / s - k) = j / s by omega] at e
      rw [e]
      simp [flatS, hj]
    · rw [if_neg h]
      have : ¬ (k ≤ j / s ∧ j / s < k + m) := by
        rintro ⟨h3, h4⟩
        rw [Nat.le_div_iff_mul_le h0] at h3
        rw [Nat.div_lt_iff_lt_mul h0, Nat.add_mul] at h4
        rw [hx] at h
        exact h ⟨h3, h4⟩
      simp [flatS, hj, h2 (j / s) (j % s) hdl hml this]
  · rw [if_neg (by rw [hx]; omega), List.getElem?_eq_none (by rw [flatS_len]; omega), List.getElem?_eq_none (by rw [flatS_len]; omega)]
/-- The first k are nobody's. -/
def loB (k : Nat) : Nat → Int := fun i => if i < k then -1 else 0
def tcs (m : Nat) : List Value := (List.range (m * 2)).map fun j => if j % 2 = 0 then .int .i64 (-1) else .int .i64 0
theorem tcs_len (m : Nat) : (tcs m).length = m * 2 := by simp [tcs]
theorem tcs_one (m : Nat) : ∀ v ∈ tcs m, v.oneCell' = true := by
  intro v hv
  obtain ⟨x, _, rfl⟩ := List.mem_map.1 hv
  split <;> rfl
theorem tcs_at (m i j : Nat) (hi : i < m) (hj : j < 2) : (tcs m)[i * 2 + j]? = some (if j = 0 then .int .i64 (-1) else .int .i64 0) := by
  have h1 : i * 2 + j < m * 2 := by omega
  have h2 : (i * 2 + j) % 2 = j := by omega
  simp [tcs, h1, h2]
theorem tcs_src (m j : Nat) (v : Value) (h : (tcs m)[j]? = some v) : j < m * 2 ∧ v = tiS (loB (j / 2 + 1)) (fun _ => 0) (j / 2) (j % 2) := by
  have hl : j < m * 2 := by
    have := (List.getElem?_eq_some_iff.1 h).1
    rwa [tcs_len] at this
  refine ⟨hl, ?_⟩
  simp [tcs, hl] at h
  rw [← h]
  unfold tiS loB
  rw [if_pos (Nat.lt_succ_self _)]
def TiR (w : World) (base G k : Nat) : Prop := RowS w base 185 2 G 256 (tiS (loB k) (fun _ => 0))
theorem infoTitle : (Tryz.prog.info? 185).map (fun i => (i.zero, i.size, i.bytes)) = some (some (.agg #[.int .i64 0, .int .i64 0]), 2, 16) := by kernel_rfl
theorem infoTitleS : (Tryz.prog.info? 185).map (·.size) = some 2 := by kernel_rfl
theorem TiR.copy {w : World} {base G k : Nat} (h : TiR w base G k) (m dL dC sL sC : Nat) (a : Addr) (hm : Nat.min sL dL = m) (hk : k + m ≤ 256) (hsrc : ∀ j v, (tcs m)[j]? = some v → w.cell? (a.add j) = some v) :
    (∀ ty, (Builtin.copy_ #[113, 113] ty #[.slice (some ⟨G, k * 2, none⟩) dL dC, .slice (some a) sL sC]).run Tryz.prog w = .ok (goInt m) (w.setCells G (k * 2) (tcs m))) ∧ TiR (w.setCells G (k * 2) (tcs m)) base G (k + m) ∧ w.grownBy (w.setCells G (k * 2) (tcs m)) (some G) := by
  have hs := own_setCells (tcs m) (k * 2) _ _ h
  rw [flatS_places 2 (tiS (loB k) (fun _ => 0)) (tiS (loB (k + m)) (fun _ => 0)) 256 k m (by decide) hk (tcs m) (tcs_len m) (fun i j hi hj => by
    rw [tcs_at m i j hi hj]
    unfold tiS loB
    rw [if_pos (show k + i < k + m by omega)]) (fun i j hi hj hn => by
    unfold tiS loB
    by_cases h : i < k
    · have h2 : i < k + m := by omega
      simp [h, h2]
    · have h2 : ¬ i < k + m := by omega
      simp [h, h2])] at hs
  refine ⟨fun ty => ?_, hs⟩
  have := run_copy_cells_wide (P := Tryz.prog) w 113 113 ty 185 2 G (k * 2) dL dC a sL sC (tcs m) Tryz.underlying113 infoTitleS (by rw [hm]; exact tcs_len m) hsrc (fun j hj => by
    rw [tcs_len] at hj
    have e := h.at (k + j / 2) (j % 2) (by omega) (by omega)
    rw [show (k + j / 2) * 2 + j % 2 = k * 2 + j by omega] at e
    rw [e]; rfl) (fun j hj => h.fr _) (tcs_one m)
  rw [this, hm]
theorem TiR.below {w w' : World} {base G k : Nat} (h : TiR w base G k) (hb : Below w.heap.size w w') : TiR w' base G k := RowS.same h (hb.block G (RowS.lt h).2)
theorem titles_made (w : World) (base G : Nat) (h : w.ownsRow base 185 2 (.slice (some ⟨G, 0, none⟩) 256 256) 256 (madeCells (#[Value.int .i64 0, .int .i64 0]) (256 * 2)).toList) : TiR w base G 0 := by
  have e := flatS_made [Value.int .i64 0, .int .i64 0] 256 (by decide)
  have e2 : flatS 2 (fun _ b => [Value.int .i64 0, .int .i64 0].getD b (.int .i64 0)) 256 = flatS 2 (tiS (loB 0) (fun _ => 0)) 256 := flatS_congr 2 _ _ 256 (by decide) (fun i j _ hj => by
    rcases (show j = 0 ∨ j = 1 by omega) with rfl | rfl <;> simp [tiS, loB])
  unfold TiR RowS
  rw [← e2]
  have e3 : (madeCells [Value.int .i64 0, .int .i64 0].toArray (256 * [Value.int .i64 0, .int .i64 0].length)).toList = (madeCells (#[Value.int .i64 0, .int .i64 0]) (256 * 2)).toList := rfl
  rw [e3] at e
  rw [show (2 : Nat) = [Value.int .i64 0, .int .i64 0].length from rfl, ← e]
  exact h
set_option maxRecDepth 100000 in
set_option maxHeartbeats 2000000 in
theorem repeat_is (w : World) (g0 : Nat) (hg0 : g0 < w.heap.size) (c0 : w.cell? ⟨g0, 0, none⟩ = some (.int .i64 (-1))) (c1 : w.cell? ⟨g0, 1, none⟩ = some (.int .i64 0)) :
    Calls Tryz.prog 162 #[.slice (some ⟨g0, 0, none⟩) 1 1, .int .i64 256] w fun e w' => ∃ G, e = .returned (.slice (some ⟨G, 0, none⟩) 256 256) ∧ TiR w' w.heap.size G 256 ∧ Below w.heap.size w w' := by
  obtain ⟨i0, hi, hz0, hz1, hz2⟩ := info_parts infoTitle
  have HI := Lib.hid (⟨hi, hz0, hz1, hz2⟩ : Tryz.prog.info? 185 = some i0 ∧ i0.zero = some (.agg #[.int .i64 0, .int .i64 0]) ∧ i0.size = 2 ∧ i0.bytes = 16)
  clear hi hz0 hz1 hz2
  have HC := Lib.hid (And.intro c0 c1)
  clear c0 c1
  go_enter Tryz.func162, Tryz.ntmps162
  go_upto_region 7 with (first
    | (go_at_call 201; (with_reducible refine (mul_is _).mono ?_); rintro e w1 ⟨rfl, rfl⟩)
    | (at_make; refine wpList_make_full _ rfl _ _ 113 rfl w.heap.size 185 i0 (.agg #[.int .i64 0, .int .i64 0]) 2 Tryz.underlying113 HI.out.1 HI.out.2.1 HI.out.2.2.1 .i64 .i64 _ _ 256 rfl rfl rfl rfl ?b2 ?b3 ?b4 ?_))
  case b2 => rw [HI.out.2.2.2]; omega
  case b3 => unfold maxLen; omega
  case b4 => exact Nat.le_refl _
  intro w2 hown hgrow
  have HR := Lib.hid (titles_made w2 w.heap.size w.heap.size hown)
  have HB := Lib.hid (show Below w.heap.size w w2 from (Below.refl _ _).grown hgrow (Nat.le_refl _) (fun k hk => by cases hk))
  clear hown hgrow
  obtain ⟨G, HG⟩ : ∃ G, Hid (w.heap.size = G) := ⟨_, Lib.hid rfl⟩
  rw [HG.out] at HR ⊢
  have hcp := HR.out.copy 1 256 256 1 1 ⟨g0, 0, none⟩ (by decide) (by decide) (fun j v hj => by
    obtain ⟨hl, rfl⟩ := tcs_src 1 j v hj
    rcases (show j = 0 ∨ j = 1 by omega) with rfl | rfl
    · exact (HB.out.cell (p := ⟨g0, 0, none⟩) hg0).trans HC.out.1
    · exact (HB.out.cell (p := ⟨g0, 1, none⟩) hg0).trans HC.out.2)
  obtain ⟨hrun, hR1, hg1⟩ := hcp
  rw [Nat.zero_mul] at hrun hR1 hg1
  have HR1 := Lib.hid hR1
  have HB1 : Hid (Below G w _) := Lib.hid ((show Below G w w2 by rw [← HG.out]; exact HB.out).grown hg1 (by have := HB.out.size; have := HG.out; omega) (fun k hk => by injection hk with hk; omega))
  clear hR1 hg1
  go_wp2_with fail
  clear hrun
  generalize World.setCells w2 G 0 (tcs 1) = w3 at HR1 HB1 ⊢
  go_loopw [8] (fun i wr => ∃ k : Nat, 1 ≤ k ∧ k ≤ 256 ∧ i = .int .i64 k ∧ TiR wr G G k ∧ Below G w wr) (fun i _ => 256 - (intOf i).toNat)
  case atStart => exact ⟨1, by omega, by omega, rfl, HR1.out, HB1.out⟩
  case round =>
    obtain ⟨k, hk1, hk2, rfl, hR, hb⟩ := hrel
    have HRk := Lib.hid hR
    have HBk := Lib.hid hb
    clear hR hb
    by_cases hlt : k < 256
    · have k0 : (0 : Int) ≤ k := by omega
      obtain ⟨m, hm⟩ : ∃ m, Nat.min k (256 - k) = m := ⟨_, rfl⟩
      have hm1 : 1 ≤ m ∧ k + m ≤ 256 := by have h3 : 1 ≤ Nat.min k (256 - k) := Nat.le_min.2 ⟨by omega, by omega⟩; have h4 : Nat.min k (256 - k) ≤ 256 - k := Nat.min_le_right k (256 - k); rw [hm] at h3 h4; omega
      have HRd := Lib.hid (HRk.out.below (Below.refl wr.heap.size wr).drew)
      have hmk : m ≤ k := by rw [← hm]; exact Nat.min_le_left _ _
      have hcp := HRd.out.copy m (256 - k) (256 - k) k 256 ⟨G, 0, none⟩ hm hm1.2 (fun j v hj => by
        obtain ⟨hl, rfl⟩ := tcs_src m j v hj
        have e := RowS.at HRd.out (j / 2) (j % 2) (by omega) (by omega)
        rw [show j / 2 * 2 + j % 2 = j by omega] at e
        rw [show Addr.add ⟨G, 0, none⟩ j = ⟨G, j, none⟩ by (simp [Addr.add]; exact fun h => h.symm), e]
        unfold tiS loB
        rw [if_pos (Nat.lt_succ_self _), if_pos (show j / 2 < k by omega)])
      obtain ⟨hrun, hR1, hg1⟩ := hcp
      have HR2 := Lib.hid hR1
      have HB2 := Lib.hid ((HBk.out.drew).grown hg1 (by have := (RowS.lt HRk.out).2; simp; omega) (fun k hk => by injection hk with hk; omega))
      have hel : Tryz.prog.elem 113 = 185 := by kernel_rfl
      have ht : Tryz.prog.underlying 113 = some (.slice (Tryz.prog.elem 113)) := by rw [hel]; exact Tryz.underlying113
      have hsz : ∀ W, (sizeOf 185).run Tryz.prog W = .ok 2 W := fun W => by kernel_rfl
      have hsl : ∀ W, (Instr.sliceAt 113 (.slice (some ⟨G, 0, none⟩) 256 256) (some (.int .i64 (k : Int))) none none).run Tryz.prog W = .ok (.slice (some ⟨G, k * 2, none⟩) (256 - k) (256 - k)) W := fun W => by
        rw [run_sliceAt_slice W _ _ _ _ _ ht, run_slice_l W _ _ _ _ ht .i64 (k : Int) (by omega) (by omega), hel, hsz, Result.andThen, Int.toNat_natCast]
        unfold sliced
        rw [if_neg (by omega)]
        simp [Addr.add]
        omega
      have hsl2 : ∀ W, (Instr.sliceAt 113 (.slice (some ⟨G, 0, none⟩) 256 256) none (some (.int .i64 (k : Int))) none).run Tryz.prog W = .ok (.slice (some ⟨G, 0, none⟩) k 256) W := fun W => by
        rw [run_sliceAt_slice W _ _ _ _ _ ht, run_slice_h W _ _ _ _ ht .i64 (k : Int) (by omega) (by omega), hel, hsz, Result.andThen, Int.toNat_natCast]
        simp [sliced, Addr.add]
      clear hR1 hg1 hel ht hsz
      go_upto_region 9 with fail
      refine wp_region_noPanic ?_
      refine wp_region_held_drew (S := fun w' => True) (by kernel_rfl) trivial (fun hHeld => ?_)
      refine wpAnyH_take (i := 0) (v := ?_) (by rfl) (by kernel_rfl) (by kernel_rfl) (by kernel_rfl) (fun _ _ _ h => h) (Or.inl ⟨by kernel_rfl, ?_⟩) (by assumption) ?_; rotate_left 1; (focus (intro w hSw; (try dsimp only at hSw); simp only [List.getElem_toArray, List.getElem_cons_succ, List.getElem_cons_zero]; all_goals go_simp; all_goals (try with_reducible rfl))); (try simp only [Act.put, List.getElem_toArray, List.getElem_cons_succ, List.getElem_cons_zero, List.setIfInBounds_toArray, List.set_cons_zero, List.set_cons_succ])
      refine wpAnyH_take (i := 1) (v := ?_) (by rfl) (by kernel_rfl) (by kernel_rfl) (by kernel_rfl) (fun _ _ _ h => h) (Or.inl ⟨by kernel_rfl, ?_⟩) (by assumption) ?_; rotate_left 1; (focus (intro w hSw; (try dsimp only at hSw); simp only [List.getElem_toArray, List.getElem_cons_succ, List.getElem_cons_zero]; all_goals go_simp; all_goals (try with_reducible rfl))); (try simp only [Act.put, List.getElem_toArray, List.getElem_cons_succ, List.getElem_cons_zero, List.setIfInBounds_toArray, List.set_cons_zero, List.set_cons_succ])
      refine wpAnyH_take (i := 2) (v := ?_) (by rfl) (by kernel_rfl) (by kernel_rfl) (by kernel_rfl) (fun _ _ _ h => h) (Or.inl ⟨by kernel_rfl, ?_⟩) (by assumption) ?_; rotate_left 1; (focus (intro w hSw; (try dsimp only at hSw); simp only [List.getElem_toArray, List.getElem_cons_succ, List.getElem_cons_zero]; all_goals go_simp; all_goals (try with_reducible rfl))); (try simp only [Act.put, List.getElem_toArray, List.getElem_cons_succ, List.getElem_cons_zero, List.setIfInBounds_toArray, List.set_cons_zero, List.set_cons_succ])
      refine wpAnyH_take (i := 3) (v := ?_) (by rfl) (by kernel_rfl) (by kernel_rfl) (by kernel_rfl) (fun _ _ _ h => h) (Or.inl ⟨by kernel_rfl, ?_⟩) (by assumption) ?_; rotate_left 1; (focus (intro w hSw; (try dsimp only at hSw); simp only [List.getElem_toArray, List.getElem_cons_succ, List.getElem_cons_zero]; all_goals go_simp; all_goals (try with_reducible rfl))); (try simp only [Act.put, List.getElem_toArray, List.getElem_cons_succ, List.getElem_cons_zero, List.setIfInBounds_toArray, List.set_cons_zero, List.set_cons_succ])
      refine wpAnyH_take (i := 4) (v := ?_) (by rfl) (by kernel_rfl) (by kernel_rfl) (by kernel_rfl) (fun _ _ _ h => h) (Or.inl ⟨by kernel_rfl, ?_⟩) (by assumption) ?_; rotate_left 1; (focus (intro w hSw; (try dsimp only at hSw); simp only [List.getElem_toArray, List.getElem_cons_succ, List.getElem_cons_zero]; all_goals go_simp; all_goals (try with_reducible rfl))); (try simp only [Act.put, List.getElem_toArray, List.getElem_cons_succ, List.getElem_cons_zero, List.setIfInBounds_toArray, List.set_cons_zero, List.set_cons_succ])
      refine wpAnyH_take (i := 5) (v := ?_) (by rfl) (by kernel_rfl) (by kernel_rfl) (by kernel_rfl) (fun _ _ _ h => h) (Or.inl ⟨by kernel_rfl, ?_⟩) (by assumption) ?_; rotate_left 1; (focus (intro w hSw; (try dsimp only at hSw); simp only [List.getElem_toArray, List.getElem_cons_succ, List.getElem_cons_zero]; all_goals go_simp; all_goals (try with_reducible rfl))); (try simp only [Act.put, List.getElem_toArray, List.getElem_cons_succ, List.getElem_cons_zero, List.setIfInBounds_toArray, List.set_cons_zero, List.set_cons_succ])
      refine wpAnyH_take (i := 6) (v := ?_) (by rfl) (by kernel_rfl) (by kernel_rfl) (by kernel_rfl) (fun _ _ _ h => h) (Or.inl ⟨by kernel_rfl, ?_⟩) (by assumption) ?_; rotate_left 1; (focus (intro w hSw; (try dsimp only at hSw); simp only [List.getElem_toArray, List.getElem_cons_succ, List.getElem_cons_zero]; all_goals go_simp; all_goals (try with_reducible rfl))); (try simp only [Act.put, List.getElem_toArray, List.getElem_cons_succ, List.getElem_cons_zero, List.setIfInBounds_toArray, List.set_cons_zero, List.set_cons_succ])
      refine wpAnyH_ready (rs := [7]) (by kernel_rfl) (by simp) ?_; refine AllReadyH.cons (by rfl) (fun K hK => ?_) AllReadyH.nil; rw [if_pos (by kernel_rfl)]; simp only [List.getElem_toArray, List.getElem_cons_succ, List.getElem_cons_zero]
      go_wp2_with fail
      clear hrun hsl hsl2
      generalize World.setCells wr.drew G (k * 2) (tcs m) = w5 at HR2 HB2 ⊢
      refine hK.out _ _ trivial (fun hHeld => ?_)
      clear hK K hHeld
      (try simp only [Act.put, List.getElem_toArray, List.getElem_cons_succ, List.getElem_cons_zero, List.setIfInBounds_toArray, List.set_cons_zero, List.set_cons_succ])
      have hwr : IntKind.i64.wrap ((k : Int) + (m : Int)) = (k : Int) + (m : Int) := by rw [IntKind.wrap_i64]; omega
      refine wpAnyH_take (i := 8) (v := ?_) (by rfl) (by kernel_rfl) (by kernel_rfl) (by kernel_rfl) (fun _ _ _ h => h) (Or.inl ⟨by kernel_rfl, ?_⟩) (by assumption) ?_; rotate_left 1; (focus (intro w hSw; (try dsimp only at hSw); simp only [List.getElem_toArray, List.getElem_cons_succ, List.getElem_cons_zero]; all_goals go_simp; all_goals (try with_reducible rfl))); (try simp only [Act.put, List.getElem_toArray, List.getElem_cons_succ, List.getElem_cons_zero, List.setIfInBounds_toArray, List.set_cons_zero, List.set_cons_succ])
      refine wpAnyH_take (i := 9) (v := ?_) (by rfl) (by kernel_rfl) (by kernel_rfl) (by kernel_rfl) (fun _ _ _ h => h) (Or.inl ⟨by kernel_rfl, ?_⟩) (by assumption) ?_; rotate_left 1; (focus (intro w hSw; (try dsimp only at hSw); simp only [List.getElem_toArray, List.getElem_cons_succ, List.getElem_cons_zero]; all_goals go_simp; all_goals (try with_reducible rfl))); (try simp only [Act.put, List.getElem_toArray, List.getElem_cons_succ, List.getElem_cons_zero, List.setIfInBounds_toArray, List.set_cons_zero, List.set_cons_succ])
      refine wpAnyH_done (by kernel_rfl) ?_ _
      refine NoPanic.normal ?_
      go_wp2_with fail
      go_roundw
      case rel => exact ⟨k + m, by omega, hm1.2, by go_num, HR2.out, HB2.out⟩
      case measure => simp [intOf]; omega
    · obtain rfl : k = 256 := by omega
      go_wp2_with fail
      go_ret
      exact ⟨G, rfl, by rw [HG.out]; exact HRk.out, by rw [HG.out]; exact HBk.out⟩
set_option maxRecDepth 100000 in
theorem unowned_is (w : World) : Calls Tryz.prog 111 #[] w fun e w' => ∃ G, e = .returned (.slice (some ⟨G, 0, none⟩) 256 256) ∧ TiR w' w.heap.size G 256 ∧ Below w.heap.size w w' := by
  go_enter Tryz.func111, Tryz.ntmps111
  go_wp2_with (first
    | (go_at_call 162; (with_reducible refine (repeat_is _ w.heap.size (by simp) (by simp) (by simp)).mono ?_); rintro e w1 ⟨G, rfl, hr, hb⟩; have HR := Lib.hid hr; have HB := Lib.hid hb; clear hr hb))
  go_ret
  refine ⟨G, rfl, ?_, ((Below.refl _ _).alloc (Nat.le_refl _) _ : Below w.heap.size w _).trans (HB.out.mono (by simp))⟩
  have h := HR.out
  refine ⟨h.1, ?_⟩
  rcases h.2 with hn | ⟨g', cap, cur, e', hB, hg, rest⟩
  · exact .inl hn
  · exact .inr ⟨g', cap, cur, e', Nat.le_trans (by simp) hB, hg, rest⟩
end Go.Proofs.YtllcakiomihipaaGreatDoor
namespace Go.Proofs.YtllcakiomihipaaGreatDoor
open Go.ChangeShapes Go.WideShapes Go.ChangeAt Go.RowKit
set_option linter.unusedVariables false
/-- Pages over a law's start. -/
structure PV (W0 w : World) (base P p B G n c : Nat) (th : Nat → Bool) (vr : Nat → Int) (W : Nat → Nat → Int) : Prop where
  bel : Below W0.heap.size W0 w
  wb : W0.heap.size ≤ base
  pg : PgAt w base P p B G n c th vr W
section
variable {W0 w w' : World} {base P p B G n c : Nat} {th th' : Nat → Bool} {vr vr' : Nat → Int} {W W' : Nat → Nat → Int}
theorem PV.ar (h : PV W0 w base P p B G n c th vr W) : ArAt w base p B n c th vr := h.pg.ar
theorem PV.lo (h : PV W0 w base P p B G n c th vr W) : W0.heap.size ≤ B ∧ W0.heap.size ≤ G := ⟨Nat.le_trans h.wb h.pg.ar.lt.1, Nat.le_trans h.wb (h.pg.row.lt G rfl).1⟩
theorem PV.step (h : PV W0 w base P p B G n c th vr W) (hb : Below w.heap.size w w') : PV W0 w' base P p B G n c th vr W := ⟨h.bel.trans (hb.mono h.bel.size), h.wb, h.pg.below hb⟩
theorem PV.turn (h : PV W0 w base P p B G n c th vr W) (hA : ArAt w' base p B n c th' vr') (hg : w.grownBy w' (some B)) : PV W0 w' base P p B G n c th' vr' W := ⟨below_grown h.bel hg h.lo.1, h.wb, h.pg.turn hA hg⟩
theorem PV.made (h : PV W0 w base P p B G n c th vr W) (hP : PgAt w' base P p B G n c th' vr' W') (hb : PBelow w w' B G) : PV W0 w' base P p B G n c th' vr' W' := ⟨h.bel.trans (hb.below h.lo.1 h.lo.2 h.bel.size), h.wb, hP⟩
theorem PV.congr (h : PV W0 w base P p B G n c th vr W) (h1 : ∀ i, i < n → th i = th' i) (h2 : ∀ i, i < n → vr i = vr' i) : PV W0 w base P p B G n c th' vr' W := ⟨h.bel, h.wb, h.pg.congr h1 h2⟩
end
/-- Words that are read there. -/
def RU (w : World) (a : Option Addr) (xs : List Int) : Prop := ∀ j, j < xs.length → ∃ ad, a = some ad ∧ ad.block < w.heap.size ∧ w.cell? (ad.add j) = some (.int .u32 (xs.getD j 0))
theorem RU.below {w w' : World} {a : Option Addr} {xs : List Int} (h : RU w a xs) (hb : Below w.heap.size w w') : RU w' a xs := by
  intro i hi
  obtain ⟨ad, h1, h2, h3⟩ := h i hi
  exact ⟨ad, h1, Nat.lt_of_lt_of_le h2 hb.size, (hb.cell (p := ad.add i) (by rw [add_block']; exact h2)).trans h3⟩
end Go.Proofs.YtllcakiomihipaaGreatDoor
namespace Go.Proofs.YtllcakiomihipaaGreatDoor
open Go.ChangeShapes Go.WideShapes Go.ChangeAt Go.RowKit
set_option linter.unusedVariables false
/-- One word anew. -/
def updA (W : Nat → Nat → Int) (i j : Nat) (x : Int) : Nat → Nat → Int := fun a b => if a = i ∧ b = j then x else W a b
theorem flat_set (W : Nat → Nat → Int) (n i j : Nat) (x : Int) (hi : i < n) (hj : j < 32) : (flat W n).set (i * 32 + j) (.int .u32 x) = flat (updA W i j x) n := by
  apply List.ext_getElem?
  intro q
  by_cases hq : q < n * 32
  · by_cases e : q = i * 32 + j
    · subst e
      rw [List.getElem?_set_self (by rw [flat_len]; exact hq), flat_at _ n i j hi hj]
      simp [updA]
    · rw [List.getElem?_set_ne (by omega)]
      have : ¬ (q / 32 = i ∧ q % 32 = j) := by omega
      simp only [flat, List.getElem?_map, List.getElem?_range hq, Option.map_some, updA, if_neg this]
  · rw [List.getElem?_eq_none (by rw [List.length_set, flat_len]; omega), List.getElem?_eq_none (by rw [flat_len]; omega)]
section
variable {w w' : World} {base P p B G n c : Nat} {th : Nat → Bool} {vr : Nat → Int} {W : Nat → Nat → Int}
theorem PgAt.put (h : PgAt w base P p B G n c th vr W) (i j : Nat) (hi : i < n) (hj : j < 32) (x : Int) : PgAt (w.setCell ⟨G, i * 32 + j, none⟩ (.int .u32 x)) base P p B G n c th vr (updA W i j x) ∧ PBelow w (w.setCell ⟨G, i * 32 + j, none⟩ (.int .u32 x)) B G := by
  have hs := h.row.stored (i * 32 + j) (.int .u32 x)
  rw [flat_set W n i j x hi hj] at hs
  exact ⟨⟨Nat.lt_of_lt_of_le h.pl hs.2.size, h.pb, (World.cell?_of_block (a := ⟨P, 0, none⟩) (hs.2.block P h.pl (fun e => h.n2 (by injection e)))).trans h.f0, (World.cell?_of_block (a := ⟨P, 1, none⟩) (hs.2.block P h.pl (fun e => h.n2 (by injection e)))).trans h.f1, h.ar.kept hs.2 (Ne.symm h.n4) (Ne.symm h.n3), hs.1, h.n1, h.n2, h.n3, h.n4⟩, PBelow.of hs.2 (.inr rfl)⟩
theorem PgAt.kept {F : Nat} (h : PgAt w base P p B G n c th vr W) (hg : w.grownBy w' (some F)) (h1 : F ≠ P) (h2 : F ≠ p) (h3 : F ≠ B) (h4 : F ≠ G) : PgAt w' base P p B G n c th vr W :=
  ⟨Nat.lt_of_lt_of_le h.pl hg.size, h.pb, (World.cell?_of_block (a := ⟨P, 0, none⟩) (hg.block P h.pl (fun e => h1 (by injection e with e; exact e.symm)))).trans h.f0, (World.cell?_of_block (a := ⟨P, 1, none⟩) (hg.block P h.pl (fun e => h1 (by injection e with e; exact e.symm)))).trans h.f1, h.ar.kept hg (Ne.symm h2) (Ne.symm h3), h.row.kept hg (.inr (fun e => h4 (by simpa [Value.ownBlock] using e.symm))), h.n1, h.n2, h.n3, h.n4⟩
end
end Go.Proofs.YtllcakiomihipaaGreatDoor
namespace Go.Proofs.YtllcakiomihipaaGreatDoor
open Go.ChangeShapes Go.WideShapes Go.ChangeAt Go.RowKit
set_option linter.unusedVariables false
/-- The words while the pages are made. -/
def wk (k : Nat) : Nat → Nat → Int := fun a b => if a < k ∧ b < 2 then (a : Int) else 0
theorem flat_congr {W W' : Nat → Nat → Int} (n : Nat) (h : ∀ i j, j < 32 → W i j = W' i j) : flat W n = flat W' n := by
  unfold flat
  apply List.map_congr_left
  intro q _
  rw [h _ _ (Nat.mod_lt _ (by decide))]
theorem PV.words {W0 w : World} {base P p B G n c : Nat} {th : Nat → Bool} {vr : Nat → Int} {W W' : Nat → Nat → Int} (h : PV W0 w base P p B G n c th vr W) (h1 : ∀ i j, j < 32 → W i j = W' i j) : PV W0 w base P p B G n c th vr W' :=
  ⟨h.bel, h.wb, ⟨h.pg.pl, h.pg.pb, h.pg.f0, h.pg.f1, h.pg.ar, by rw [← flat_congr n h1]; exact h.pg.row, h.pg.n1, h.pg.n2, h.pg.n3, h.pg.n4⟩⟩
/-- The pages, and what was handed out of one. -/
structure LR (W0 w : World) (base P p B G n c : Nat) (th : Nat → Bool) (vr : Nat → Int) (W : Nat → Nat → Int) (g c' : Nat) : Prop where
  pv : PV W0 w base P p B G n c th vr W
  row : ∃ ys : List Int, ys.length = 32 ∧ w.ownsRow W0.heap.size 26 1 (.slice (some ⟨g, 0, none⟩) 32 c') 32 (ys.map (Value.int .u32))
  n1 : g ≠ P
  n2 : g ≠ p
  n3 : g ≠ B
  n4 : g ≠ G
section
variable {W0 w w' : World} {base P p B G n c g c' : Nat} {th : Nat → Bool} {vr : Nat → Int} {W : Nat → Nat → Int}
theorem LR.at (h : LR W0 w base P p B G n c th vr W g c') (k : Nat) (hk : k < 32) : ∃ x, w.cell? ⟨g, k, none⟩ = some (.int .u32 x) ∧ w.frozen? ⟨g, k, none⟩ = false := by
  obtain ⟨ys, hy, hr⟩ := h.row
  refine ⟨ys.getD k 0, ?_, hr.frozenAt k⟩
  rw [hr.cellAt k (by omega)]
  have : k < ys.length := by omega
  simp [List.getD, this]
theorem LR.put (h : LR W0 w base P p B G n c th vr W g c') (k : Nat) (x : Int) : LR W0 (w.setCell ⟨g, k, none⟩ (.int .u32 x)) base P p B G n c th vr W g c' := by
  obtain ⟨ys, hy, hr⟩ := h.row
  have hs := hr.stored k (.int .u32 x)
  refine ⟨⟨h.pv.bel.grown hs.2 h.pv.bel.size (fun j hj => by injection hj with e; have := (hr.lt g rfl).1; omega), h.pv.wb, h.pv.pg.kept hs.2 h.n1 h.n2 h.n3 h.n4⟩, ⟨ys.set k x, by simpa using hy, by rw [List.map_set]; exact hs.1⟩, h.n1, h.n2, h.n3, h.n4⟩
theorem LR.start (h : PV W0 w base P p B G n c th vr W) (xs : List Int) (hx : xs.length = 32) (hr : w'.ownsRow w.heap.size 26 1 (.slice (some ⟨g, 0, none⟩) 32 c') 32 (xs.map (Value.int .u32))) (hb : Below w.heap.size w w') : LR W0 w' base P p B G n c th vr W g c' := by
  have hg := (hr.lt g rfl).1
  have h1 := h.pg.pl
  have h2 := h.pg.ar.pl
  have h3 := h.pg.ar.lt.2
  have h4 := (h.pg.row.lt G rfl).2
  refine ⟨h.step hb, ⟨xs, hx, hr.1, ?_⟩, by omega, by omega, by omega, by omega⟩
  rcases hr.2 with h0 | ⟨g, cap, cur, hv, hB, rest⟩
  · exact .inl h0
  · exact .inr ⟨g, cap, cur, hv, Nat.le_trans h.bel.size hB, rest⟩
end
end Go.Proofs.YtllcakiomihipaaGreatDoor
namespace Go.Proofs.YtllcakiomihipaaGreatDoor
open Go.ChangeShapes Go.WideShapes Go.ChangeAt Go.RowKit
set_option linter.unusedVariables false
end Go.Proofs.YtllcakiomihipaaGreatDoor
namespace Go.Proofs.YtllcakiomihipaaGreatDoor
open Go.ChangeShapes Go.WideShapes Go.ChangeAt Go.RowKit
set_option linter.unusedVariables false
theorem infoInt : (Tryz.prog.info? 3).map (fun i => (i.zero, i.size, i.bytes)) = some (some (.int .i64 0), 1, 8) := by kernel_rfl
section
variable {W w w' : World} {base p B n c F : Nat} {vr : Nat → Int}
/-- A row of numbers of the law's own. -/
def IR (w : World) (base F n : Nat) (vr : Nat → Int) : Prop := w.ownsRow base 3 1 (.slice (some ⟨F, 0, none⟩) n n) n ((List.range n).map fun i => Value.int .i64 (vr i))
theorem IR.at (h : IR w base F n vr) (k : Nat) (hk : k < n) : w.cell? ⟨F, k, none⟩ = some (.int .i64 (vr k)) := by
  have := World.ownsRow.cellAt h k (by omega)
  rw [this]
  simp [hk]
theorem IR.lt (h : IR w base F n vr) : base ≤ F ∧ F < w.heap.size := World.ownsRow.lt h F rfl
theorem IR.free (h : IR w base F n vr) (k : Nat) : w.frozen? ⟨F, k, none⟩ = false := World.ownsRow.frozenAt h k
theorem IR.below (h : IR w base F n vr) (hb : Below w.heap.size w w') : IR w' base F n vr := own_below h hb
theorem IR.kept (h : IR w base F n vr) (hg : w.grownBy w' (some B)) (hB : F ≠ B) : IR w' base F n vr := World.ownsRow.kept h hg (.inr (by simpa [Value.ownBlock] using hB))
theorem IR.set (h : IR w base F n vr) (k : Nat) (hk : k < n) (x : Int) : IR (w.setCell ⟨F, k, none⟩ (.int .i64 x)) base F n (upd vr k x) ∧ w.grownBy (w.setCell ⟨F, k, none⟩ (.int .i64 x)) (some F) := by
  have hs := World.ownsRow.stored h k (.int .i64 x)
  refine ⟨?_, hs.2⟩
  unfold IR
  have e : ((List.range n).map fun i => Value.int .i64 (upd vr k x i)) = ((List.range n).map fun i => Value.int .i64 (vr i)).set k (.int .i64 x) := by
    apply List.ext_getElem?
    intro j
    by_cases hj : j < n
    · by_cases e : j = k
      · subst e
        simp [upd, hj]
      · rw [List.getElem?_set_ne (by omega)]
        simp [upd, e, hj]
    · rw [List.getElem?_eq_none (by simp; omega), List.getElem?_eq_none (by simp; omega)]
  rw [e]
  exact hs.1
end
/-- The law's state: who is there, the versions, in the arena and in the law's own rows alike. -/
structure PS (W w : World) (base p B n c L V : Nat) (th lv : Nat → Bool) (va vr : Nat → Int) : Prop where
  vv : VV W w base p B n c th va
  lv : FR w W.heap.size L n lv
  vr : IR w W.heap.size V n vr
  lb : L ≠ B
  lp : L ≠ p
  vb : V ≠ B
  vp : V ≠ p
  lvn : L ≠ V
section
variable {W w w' : World} {base p B n c L V : Nat} {th th' lv lv' : Nat → Bool} {va va' vr vr' : Nat → Int}
theorem PS.step (h : PS W w base p B n c L V th lv va vr) (hb : Below w.heap.size w w') : PS W w' base p B n c L V th lv va vr := ⟨h.vv.step hb, h.lv.below hb, h.vr.below hb, h.lb, h.lp, h.vb, h.vp, h.lvn⟩
theorem PS.turn (h : PS W w base p B n c L V th lv va vr) (hA : ArAt w' base p B n c th' va') (hg : w.grownBy w' (some B)) : PS W w' base p B n c L V th' lv va' vr := ⟨h.vv.turn hA hg, h.lv.kept hg h.lb, h.vr.kept hg h.vb, h.lb, h.lp, h.vb, h.vp, h.lvn⟩
end
end Go.Proofs.YtllcakiomihipaaGreatDoor
namespace Go.Proofs.YtllcakiomihipaaGreatDoor
open Go.ChangeShapes Go.WideShapes Go.ChangeAt Go.RowKit
set_option linter.unusedVariables false
/-- A copy of pages: as pages, but its row may have room to spare. -/
structure PcAt (w : World) (base P p B G n c q : Nat) (th : Nat → Bool) (vr : Nat → Int) (W : Nat → Nat → Int) : Prop where
  pl : P < w.heap.size
  pb : base ≤ P
  f0 : w.cell? ⟨P, 0, none⟩ = some (.pointer (some ⟨p, 0, none⟩))
  f1 : w.cell? ⟨P, 1, none⟩ = some (.slice (some ⟨G, 0, none⟩) n q)
  ar : ArAt w base p B n c th vr
  row : w.ownsRow base 283 32 (.slice (some ⟨G, 0, none⟩) n q) n (flat W n)
section
variable {w X Y : World} {base P p B G n c : Nat} {th : Nat → Bool} {vr : Nat → Int} {W : Nat → Nat → Int}
end
end Go.Proofs.YtllcakiomihipaaGreatDoor
namespace Go.Proofs.YtllcakiomihipaaGreatDoor
open Go.ChangeShapes Go.WideShapes Go.ChangeAt Go.RowKit
set_option linter.unusedVariables false
/-- Where nodes (or pages) lie, how many. -/
structure Shp where
  b : Nat
  P : Nat
  p : Nat
  B : Nat
  G : Nat
  n : Nat
  c : Nat
/-- A store lies at S: its nodes, its pages behind them. -/
structure StAt (w : World) (S : Nat) (a b : Shp) (th : Nat → Bool) (vr_ : Nat → Int) (W : Nat → Nat → Value) (th2 : Nat → Bool) (vr2 : Nat → Int) (W2 : Nat → Nat → Int) : Prop where
  s0 : w.cell? ⟨S, 0, none⟩ = some (.pointer (some ⟨a.P, 0, none⟩))
  s1 : w.cell? ⟨S, 1, none⟩ = some (.pointer (some ⟨b.P, 0, none⟩))
  sl : S < w.heap.size
  nd : NdAt w a.b a.P a.p a.B a.G a.n a.c th vr_ W
  pg : PgAt w b.b b.P b.p b.B b.G b.n b.c th2 vr2 W2
  ab : a.b ≤ b.b
  hi : a.P < b.b ∧ a.p < b.b ∧ a.B < b.b ∧ a.G < b.b
  hs : b.b ≤ S ∧ b.P ≠ S ∧ b.p ≠ S ∧ b.B ≠ S ∧ b.G ≠ S
theorem row_same' {w w' : World} {B e s n : Nat} {v : Value} {xs : List Value} (h : w.ownsRow B e s v n xs) (hb : ∀ g, v.ownBlock = some g → w'.heap[g]? = w.heap[g]?) : w'.ownsRow B e s v n xs := by
  refine ⟨h.1, ?_⟩
  rcases h.2 with hn | ⟨g, cap, cur, rfl, hB, hg, rest⟩
  · exact .inl hn
  · exact .inr ⟨g, cap, cur, rfl, hB, (hb g rfl).trans hg, rest⟩
section
variable {w w' : World} {base P p B G n c : Nat} {th : Nat → Bool} {vr_ : Nat → Int} {W : Nat → Nat → Value} {W2 : Nat → Nat → Int}
theorem ArAt.same (h : ArAt w base p B n c th vr_) (hs : w.heap.size ≤ w'.heap.size) (h1 : w'.heap[p]? = w.heap[p]?) (h2 : w'.heap[B]? = w.heap[B]?) : ArAt w' base p B n c th vr_ :=
  ⟨Nat.lt_of_lt_of_le h.pl hs, h.pb, (World.cell?_of_block (a := ⟨p, 0, none⟩) h1).trans h.fld, row_same' h.own (fun g hg => by simp [Value.ownBlock] at hg; rw [← hg]; exact h2), h.ne, h.le⟩
theorem NdAt.same (h : NdAt w base P p B G n c th vr_ W) (hs : w.heap.size ≤ w'.heap.size) (h0 : w'.heap[P]? = w.heap[P]?) (h1 : w'.heap[p]? = w.heap[p]?) (h2 : w'.heap[B]? = w.heap[B]?) (h3 : w'.heap[G]? = w.heap[G]?) : NdAt w' base P p B G n c th vr_ W :=
  ⟨Nat.lt_of_lt_of_le h.pl hs, h.pb, (World.cell?_of_block (a := ⟨P, 0, none⟩) h0).trans h.f0, (World.cell?_of_block (a := ⟨P, 1, none⟩) h0).trans h.f1, h.ar.same hs h1 h2, row_same' h.row (fun g hg => by simp [Value.ownBlock] at hg; rw [← hg]; exact h3), h.n1, h.n2, h.n3, h.n4⟩
theorem PgAt.same (h : PgAt w base P p B G n c th vr_ W2) (hs : w.heap.size ≤ w'.heap.size) (h0 : w'.heap[P]? = w.heap[P]?) (h1 : w'.heap[p]? = w.heap[p]?) (h2 : w'.heap[B]? = w.heap[B]?) (h3 : w'.heap[G]? = w.heap[G]?) : PgAt w' base P p B G n c th vr_ W2 :=
  ⟨Nat.lt_of_lt_of_le h.pl hs, h.pb, (World.cell?_of_block (a := ⟨P, 0, none⟩) h0).trans h.f0, (World.cell?_of_block (a := ⟨P, 1, none⟩) h0).trans h.f1, h.ar.same hs h1 h2, row_same' h.row (fun g hg => by simp [Value.ownBlock] at hg; rw [← hg]; exact h3), h.n1, h.n2, h.n3, h.n4⟩
end
section
variable {w w' : World} {S : Nat} {a b : Shp} {th th' : Nat → Bool} {vr_ vr' : Nat → Int} {W W' : Nat → Nat → Value} {th2 th2' : Nat → Bool} {vr2 vr2' : Nat → Int} {W2 W2' : Nat → Nat → Int}
theorem StAt.below (h : (StAt w S a b th vr_ W th2 vr2 W2)) (hb : Below w.heap.size w w') : (StAt w' S a b th vr_ W th2 vr2 W2) :=
  ⟨(hb.cell (p := ⟨S, 0, none⟩) h.sl).trans h.s0, (hb.cell (p := ⟨S, 1, none⟩) h.sl).trans h.s1, Nat.lt_of_lt_of_le h.sl hb.size, h.nd.below hb, h.pg.below hb, h.ab, h.hi, h.hs⟩
theorem StAt.node (h : (StAt w S a b th vr_ W th2 vr2 W2)) (hN : NdAt w' a.b a.P a.p a.B a.G a.n a.c th' vr' W') (hb : PBelow w w' a.B a.G) : StAt w' S a b th' vr' W' th2 vr2 W2 := by
  have hk : ∀ k, k < w.heap.size → b.b ≤ k → w'.heap[k]? = w.heap[k]? := fun k hk hbk => hb.2.2.2.2 k hk (by have := h.hi; omega) (by have := h.hi; omega)
  have hS := hk S h.sl h.hs.1
  refine ⟨(World.cell?_of_block (a := ⟨S, 0, none⟩) hS).trans h.s0, (World.cell?_of_block (a := ⟨S, 1, none⟩) hS).trans h.s1, Nat.lt_of_lt_of_le h.sl hb.2.2.2.1, hN, ?_, h.ab, h.hi, h.hs⟩
  exact h.pg.same hb.2.2.2.1 (hk _ h.pg.pl h.pg.pb) (hk _ h.pg.ar.pl h.pg.ar.pb) (hk _ h.pg.ar.lt.2 h.pg.ar.lt.1) (hk _ (h.pg.row.lt b.G rfl).2 (h.pg.row.lt b.G rfl).1)
theorem StAt.page (h : (StAt w S a b th vr_ W th2 vr2 W2)) (hP : PgAt w' b.b b.P b.p b.B b.G b.n b.c th2' vr2' W2') (hb : PBelow w w' b.B b.G) : StAt w' S a b th vr_ W th2' vr2' W2' := by
  have h1 := h.pg.ar.lt.1
  have h2 := (h.pg.row.lt b.G rfl).1
  have h3 := h.hs
  have h4 := h.hi
  have hS := hb.2.2.2.2 S h.sl (Ne.symm h3.2.2.2.1) (Ne.symm h3.2.2.2.2)
  have hk : ∀ k, k < w.heap.size → k < b.b → w'.heap[k]? = w.heap[k]? := fun k hk hbk => hb.2.2.2.2 k hk (by omega) (by omega)
  refine ⟨(World.cell?_of_block (a := ⟨S, 0, none⟩) hS).trans h.s0, (World.cell?_of_block (a := ⟨S, 1, none⟩) hS).trans h.s1, Nat.lt_of_lt_of_le h.sl hb.2.2.2.1, ?_, hP, h.ab, h.hi, h.hs⟩
  exact h.nd.same hb.2.2.2.1 (hk _ h.nd.pl h4.1) (hk _ h.nd.ar.pl h4.2.1) (hk _ h.nd.ar.lt.2 h4.2.2.1) (hk _ (h.nd.row.lt a.G rfl).2 h4.2.2.2)
end
set_option maxRecDepth 100000 in
theorem snew_ok (x y : Int) (n m : Nat) (hx : Hid (x = n)) (hy : Hid (y = m)) (h1 : 1 ≤ n) (h2 : n ≤ 256) (h3 : 1 ≤ m) (h4 : m ≤ 256) (w : World) :
    Calls Tryz.prog 108 #[.int .i64 x, .int .i64 y] w fun e w' => ∃ S a b, e = .returned (.tuple #[.pointer (some ⟨S, 0, none⟩), .nilIface]) ∧ StAt w' S a b (fun _ => false) (fun _ => 0) (fun _ b => zc b) (fun _ => false) (fun _ => 0) (fun _ _ => 0) ∧ Hid (a.n = n ∧ b.n = m ∧ a.b = w.heap.size) ∧ Below w.heap.size w w' := by
  go_enter Tryz.func108, Tryz.ntmps108
  go_wp2_with (first
    | (go_at_call 159; (with_reducible refine (nnew_ok x n hx h1 h2 _).mono ?_); rintro e w1 ⟨P, p, B, G, rfl, hP, hb⟩; have H1 := Lib.hid hP; have HB1 := Lib.hid hb; clear hP hb)
    | (go_at_call 160; (with_reducible refine (pnew_ok y m hy h3 h4 _).mono ?_); rintro e w2 ⟨P2, p2, B2, G2, rfl, hP, hb⟩; have H2 := Lib.hid hP; have HB2 := Lib.hid hb; clear hP hb))
  go_ret2
  have b1 := HB1.out.size
  have b2 := HB2.out.size
  have a1 := H1.out.pl
  have a2 := H1.out.ar.pl
  have a3 := H1.out.ar.lt.2
  have a4 := (H1.out.row.lt G rfl).2
  have c1 := H2.out.pl
  have c2 := H2.out.ar.pl
  have c3 := H2.out.ar.lt.2
  have c4 := (H2.out.row.lt G2 rfl).2
  refine ⟨_, ⟨w.heap.size, P, p, B, G, n, n⟩, ⟨w1.heap.size, P2, p2, B2, G2, m, m⟩, rfl, ⟨by simp, by simp, by simp, (H1.out.below HB2.out).below ((Below.refl _ _).alloc (Nat.le_refl _) _), H2.out.below ((Below.refl _ _).alloc (Nat.le_refl _) _), b1, by simp only; omega, by simp only; omega⟩, Lib.hid ⟨rfl, rfl, rfl⟩, ?_⟩
  exact (HB1.out.trans (HB2.out.mono b1)).alloc (by omega) _
set_option maxRecDepth 100000 in
theorem slive_is {S : Nat} {a b : Shp} {th : Nat → Bool} {vr_ : Nat → Int} {W : Nat → Nat → Value} {th2 : Nat → Bool} {vr2 : Nat → Int} {W2 : Nat → Nat → Int} (k0 k1 k2 k3 k4 : Int) (t : Bool) (ht : Hid ((if k0 = 2 then (thereB a.n th k1 && (vr_ k1.toNat == k2)) else if k0 = 3 then (thereB b.n th2 k1 && (vr2 k1.toNat == k2)) else false) = t)) (w : World) (h : (StAt w S a b th vr_ W th2 vr2 W2)) :
    Calls Tryz.prog 43 #[.pointer (some ⟨S, 0, none⟩), (Value.agg #[.int .i64 k0, .int .i64 k1, .int .i64 k2, .int .i64 k3, .int .u32 k4])] w fun e w' => e = .returned (.bool t) ∧ Below w.heap.size w w' := by
  have HD := Lib.hid (fun o => h.below ((((Below.refl _ _).alloc (Nat.le_refl _) _ : Below w.heap.size w (w.alloc o))).drew))
  clear h
  by_cases h2 : k0 = 2
  · obtain rfl := h2
    have HT : Hid ((thereB a.n th k1 && (vr_ k1.toNat == k2)) = t) := Lib.hid (by have := ht.out; rwa [if_pos rfl] at this)
    clear ht
    go_enter Tryz.func43, Tryz.ntmps43
    go_wp2_with fail
    go_region_held3 (fun w' => w'.cell? ⟨S, 0, none⟩ = some (.pointer (some ⟨a.P, 0, none⟩)) ∧ w'.cell? ⟨a.P, 0, none⟩ = some (.pointer (some ⟨a.p, 0, none⟩)) ∧ w'.cell? ⟨w.heap.size, 1, none⟩ = some (.int .i64 k1) ∧ w'.cell? ⟨w.heap.size, 2, none⟩ = some (.int .i64 k2)) (first | exact ⟨(HD.out _).s0, (HD.out _).nd.f0, by simp, by simp⟩ | assumption)
      (first | (go_at_call 44; (with_reducible refine (alive_is k1 k2 t HT _ (HD.out _).nd.ar).mono ?_); rintro e w1 ⟨rfl, rfl⟩))
    go_wp2_with fail
    go_ret
    exact ⟨rfl, ((Below.refl _ _).alloc (Nat.le_refl _) _ : Below w.heap.size w _).drew⟩
  · have t2 : (k0 == 2) = false := by simpa using h2
    by_cases h3 : k0 = 3
    · obtain rfl := h3
      have HT : Hid ((thereB b.n th2 k1 && (vr2 k1.toNat == k2)) = t) := Lib.hid (by have := ht.out; rwa [if_neg h2, if_pos rfl] at this)
      clear ht h2 t2
      go_enter Tryz.func43, Tryz.ntmps43
      go_wp2_with fail
      go_region_held3 (fun w' => w'.cell? ⟨S, 1, none⟩ = some (.pointer (some ⟨b.P, 0, none⟩)) ∧ w'.cell? ⟨b.P, 0, none⟩ = some (.pointer (some ⟨b.p, 0, none⟩)) ∧ w'.cell? ⟨w.heap.size, 1, none⟩ = some (.int .i64 k1) ∧ w'.cell? ⟨w.heap.size, 2, none⟩ = some (.int .i64 k2)) (first | exact ⟨(HD.out _).s1, (HD.out _).pg.f0, by simp, by simp⟩ | assumption)
        (first | (go_at_call 44; (with_reducible refine (alive_is k1 k2 t HT _ (HD.out _).pg.ar).mono ?_); rintro e w1 ⟨rfl, rfl⟩))
      go_wp2_with fail
      go_ret
      exact ⟨rfl, ((Below.refl _ _).alloc (Nat.le_refl _) _ : Below w.heap.size w _).drew⟩
    · have t3 : (k0 == 3) = false := by simpa using h3
      have HT : t = false := by have := ht.out; rw [if_neg h2, if_neg h3] at this; exact this.symm
      subst HT
      clear ht
      go_enter Tryz.func43, Tryz.ntmps43
      go_wp2_with fail
      go_ret
      exact ⟨rfl, (Below.refl _ _).alloc (Nat.le_refl _) _⟩
end Go.Proofs.YtllcakiomihipaaGreatDoor
namespace Go.Proofs.YtllcakiomihipaaGreatDoor
open Go.ChangeShapes Go.WideShapes Go.ChangeAt Go.RowKit
set_option linter.unusedVariables false
end Go.Proofs.YtllcakiomihipaaGreatDoor
namespace Go.Proofs.YtllcakiomihipaaGreatDoor
open Go.ChangeShapes Go.WideShapes Go.ChangeAt Go.RowKit
set_option linter.unusedVariables false
/-- Is the object there that a key names? -/
def liveB (a b : Shp) (th : Nat → Bool) (vr_ : Nat → Int) (th2 : Nat → Bool) (vr2 : Nat → Int) (k0 k1 k2 : Int) : Bool := if k0 = 2 then (thereB a.n th k1 && (vr_ k1.toNat == k2)) else if k0 = 3 then (thereB b.n th2 k1 && (vr2 k1.toNat == k2)) else false
theorem slive_at {S : Nat} {a b : Shp} {th : Nat → Bool} {vr_ : Nat → Int} {W : Nat → Nat → Value} {th2 : Nat → Bool} {vr2 : Nat → Int} {W2 : Nat → Nat → Int} (k0 k1 k2 k3 k4 : Int) (t : Bool) (ht : Hid (liveB a b th vr_ th2 vr2 k0 k1 k2 = t)) (w : World) (h : (StAt w S a b th vr_ W th2 vr2 W2)) :
    Calls Tryz.prog 43 #[.pointer (some ⟨S, 0, none⟩), (Value.agg #[.int .i64 k0, .int .i64 k1, .int .i64 k2, .int .i64 k3, .int .u32 k4])] w fun e w' => e = .returned (.bool t) ∧ Below w.heap.size w w' := slive_is k0 k1 k2 k3 k4 t (Lib.hid ht.out) w h
end Go.Proofs.YtllcakiomihipaaGreatDoor
namespace Go.Proofs.YtllcakiomihipaaGreatDoor
open Go.ChangeShapes Go.WideShapes Go.ChangeAt Go.RowKit
set_option linter.unusedVariables false
/-- A store over a law's start. -/
structure SV (W0 w : World) (S : Nat) (a b : Shp) (th : Nat → Bool) (vr_ : Nat → Int) (W : Nat → Nat → Value) (th2 : Nat → Bool) (vr2 : Nat → Int) (W2 : Nat → Nat → Int) : Prop where
  bel : Below W0.heap.size W0 w
  wb : W0.heap.size ≤ a.b
  st : StAt w S a b th vr_ W th2 vr2 W2
section
variable {W0 w w' : World} {S : Nat} {a b : Shp} {th th' : Nat → Bool} {vr_ vr' : Nat → Int} {W W' : Nat → Nat → Value} {th2 th2' : Nat → Bool} {vr2 vr2' : Nat → Int} {W2 W2' : Nat → Nat → Int}
theorem SV.step (h : SV W0 w S a b th vr_ W th2 vr2 W2) (hb : Below w.heap.size w w') : SV W0 w' S a b th vr_ W th2 vr2 W2 := ⟨h.bel.trans (hb.mono h.bel.size), h.wb, h.st.below hb⟩
theorem SV.node (h : SV W0 w S a b th vr_ W th2 vr2 W2) (hN : NdAt w' a.b a.P a.p a.B a.G a.n a.c th' vr' W') (hb : PBelow w w' a.B a.G) : SV W0 w' S a b th' vr' W' th2 vr2 W2 :=
  ⟨h.bel.trans (hb.below (Nat.le_trans h.wb h.st.nd.ar.lt.1) (Nat.le_trans h.wb (h.st.nd.row.lt a.G rfl).1) h.bel.size), h.wb, h.st.node hN hb⟩
theorem SV.page (h : SV W0 w S a b th vr_ W th2 vr2 W2) (hP : PgAt w' b.b b.P b.p b.B b.G b.n b.c th2' vr2' W2') (hb : PBelow w w' b.B b.G) : SV W0 w' S a b th vr_ W th2' vr2' W2' :=
  ⟨h.bel.trans (hb.below (Nat.le_trans h.wb (Nat.le_trans h.st.ab h.st.pg.ar.lt.1)) (Nat.le_trans h.wb (Nat.le_trans h.st.ab (h.st.pg.row.lt b.G rfl).1)) h.bel.size), h.wb, h.st.page hP hb⟩
end
/-- A key in a block of its own. -/
structure KeyB (w : World) (b : Nat) (k0 k1 k2 k3 k4 : Int) : Prop where
  lt : b < w.heap.size
  c0 : w.cell? ⟨b, 0, none⟩ = some (.int .i64 k0)
  c1 : w.cell? ⟨b, 1, none⟩ = some (.int .i64 k1)
  c2 : w.cell? ⟨b, 2, none⟩ = some (.int .i64 k2)
  c3 : w.cell? ⟨b, 3, none⟩ = some (.int .i64 k3)
  c4 : w.cell? ⟨b, 4, none⟩ = some (.int .u32 k4)
theorem KeyB.same {w w' : World} {b : Nat} {k0 k1 k2 k3 k4 : Int} (h : KeyB w b k0 k1 k2 k3 k4) (hs : w.heap.size ≤ w'.heap.size) (hb : w'.heap[b]? = w.heap[b]?) : KeyB w' b k0 k1 k2 k3 k4 :=
  ⟨Nat.lt_of_lt_of_le h.lt hs, (World.cell?_of_block (a := ⟨b, 0, none⟩) hb).trans h.c0, (World.cell?_of_block (a := ⟨b, 1, none⟩) hb).trans h.c1, (World.cell?_of_block (a := ⟨b, 2, none⟩) hb).trans h.c2, (World.cell?_of_block (a := ⟨b, 3, none⟩) hb).trans h.c3, (World.cell?_of_block (a := ⟨b, 4, none⟩) hb).trans h.c4⟩
theorem KeyB.below {w w' : World} {b : Nat} {k0 k1 k2 k3 k4 : Int} (h : KeyB w b k0 k1 k2 k3 k4) (hb : Below w.heap.size w w') : KeyB w' b k0 k1 k2 k3 k4 := h.same hb.size (hb.block b h.lt)
theorem KeyB.made {w w' : World} {b B G : Nat} {k0 k1 k2 k3 k4 : Int} (h : KeyB w b k0 k1 k2 k3 k4) (hb : PBelow w w' B G) (hB : b ≠ B) (hG : b ≠ G) : KeyB w' b k0 k1 k2 k3 k4 := h.same hb.2.2.2.1 (hb.2.2.2.2 b h.lt hB hG)
theorem KeyB.new (w : World) (k0 k1 k2 k3 k4 : Int) (T : TypeId) : KeyB (w.alloc (.cells #[.int .i64 k0, .int .i64 k1, .int .i64 k2, .int .i64 k3, .int .u32 k4] T (0, 0))) w.heap.size k0 k1 k2 k3 k4 := ⟨by simp, by simp, by simp, by simp, by simp, by simp⟩
end Go.Proofs.YtllcakiomihipaaGreatDoor
namespace Go.Proofs.YtllcakiomihipaaGreatDoor
open Go.ChangeShapes Go.WideShapes Go.ChangeAt Go.RowKit
set_option linter.unusedVariables false
/-- How many words a key's memory has; 0: none. -/
def szP (k0 k4 : Int) : Int := if k0 = 3 then 32 else if k0 = 2 ∧ 1 ≤ k4 ∧ k4 ≤ 4 then 32 * 16 ^ k4.toNat else 0
def szB (k0 k4 : Int) : Bool := decide (k0 = 3 ∨ (k0 = 2 ∧ 1 ≤ k4 ∧ k4 ≤ 4))
/-- What enter answers. -/
def entP (s : Int) (t l : Bool) (k0 k4 below addr : Int) : Int × Int := if (t && l) = false then (0, 2) else if k0 = 2 ∧ below ≤ k4 then (0, 5) else if s ≤ addr then (0, 3) else (s, 0)
end Go.Proofs.YtllcakiomihipaaGreatDoor
namespace Go.Proofs.YtllcakiomihipaaGreatDoor
open Go.ChangeShapes Go.WideShapes Go.ChangeAt Go.RowKit
set_option linter.unusedVariables false
/-- A key's cells. -/
structure KeyC (w : World) (b : Nat) (k0 k1 k2 k3 k4 : Int) : Prop where
  lt : b < w.heap.size
  c0 : w.cell? ⟨b, 0, none⟩ = some (.int .i64 k0)
  c1 : w.cell? ⟨b, 1, none⟩ = some (.int .i64 k1)
  c2 : w.cell? ⟨b, 2, none⟩ = some (.int .i64 k2)
  c3 : w.cell? ⟨b, 3, none⟩ = some (.int .i64 k3)
  c4 : w.cell? ⟨b, 4, none⟩ = some (.int .u32 k4)
  fr : ∀ j, w.frozen? ⟨b, j, none⟩ = false
theorem KeyC.below {w w' : World} {b : Nat} {k0 k1 k2 k3 k4 : Int} (h : KeyC w b k0 k1 k2 k3 k4) (hb : Below w.heap.size w w') : KeyC w' b k0 k1 k2 k3 k4 :=
  ⟨Nat.lt_of_lt_of_le h.lt hb.size, (hb.cell (p := ⟨b, 0, none⟩) h.lt).trans h.c0, (hb.cell (p := ⟨b, 1, none⟩) h.lt).trans h.c1, (hb.cell (p := ⟨b, 2, none⟩) h.lt).trans h.c2, (hb.cell (p := ⟨b, 3, none⟩) h.lt).trans h.c3, (hb.cell (p := ⟨b, 4, none⟩) h.lt).trans h.c4, fun j => (hb.frozen (p := ⟨b, j, none⟩) h.lt).trans (h.fr j)⟩
theorem KeyC.new (w : World) (k0 k1 k2 k3 k4 : Int) (T : TypeId) : KeyC (w.alloc (.cells #[.int .i64 k0, .int .i64 k1, .int .i64 k2, .int .i64 k3, .int .u32 k4] T (0, 0))) w.heap.size k0 k1 k2 k3 k4 := ⟨by simp, by simp, by simp, by simp, by simp, by simp, fun j => by simp⟩
theorem KeyC.of {w w' : World} {k0 k1 k2 k3 k4 : Int} {T : TypeId} {o : Obj} (hb : Below ((w.alloc (.cells #[.int .i64 k0, .int .i64 k1, .int .i64 k2, .int .i64 k3, .int .u32 k4] T (0, 0))).alloc o).heap.size ((w.alloc (.cells #[.int .i64 k0, .int .i64 k1, .int .i64 k2, .int .i64 k3, .int .u32 k4] T (0, 0))).alloc o) w') : KeyC w' w.heap.size k0 k1 k2 k3 k4 :=
  (((KeyC.new w k0 k1 k2 k3 k4 T).below ((Below.refl _ _).alloc (Nat.le_refl _) o))).below hb
theorem KeyC.set {w : World} {b : Nat} {y0 y1 y2 y3 y4 : Int} (h : KeyC w b y0 y1 y2 y3 y4) (z0 z1 z2 z3 z4 : Int) :
    KeyC (((((w.setCell ⟨b, 0, none⟩ (.int .i64 z0)).setCell ⟨b, 1, none⟩ (.int .i64 z1)).setCell ⟨b, 2, none⟩ (.int .i64 z2)).setCell ⟨b, 3, none⟩ (.int .i64 z3)).setCell ⟨b, 4, none⟩ (.int .u32 z4)) b z0 z1 z2 z3 z4 := by
  have hs : ∀ j, j < (k5 z0 z1 z2 z3 z4).length → (w.cell? ⟨b, 0 + j, none⟩).isSome = true := by
    intro j hj
    have hj' : j = 0 ∨ j = 1 ∨ j = 2 ∨ j = 3 ∨ j = 4 := by simp [k5] at hj; omega
    rw [Nat.zero_add]
    rcases hj' with rfl | rfl | rfl | rfl | rfl
    · rw [h.c0]; rfl
    · rw [h.c1]; rfl
    · rw [h.c2]; rfl
    · rw [h.c3]; rfl
    · rw [h.c4]; rfl
  have all := World.cell?_setCells_in b (k5 z0 z1 z2 z3 z4) 0 w hs
  have hz : (w.setCells b 0 (k5 z0 z1 z2 z3 z4)).heap.size = w.heap.size := by simp [k5, World.setCells]
  exact ⟨Nat.lt_of_lt_of_le h.lt (Nat.le_of_eq hz.symm), all 0 (by simp [k5]), all 1 (by simp [k5]), all 2 (by simp [k5]), all 3 (by simp [k5]), all 4 (by simp [k5]), fun j => (World.frozen?_setCells b (k5 z0 z1 z2 z3 z4) 0 w ⟨b, j, none⟩).trans (h.fr j)⟩
section
variable {w X Y : World} {S P : Nat} {k1 : Int}
end
end Go.Proofs.YtllcakiomihipaaGreatDoor
namespace Go.Proofs.YtllcakiomihipaaGreatDoor
open Go.ChangeShapes Go.WideShapes Go.ChangeAt Go.RowKit
set_option linter.unusedVariables false
set_option linter.unusedSimpArgs false
/-- What rights make read-only. -/
def roB (k3 : Int) : Bool := bits BinOp.and IntKind.i64 k3 5 != 0
/-- A way: from a key, found below such a height, to a place or a fault, through nodes. -/
inductive Way (a b : Shp) (th : Nat → Bool) (vr_ : Nat → Int) (W : Nat → Nat → Value) (th2 : Nat → Bool) (vr2 : Nat → Int) : Int → Int → Int → Int → Int → Int → Int → Bool → List Int → Int → Int → Bool → Int → Prop
  | fault {k0 k1 k2 k3 k4 below addr : Int} {ro : Bool} (s : Int) (t l : Bool) (f : Int) (h0 : 0 ≤ k4) (hs : szP k0 k4 = s ∧ szB k0 k4 = t) (hl : liveB a b th vr_ th2 vr2 k0 k1 k2 = l) (hz : entP s t l k0 k4 below addr = (0, f)) (hf : (f != 0) = true) : Way a b th vr_ W th2 vr2 k0 k1 k2 k3 k4 below addr ro [] 0 0 false f
  | page {k1 k2 k3 k4 below addr : Int} {ro : Bool} (h0 : 0 ≤ k4) (a0 : 0 ≤ addr) (hl : liveB a b th vr_ th2 vr2 3 k1 k2 = true) (ha : addr < 32) : Way a b th vr_ W th2 vr2 3 k1 k2 k3 k4 below addr ro [] k1 addr (ro || roB k3) 0
  | node {k1 k2 k3 k4 below addr : Int} {ro : Bool} {ids : List Int} {pg at_ : Int} {r : Bool} {f : Int} (h i q r' p ad : Nat) (y0 y1 y2 y3 y4 : Int) (hk : k4 = h) (hp : p = 2 * 16 ^ h) (ha : addr = ad) (had : ad = q * p + r') (h1 : 1 ≤ h) (h4 : h ≤ 4) (hl : liveB a b th vr_ th2 vr2 2 k1 k2 = true) (hd : (h : Int) < below) (hi : k1 = i) (hn : i < a.n) (ht : th i = true) (hq : q < 16) (hr : r' < p) (hy : KAt (W i) q y0 y1 y2 y3 y4) (next : Way a b th vr_ W th2 vr2 y0 y1 y2 y3 y4 h r' (ro || roB k3) ids pg at_ r f) : Way a b th vr_ W th2 vr2 2 k1 k2 k3 k4 below addr ro (k1 :: ids) pg at_ r f
/-- A place's cells. -/
structure PlC (w : World) (b : Nat) (x y : Int) (r : Bool) : Prop where
  lt : b < w.heap.size
  c0 : w.cell? ⟨b, 0, none⟩ = some (.int .i64 x)
  c1 : w.cell? ⟨b, 1, none⟩ = some (.int .i64 y)
  c2 : w.cell? ⟨b, 2, none⟩ = some (.bool r)
  fr : ∀ j, w.frozen? ⟨b, j, none⟩ = false
theorem PlC.below {w w' : World} {b : Nat} {x y : Int} {r : Bool} (h : PlC w b x y r) (hb : Below w.heap.size w w') : PlC w' b x y r :=
  ⟨Nat.lt_of_lt_of_le h.lt hb.size, (hb.cell (p := ⟨b, 0, none⟩) h.lt).trans h.c0, (hb.cell (p := ⟨b, 1, none⟩) h.lt).trans h.c1, (hb.cell (p := ⟨b, 2, none⟩) h.lt).trans h.c2, fun j => (hb.frozen (p := ⟨b, j, none⟩) h.lt).trans (h.fr j)⟩
theorem PlC.new (w : World) (x y : Int) (r : Bool) (T : TypeId) : PlC (w.alloc (.cells #[.int .i64 x, .int .i64 y, .bool r] T (0, 0))) w.heap.size x y r := ⟨by simp, by simp, by simp, by simp, fun j => by simp⟩
theorem PlC.set {w : World} {b : Nat} {x y : Int} {r : Bool} (h : PlC w b x y r) (x' y' : Int) (r' : Bool) : PlC (((w.setCell ⟨b, 0, none⟩ (.int .i64 x')).setCell ⟨b, 1, none⟩ (.int .i64 y')).setCell ⟨b, 2, none⟩ (.bool r')) b x' y' r' := by
  have hs : ∀ j, j < [Value.int .i64 x', .int .i64 y', .bool r'].length → (w.cell? ⟨b, 0 + j, none⟩).isSome = true := by
    intro j hj
    have hj' : j = 0 ∨ j = 1 ∨ j = 2 := by simp at hj; omega
    rw [Nat.zero_add]
    rcases hj' with rfl | rfl | rfl
    · rw [h.c0]; rfl
    · rw [h.c1]; rfl
    · rw [h.c2]; rfl
  have all := World.cell?_setCells_in b [Value.int .i64 x', .int .i64 y', .bool r'] 0 w hs
  have hz : (w.setCells b 0 [Value.int .i64 x', .int .i64 y', .bool r']).heap.size = w.heap.size := by simp [World.setCells]
  exact ⟨Nat.lt_of_lt_of_le h.lt (Nat.le_of_eq hz.symm), all 0 (by simp), all 1 (by simp), all 2 (by simp), fun j => (World.frozen?_setCells b [Value.int .i64 x', .int .i64 y', .bool r'] 0 w ⟨b, j, none⟩).trans (h.fr j)⟩
end Go.Proofs.YtllcakiomihipaaGreatDoor
