/-
  Open, ArMath, Ar, Laid, Errs, See, Ar2, Ar3, Ar4, ArN, ArV, ArL, ArLw, Sen, Pg, Pg2, Structs, Nd, Keyval, Key, KeyPage, KeyValid, KeyShape, KeyWays, KeyAny, Nd2, Nd3, NdF, NdB, Nd4, NdK, Mt, Mt2, MtC, NdA, PgF, Pg3, PgA, Ar5, ArP, Pg4, Reads, PgP, ValidA, ValidB, ValidC, ValidD: what NodePlays reaches of them.
-/
import Derived.Test.YtdcdfaeokbdalaaDoorRows
import Derived.WalkKit
import Derived.ProofKit
import Derived.OpenShut
import Derived.Deep.Slices
import Derived.Deep.Fields
import Derived.ChangeSame
import Derived.Lib.SmallJoins
import Derived.Lib.LaidTab
import Derived.Lib.Hide
import Derived.Stop.LaidErr
import Derived.LaidMore
import Derived.Laws.OwnMore
import Derived.Outline
import Derived.Deep.RegionWith
import Derived.Deep.RegionHeld3
import Derived.Deep.QuietTactic
import Derived.BigQuiet
import Derived.WalkLawsBesides
import Derived.WalkSpells
import Derived.LaidEql
import Derived.Below
import Derived.Deep.DrawnRows
import Derived.OwnWalk
import Derived.Deep.DeepCutAuto
import Derived.Deep.Cut
import Derived.Lib.SliceRun
import Derived.Laws.IdiomCopy
import Derived.OneCell
import Derived.Laws.CopyOwn
import Derived.Laws.BitsAllLaws
import Derived.WalkSmall
import Derived.Maps.AppendAt
import Derived.StillTailTactics
import Derived.Deep.CutBlock
import Derived.Deep.MidRow
namespace Go.Proofs.YtdcdfaeokbdalaaDoor
open Go.Joins Go.ChangeShapes Go.WideShapes Go.ChangeAt Go.RowKit Go.Deep
set_option linter.unusedVariables false

/-- A slice of integers that came in: nil, or 'cap' cells, the first 'len' its elements. -/
def IsRow (k : IntKind) (w : World) (a : Option Addr) (len cap : Nat) (zs : List Int) : Prop :=
  (a = none ∧ len = 0 ∧ cap = 0 ∧ zs = []) ∨
  ∃ x, a = some x ∧ len ≤ cap ∧ cap ≤ maxLen ∧ zs.length = cap ∧ (∀ i, i < zs.length → w.cell? (x.add i) = some (.int k (zs.getD i 0))) ∧ ∀ n ∈ zs, (Lit.int k n).wf = true

section
variable {H : Type} {enc : TypeId × Value → H} {P : Program} {w : World} {base : Nat} {spare : Nat → Bool} {held : Bool}
end

end Go.Proofs.YtdcdfaeokbdalaaDoor
namespace Go.Proofs.YtdcdfaeokbdalaaDoor
open Go.ChangeShapes Go.WideShapes Go.ChangeAt Go.RowKit
set_option linter.unusedVariables false
/-- The cells of n places. -/
def plc (th : Nat → Bool) (vr : Nat → Int) : Nat → List Value
  | 0 => []
  | n + 1 => plc th vr n ++ [.bool (th n), .int .i64 (vr n)]
theorem plc_len (th : Nat → Bool) (vr : Nat → Int) (n : Nat) : (plc th vr n).length = n * 2 := by
  induction n with
  | zero => rfl
  | succ n ih => simp [plc, ih]; omega
theorem plc_at0 (th : Nat → Bool) (vr : Nat → Int) (n i : Nat) (hi : i < n) : (plc th vr n)[i * 2]? = some (.bool (th i)) := by
  induction n with
  | zero => omega
  | succ n ih =>
    unfold plc
    by_cases h : i = n
    · subst h
      rw [List.getElem?_append_right (by rw [plc_len]; omega), plc_len]
      simp
    · rw [List.getElem?_append_left (by rw [plc_len]; omega)]
      exact ih (by omega)
theorem plc_at1 (th : Nat → Bool) (vr : Nat → Int) (n i : Nat) (hi : i < n) : (plc th vr n)[i * 2 + 1]? = some (.int .i64 (vr i)) := by
  induction n with
  | zero => omega
  | succ n ih =>
    unfold plc
    by_cases h : i = n
    · subst h
      rw [List.getElem?_append_right (by rw [plc_len]; omega), plc_len]
      simp
    · rw [List.getElem?_append_left (by rw [plc_len]; omega)]
      exact ih (by omega)
/-- One value of a function, another. -/
def upd {α : Type} (f : Nat → α) (i : Nat) (x : α) : Nat → α := fun j => if j = i then x else f j
theorem upd_at {α : Type} (f : Nat → α) (i : Nat) (x : α) : upd f i x i = x := by simp [upd]
theorem upd_other {α : Type} (f : Nat → α) (i j : Nat) (x : α) (h : j ≠ i) : upd f i x j = f j := by simp [upd, h]
theorem plc_congr {th th' : Nat → Bool} {vr vr' : Nat → Int} (n : Nat) (h1 : ∀ i, i < n → th i = th' i) (h2 : ∀ i, i < n → vr i = vr' i) : plc th vr n = plc th' vr' n := by
  induction n with
  | zero => rfl
  | succ n ih =>
    unfold plc
    rw [ih (fun i hi => h1 i (by omega)) (fun i hi => h2 i (by omega)), h1 n (by omega), h2 n (by omega)]
theorem plc_set0 (th : Nat → Bool) (vr : Nat → Int) (n i : Nat) (hi : i < n) (b : Bool) : (plc th vr n).set (i * 2) (.bool b) = plc (upd th i b) vr n := by
  induction n with
  | zero => omega
  | succ n ih =>
    unfold plc
    by_cases h : i = n
    · subst h
      rw [List.set_append_right _ _ (by rw [plc_len]; omega), plc_len, upd_at]
      rw [plc_congr (th := upd th i b) (th' := th) (vr' := vr) i (fun j hj => upd_other _ _ _ _ (by omega)) (fun _ _ => rfl)]
      simp
    · rw [List.set_append_left _ _ (by rw [plc_len]; omega), ih (by omega), upd_other _ _ _ _ (by omega)]
theorem plc_set1 (th : Nat → Bool) (vr : Nat → Int) (n i : Nat) (hi : i < n) (v : Int) : (plc th vr n).set (i * 2 + 1) (.int .i64 v) = plc th (upd vr i v) n := by
  induction n with
  | zero => omega
  | succ n ih =>
    unfold plc
    by_cases h : i = n
    · subst h
      rw [List.set_append_right _ _ (by rw [plc_len]; omega), plc_len, upd_at]
      rw [plc_congr (vr := upd vr i v) (vr' := vr) (th' := th) i (fun _ _ => rfl) (fun j hj => upd_other _ _ _ _ (by omega))]
      rw [show i * 2 + 1 - i * 2 = 1 by omega]
      rfl
    · rw [List.set_append_left _ _ (by rw [plc_len]; omega), ih (by omega), upd_other _ _ _ _ (by omega)]
/-- How many of n places a test holds of. -/
def cntB (P : Nat → Bool) : Nat → Nat
  | 0 => 0
  | n + 1 => cntB P n + (if P n = true then 1 else 0)
/-- May a place be taken? -/
def freeB (th : Nat → Bool) (vr : Nat → Int) (i : Nat) : Bool := !th i && decide (vr i ≤ 1048575)
/-- The first place at which a test holds, if any. -/
theorem first_at (P : Nat → Bool) : ∀ n, (∀ i, i < n → P i = false) ∨ ∃ j, j < n ∧ P j = true ∧ ∀ i, i < j → P i = false
  | 0 => .inl fun i hi => absurd hi (by omega)
  | n + 1 => by
    rcases first_at P n with h | ⟨j, hj, h1, h2⟩
    · cases hn : P n
      · refine .inl fun i hi => ?_
        by_cases e : i = n
        · rw [e]; exact hn
        · exact h i (by omega)
      · exact .inr ⟨n, by omega, hn, h⟩
    · exact .inr ⟨j, by omega, h1, h2⟩
/-- Places just made: nobody there, version 0. -/
theorem plc_made (n : Nat) : (madeCells #[Value.bool false, Value.int .i64 0] (n * 2)).toList = plc (fun _ => false) (fun _ => 0) n := by
  apply List.ext_getElem?
  intro j
  by_cases hj : j < n * 2
  · have e : (madeCells #[Value.bool false, Value.int .i64 0] (n * 2)).toList[j]? = some ((#[Value.bool false, Value.int .i64 0] : Array Value)[j % 2]!) := by
      simp [madeCells, hj]
    rw [e]
    obtain ⟨i, hi⟩ : ∃ i, j = i * 2 ∨ j = i * 2 + 1 := ⟨j / 2, by omega⟩
    rcases hi with rfl | rfl
    · rw [plc_at0 _ _ n i (by omega), show i * 2 % 2 = 0 by omega]
      rfl
    · rw [plc_at1 _ _ n i (by omega), show (i * 2 + 1) % 2 = 1 by omega]
      rfl
  · rw [List.getElem?_eq_none (by simp [size_madeCells]; omega), List.getElem?_eq_none (by rw [plc_len]; omega)]
end Go.Proofs.YtdcdfaeokbdalaaDoor
namespace Go.Proofs.YtdcdfaeokbdalaaDoor
open Go.ChangeShapes Go.WideShapes Go.ChangeAt Go.RowKit
set_option linter.unusedVariables false
theorem own_below {w w' : World} {B E s n : Nat} {v : Value} {xs : List Value} (h : w.ownsRow B E s v n xs) (hb : Below w.heap.size w w') : w'.ownsRow B E s v n xs := by
  refine ⟨h.1, ?_⟩
  rcases h.2 with hn | ⟨g, cap, cur, rfl, hB, hg, rest⟩
  · exact .inl hn
  · refine .inr ⟨g, cap, cur, rfl, hB, ?_, rest⟩
    rw [hb.block g ?_]
    · exact hg
    · rcases Nat.lt_or_ge g w.heap.size with h' | h'
      · exact h'
      · simp [Array.getElem?_eq_none h'] at hg
/-- An arena lies at block p, its n places at block B: whether somebody is there, and the versions. -/
structure ArAt (w : World) (base p B n c : Nat) (th : Nat → Bool) (vr : Nat → Int) : Prop where
  pl : p < w.heap.size
  pb : base ≤ p
  fld : w.cell? ⟨p, 0, none⟩ = some (.slice (some ⟨B, 0, none⟩) n c)
  own : w.ownsRow base 196 2 (.slice (some ⟨B, 0, none⟩) n c) n (plc th vr n)
  ne : p ≠ B
  le : n ≤ 256
section
variable {w w' : World} {base p B n c : Nat} {th : Nat → Bool} {vr : Nat → Int}
theorem ArAt.below (h : ArAt w base p B n c th vr) (hb : Below w.heap.size w w') : ArAt w' base p B n c th vr :=
  ⟨Nat.lt_of_lt_of_le h.pl hb.size, h.pb, (hb.cell (p := ⟨p, 0, none⟩) h.pl).trans h.fld, own_below h.own hb, h.ne, h.le⟩
theorem ArAt.at0 (h : ArAt w base p B n c th vr) (i : Nat) (hi : i < n) : w.cell? ⟨B, i * 2, none⟩ = some (.bool (th i)) := by
  rw [h.own.cellAt (i * 2) (by omega), plc_at0 th vr n i hi]
theorem ArAt.at1 (h : ArAt w base p B n c th vr) (i : Nat) (hi : i < n) : w.cell? ⟨B, i * 2 + 1, none⟩ = some (.int .i64 (vr i)) := by
  rw [h.own.cellAt (i * 2 + 1) (by omega), plc_at1 th vr n i hi]
theorem ArAt.lt (h : ArAt w base p B n c th vr) : base ≤ B ∧ B < w.heap.size := h.own.lt B rfl
end
theorem ahas_is {base p B n c : Nat} {th : Nat → Bool} {vr : Nat → Int} (id : Int) (t : Bool) (ht : Hid (decide (0 ≤ id ∧ id < n) = t)) (w : World) (hA : ArAt w base p B n c th vr) : Calls Tryd.prog 109 #[.pointer (some ⟨p, 0, none⟩), .int .i64 id] w fun e w' => e = .returned (.bool t) ∧ w = w' := by
  have hf := hA.fld
  have ht := ht.out
  clear hA
  cases t
  · rw [decide_eq_false_iff_not] at ht
    by_cases h0 : 0 ≤ id
    · have d0 : decide (0 ≤ id) = true := decide_eq_true h0
      have d1 : decide (id < (n : Int)) = false := by rw [decide_eq_false_iff_not]; omega
      clear ht h0
      go_enter Tryd.func109, Tryd.ntmps109
      go_wp2
      go_ret
      exact ⟨rfl, rfl⟩
    · have d0 : decide (0 ≤ id) = false := decide_eq_false h0
      clear ht h0
      go_enter Tryd.func109, Tryd.ntmps109
      go_wp2
      go_ret
      exact ⟨rfl, rfl⟩
  · rw [decide_eq_true_iff] at ht
    have d0 : decide (0 ≤ id) = true := decide_eq_true ht.1
    have d1 : decide (id < (n : Int)) = true := decide_eq_true ht.2
    clear ht
    go_enter Tryd.func109, Tryd.ntmps109
    go_wp2
    go_ret
    exact ⟨rfl, rfl⟩
/-- Is somebody there? -/
def thereB (n : Nat) (th : Nat → Bool) (id : Int) : Bool := decide (0 ≤ id ∧ id < n) && th id.toNat
theorem athere_in {base p B n c : Nat} {th : Nat → Bool} {vr : Nat → Int} (k : Nat) (hk : k < n) (t : Bool) (ht : Hid (th k = t)) (w : World) (hA : ArAt w base p B n c th vr) : Calls Tryd.prog 54 #[.pointer (some ⟨p, 0, none⟩), .int .i64 k] w fun e w' => e = .returned (.bool t) ∧ w = w' := by
  have hf := hA.fld
  have h0 := hA.at0 k hk
  rw [ht.out] at h0
  have HA := Lib.hid hA
  have hn := hA.le
  have HK : Hid (decide (0 ≤ (k : Int) ∧ (k : Int) < n) = true) := Lib.hid (decide_eq_true (by omega))
  have k0 : (0 : Int) ≤ k := by omega
  have k1 : (k : Int) < n := by omega
  clear hA ht
  go_enter Tryd.func54, Tryd.ntmps54
  go_wp2_with (first | (go_at_call 109; (with_reducible refine (ahas_is _ true HK _ HA.out).mono ?_); rintro e w1 ⟨rfl, rfl⟩))
  go_ret
  exact ⟨rfl, rfl⟩
theorem athere_out {base p B n c : Nat} {th : Nat → Bool} {vr : Nat → Int} (id : Int) (hid : ¬ (0 ≤ id ∧ id < n)) (w : World) (hA : ArAt w base p B n c th vr) : Calls Tryd.prog 54 #[.pointer (some ⟨p, 0, none⟩), .int .i64 id] w fun e w' => e = .returned (.bool false) ∧ w = w' := by
  have HA := Lib.hid hA
  have HK : Hid (decide (0 ≤ id ∧ id < n) = false) := Lib.hid (decide_eq_false hid)
  clear hA hid
  go_enter Tryd.func54, Tryd.ntmps54
  go_wp2_with (first | (go_at_call 109; (with_reducible refine (ahas_is _ false HK _ HA.out).mono ?_); rintro e w1 ⟨rfl, rfl⟩))
  go_ret
  exact ⟨rfl, rfl⟩
theorem athere_is {base p B n c : Nat} {th : Nat → Bool} {vr : Nat → Int} (id : Int) (t : Bool) (ht : Hid (thereB n th id = t)) (w : World) (hA : ArAt w base p B n c th vr) : Calls Tryd.prog 54 #[.pointer (some ⟨p, 0, none⟩), .int .i64 id] w fun e w' => e = .returned (.bool t) ∧ w = w' := by
  have ht := ht.out
  unfold thereB at ht
  by_cases h : 0 ≤ id ∧ id < n
  · obtain ⟨k, rfl⟩ : ∃ k : Nat, id = k := ⟨id.toNat, by omega⟩
    rw [decide_eq_true h, Bool.true_and, Int.toNat_natCast] at ht
    exact athere_in k (by omega) t (Lib.hid ht) w hA
  · rw [decide_eq_false h, Bool.false_and] at ht
    subst ht
    exact athere_out id h w hA
theorem afree_is (t : Bool) (v : Int) (r : Bool) (hr : Hid ((!t && decide (v ≤ 1048575)) = r)) (w : World) : Calls Tryd.prog 127 #[.agg #[.bool t, .int .i64 v]] w fun e w' => e = .returned (.bool r) ∧ Below w.heap.size w w' := by
  have hr := hr.out
  cases t
  · cases r
    · have d : decide (v ≤ 1048575) = false := by simpa using hr
      clear hr
      go_enter Tryd.func127, Tryd.ntmps127
      go_wp2
      go_ret
      exact ⟨rfl, (Below.refl _ _).alloc (Nat.le_refl _) _⟩
    · have d : decide (v ≤ 1048575) = true := by simpa using hr
      clear hr
      go_enter Tryd.func127, Tryd.ntmps127
      go_wp2
      go_ret
      exact ⟨rfl, (Below.refl _ _).alloc (Nat.le_refl _) _⟩
  · obtain rfl : r = false := by simpa using hr.symm
    clear hr
    go_enter Tryd.func127, Tryd.ntmps127
    go_wp2
    go_ret
    exact ⟨rfl, (Below.refl _ _).alloc (Nat.le_refl _) _⟩
end Go.Proofs.YtdcdfaeokbdalaaDoor
namespace Go.Proofs.YtdcdfaeokbdalaaDoor
open Go.ChangeShapes Go.WideShapes Go.ChangeAt Go.RowKit
set_option linter.unusedVariables false

section
variable {P : Program} {W : World}
theorem laid_one : ∀ {l : List (String × DataW Unit)} {ps : List MemPlace} {x : String × DataW Unit}, DataW.LaidVars P W l ps → x ∈ l → ∃ q, DataW.LaidVars P W [x] q ∧ q.Sublist ps := by
  intro l
  induction l with
  | nil => intro ps x _ hx; cases hx
  | cons y r ih =>
    intro ps x h hx
    obtain ⟨n, d⟩ := y
    obtain ⟨g, t, cs, fuel, p, q, hg, ht, hv, hd, hq, rfl⟩ := h
    rcases List.mem_cons.1 hx with rfl | hx
    · exact ⟨_, ⟨g, t, cs, fuel, p, [], hg, ht, hv, hd, rfl, rfl⟩, by rw [List.append_nil]; exact List.sublist_append_left _ _⟩
    · obtain ⟨q', hq', hs⟩ := ih hq hx
      exact ⟨q', hq', hs.trans (List.sublist_append_right _ _)⟩
theorem laid_pair : ∀ {l : List (String × DataW Unit)} {ps : List MemPlace} {x y : String × DataW Unit}, DataW.LaidVars P W l ps → x ∈ l → y ∈ l → x ≠ y →
    ∃ q q', DataW.LaidVars P W [x] q ∧ DataW.LaidVars P W [y] q' ∧ ((q ++ q').Sublist ps ∨ (q' ++ q).Sublist ps) := by
  intro l
  induction l with
  | nil => intro ps x y _ hx; cases hx
  | cons z r ih =>
    intro ps x y h hx hy hne
    obtain ⟨n, d⟩ := z
    obtain ⟨g, t, cs, fuel, p, q, hg, ht, hv, hd, hq, rfl⟩ := h
    rcases List.mem_cons.1 hx with rfl | hx
    · rcases List.mem_cons.1 hy with rfl | hy
      · exact absurd rfl hne
      · obtain ⟨q', hq', hs⟩ := laid_one hq hy
        refine ⟨_, q', ⟨g, t, cs, fuel, p, [], hg, ht, hv, hd, rfl, rfl⟩, hq', .inl ?_⟩
        rw [List.append_nil]
        exact List.Sublist.append (List.Sublist.refl _) hs
    · rcases List.mem_cons.1 hy with rfl | hy
      · obtain ⟨q', hq', hs⟩ := laid_one hq hx
        refine ⟨q', _, hq', ⟨g, t, cs, fuel, p, [], hg, ht, hv, hd, rfl, rfl⟩, .inr ?_⟩
        rw [List.append_nil]
        exact List.Sublist.append (List.Sublist.refl _) hs
      · obtain ⟨q1, q2, h1, h2, hs⟩ := ih hq hx hy hne
        exact ⟨q1, q2, h1, h2, hs.imp (fun k => k.trans (List.sublist_append_right _ _)) (fun k => k.trans (List.sublist_append_right _ _))⟩
/-- The address that a variable's cell holds, if it holds an error that is a pointer. -/
def atErr (W : World) (g : Nat) : Addr := match W.cell? ⟨g, 0, none⟩ with
  | some (.iface _ (.pointer (some a))) => a
  | _ => ⟨0, 0, none⟩

theorem laid_err {n nm : String} {text : List UInt8} {ps : List MemPlace} {g : Nat} {ti tp te ts : TypeId} {ms : Array (String × TypeId)} {f : Field}
    (h : DataW.LaidVars P W [(n, .iface nm (.ptr (.agg [.lit (.string text)])))] ps)
    (hrows : ∀ b off, MemPlace.cell b off ∈ ps → (∃ c t, W.heap[b]? = some (.cells c t (0, 0))) ∧ ∀ u v, W.cell? ⟨b, off, none⟩ = some (.iface u v) → Value.okWide P W .any 0 u v)
    (hg : P.globalNamed n = some g) (ht : (P.globals[g]?).map (·.type) = some ti) (hi : P.underlying ti = some (.interface ms)) (hrow : ∀ u, P.typeName? 3 u = some nm → u = tp)
    (hp : P.underlying tp = some (.pointer te)) (he : P.underlying te = some (.struct #[f])) (hft : f.type = ts) (hfo : f.offset = 0) (hs : P.underlying ts = some .string) (hc : P.cellsOf te = 1) (hcs : P.cellsOf ts = 1) :
    W.cell? ⟨g, 0, none⟩ = some (.iface tp (.pointer (some (atErr W g)))) ∧ g < W.heap.size ∧ (∃ c t, W.heap[(atErr W g).block]? = some (.cells c t (0, 0))) ∧ MemPlace.row (atErr W g) 1 ⊆ ps := by
  obtain ⟨g0, t0, cs0, f0, p0, q0, hg0, ht0, hv0, hd0, hq0, e0⟩ := h
  obtain rfl := Option.some.inj (hg.symm.trans hg0)
  obtain rfl := Option.some.inj (ht.symm.trans ht0)
  have hq0' : q0 = [] := hq0
  subst hq0'
  subst e0
  obtain ⟨l0⟩ := cs0
  have ok0 : ∀ u v, l0 = [.iface u v] → Value.okWide P W .any 0 u v := fun u v e => by
    subst e
    exact (hrows g 0 (by simp [MemPlace.row])).2 u v (by simpa using World.var?_cell hg0 hv0 0)
  obtain ⟨a0, s0, rfl, hc0, hs0, hz0, rfl⟩ := errorString_of_trod hi hrow hp he hft hfo hs hc hcs hd0 ok0
  have hcell : W.cell? ⟨g, 0, none⟩ = some (.iface tp (.pointer (some a0))) := by simpa using World.var?_cell hg0 hv0 0
  have ha : atErr W g = a0 := by simp [atErr, hcell]
  rw [ha]
  refine ⟨hcell, ?_, (hrows a0.block a0.off (by simp [MemPlace.row])).1, by intro z hz; simp; exact Or.inr hz⟩
  rcases Nat.lt_or_ge g W.heap.size with h' | h'
  · exact h'
  · simp [World.cell?, Array.getElem?_eq_none h'] at hcell

/-- The sentinels whose variables are gs lie there: unlike pointers, each to a block without a mark. -/
def Errs (tp : TypeId) (gs : List Nat) (A : Nat → Addr) (w : World) : Prop :=
  (∀ g ∈ gs, w.cell? ⟨g, 0, none⟩ = some (.iface tp (.pointer (some (A g)))) ∧ g < w.heap.size ∧ ∃ c t, w.heap[(A g).block]? = some (.cells c t (0, 0))) ∧ ∀ g ∈ gs, ∀ h ∈ gs, g ≠ h → A g ≠ A h

theorem errs_of_laid {l : List (String × DataW Unit)} {gs : List Nat} {nm : String} {ti tp te ts : TypeId} {ms : Array (String × TypeId)} {f : Field} (h : laidMet P l W)
    (hgs : ∀ g ∈ gs, ∃ n text, (n, DataW.iface nm (.ptr (.agg [.lit (.string text)]))) ∈ l ∧ P.globalNamed n = some g ∧ (P.globals[g]?).map (·.type) = some ti)
    (hi : P.underlying ti = some (.interface ms)) (hrow : ∀ u, P.typeName? 3 u = some nm → u = tp)
    (hp : P.underlying tp = some (.pointer te)) (he : P.underlying te = some (.struct #[f])) (hft : f.type = ts) (hfo : f.offset = 0) (hs : P.underlying ts = some .string) (hc : P.cellsOf te = 1) (hcs : P.cellsOf ts = 1) :
    Errs tp gs (atErr W) W := by
  obtain ⟨ps, hv, hn, hr⟩ := h
  refine ⟨fun g hg => ?_, fun g hg k hk hne => ?_⟩
  · obtain ⟨n, text, hm, e1, e2⟩ := hgs g hg
    obtain ⟨q, hq, hsub⟩ := laid_one hv hm
    obtain ⟨h1, h2, h3, _⟩ := laid_err hq (fun b off hm => hr b off (hsub.subset hm)) e1 e2 hi hrow hp he hft hfo hs hc hcs
    exact ⟨h1, h2, h3⟩
  · obtain ⟨n, text, hm, e1, e2⟩ := hgs g hg
    obtain ⟨n', text', hm', e1', e2'⟩ := hgs k hk
    have hxy : ((n, DataW.iface nm (.ptr (.agg [.lit (.string text)]))) : String × DataW Unit) ≠ (n', DataW.iface nm (.ptr (.agg [.lit (.string text')]))) := by
      intro e
      have en : n = n' := congrArg Prod.fst e
      subst en
      rw [e1] at e1'
      exact hne (Option.some.inj e1')
    obtain ⟨q, q', hq, hq', hor⟩ := laid_pair hv hm hm' hxy
    have hd : ∀ z, z ∈ q → z ∈ q' → False := by
      intro z hz hz'
      rcases hor with ho | ho
      · exact (List.nodup_append.1 (hn.sublist ho)).2.2 z hz z hz' rfl
      · exact (List.nodup_append.1 (hn.sublist ho)).2.2 z hz' z hz rfl
    have hsub : q ⊆ ps := by rcases hor with ho | ho <;> intro z hz <;> exact ho.subset (by simp [hz])
    have hsub' : q' ⊆ ps := by rcases hor with ho | ho <;> intro z hz <;> exact ho.subset (by simp [hz])
    obtain ⟨_, _, _, h4⟩ := laid_err hq (fun b off hm => hr b off (hsub hm)) e1 e2 hi hrow hp he hft hfo hs hc hcs
    obtain ⟨_, _, _, h4'⟩ := laid_err hq' (fun b off hm => hr b off (hsub' hm)) e1' e2' hi hrow hp he hft hfo hs hc hcs
    intro e
    rw [← e] at h4'
    exact hd (MemPlace.cell (atErr W g).block (atErr W g).off) (h4 (by simp [MemPlace.row])) (h4' (by simp [MemPlace.row]))

theorem Errs.below {tp : TypeId} {gs : List Nat} {A : Nat → Addr} {w w' : World} (h : Errs tp gs A w) (hb : Below w.heap.size w w') : Errs tp gs A w' := by
  refine ⟨fun g hg => ?_, h.2⟩
  obtain ⟨h1, h2, c, t, h3⟩ := h.1 g hg
  refine ⟨(hb.cell (p := ⟨g, 0, none⟩) h2).trans h1, Nat.lt_of_lt_of_le h2 hb.size, c, t, ?_⟩
  rw [hb.block _ ?_]
  · exact h3
  · rcases Nat.lt_or_ge (A g).block w.heap.size with h' | h'
    · exact h'
    · simp [Array.getElem?_eq_none h'] at h3
/-- Only the error's variables matter, and the blocks that they lead to: whatever keeps those keeps this. -/
theorem Errs.kept {tp : TypeId} {gs : List Nat} {A : Nat → Addr} {w w' : World} (h : Errs tp gs A w) (hz : w.heap.size ≤ w'.heap.size) (hk : ∀ g ∈ gs, w'.cell? ⟨g, 0, none⟩ = w.cell? ⟨g, 0, none⟩ ∧ w'.heap[(A g).block]? = w.heap[(A g).block]?) : Errs tp gs A w' := by
  refine ⟨fun g hg => ?_, h.2⟩
  obtain ⟨h1, h2, c, t, h3⟩ := h.1 g hg
  exact ⟨(hk g hg).1.trans h1, Nat.lt_of_lt_of_le h2 hz, c, t, (hk g hg).2.trans h3⟩
end
end Go.Proofs.YtdcdfaeokbdalaaDoor
namespace Go.Proofs.YtdcdfaeokbdalaaDoor
open Go.ChangeShapes Go.WideShapes Go.ChangeAt Go.RowKit
set_option linter.unusedVariables false
theorem errStar : "*" ++ "errors.errorString" = "*errors.errorString" := by decide
theorem errRow (u : TypeId) (h : Tryd.prog.typeName? 3 u = some "*errors.errorString") : u = 245 :=
  typeName_ptr_named (nm := "errors.errorString") (by rw [errStar]; kernel_rfl) (by kernel_rfl) (by decide) u (by rw [errStar]; exact h)
theorem errCells : Tryd.prog.cellsOf 266 = 1 := by kernel_rfl
theorem strCells : Tryd.prog.cellsOf 9 = 1 := by kernel_rfl
theorem gErrEnd : Tryd.prog.globalNamed "turnkey/api.ErrEnd" = some 7 := by kernel_rfl
theorem tErrEnd : (Tryd.prog.globals[7]?).map (·.type) = some 27 := by kernel_rfl
theorem gErrShape : Tryd.prog.globalNamed "turnkey/api.ErrShape" = some 5 := by kernel_rfl
theorem tErrShape : (Tryd.prog.globals[5]?).map (·.type) = some 27 := by kernel_rfl
theorem gErrRange : Tryd.prog.globalNamed "turnkey/api.ErrRange" = some 1 := by kernel_rfl
theorem tErrRange : (Tryd.prog.globals[1]?).map (·.type) = some 27 := by kernel_rfl
theorem gErrMany : Tryd.prog.globalNamed "turnkey/api.ErrMany" = some 2 := by kernel_rfl
theorem tErrMany : (Tryd.prog.globals[2]?).map (·.type) = some 27 := by kernel_rfl
theorem gErrNone : Tryd.prog.globalNamed "turnkey/api.ErrNone" = some 0 := by kernel_rfl
theorem tErrNone : (Tryd.prog.globals[0]?).map (·.type) = some 27 := by kernel_rfl
theorem gErrFull : Tryd.prog.globalNamed "turnkey/api.ErrFull" = some 3 := by kernel_rfl
theorem tErrFull : (Tryd.prog.globals[3]?).map (·.type) = some 27 := by kernel_rfl
theorem gErrLimit : Tryd.prog.globalNamed "turnkey/api.ErrLimit" = some 8 := by kernel_rfl
theorem tErrLimit : (Tryd.prog.globals[8]?).map (·.type) = some 27 := by kernel_rfl
theorem gErrOwn : Tryd.prog.globalNamed "turnkey/api.ErrOwn" = some 9 := by kernel_rfl
theorem tErrOwn : (Tryd.prog.globals[9]?).map (·.type) = some 27 := by kernel_rfl
theorem gErrState : Tryd.prog.globalNamed "turnkey/api.ErrState" = some 4 := by kernel_rfl
theorem tErrState : (Tryd.prog.globals[4]?).map (·.type) = some 27 := by kernel_rfl
theorem gErrRight : Tryd.prog.globalNamed "turnkey/api.ErrRight" = some 6 := by kernel_rfl
theorem tErrRight : (Tryd.prog.globals[6]?).map (·.type) = some 27 := by kernel_rfl
theorem gErrWord : Tryd.prog.globalNamed "turnkey/api.ErrWord" = some 10 := by kernel_rfl
theorem tErrWord : (Tryd.prog.globals[10]?).map (·.type) = some 27 := by kernel_rfl
theorem gErrNumber : Tryd.prog.globalNamed "turnkey/api.ErrNumber" = some 11 := by kernel_rfl
theorem tErrNumber : (Tryd.prog.globals[11]?).map (·.type) = some 27 := by kernel_rfl
/-- The sentinels gs lie in their variables, if each is listed. -/
theorem errs_are {l : List (String × DataW Unit)} {gs : List Nat} {W : World} (h : laidMet Tryd.prog l W)
    (hgs : ∀ g ∈ gs, ∃ n text, (n, DataW.iface "*errors.errorString" (.ptr (.agg [.lit (.string text)]))) ∈ l ∧ Tryd.prog.globalNamed n = some g ∧ (Tryd.prog.globals[g]?).map (·.type) = some 27) :
    Errs 245 gs (atErr W) W :=
  errs_of_laid h hgs Tryd.underlying27 errRow Tryd.underlying245 Tryd.underlying266 rfl rfl Tryd.underlying9 errCells strCells
end Go.Proofs.YtdcdfaeokbdalaaDoor
namespace Go.Proofs.YtdcdfaeokbdalaaDoor
open Go.ChangeShapes Go.WideShapes Go.ChangeAt Go.RowKit
set_option linter.unusedVariables false
theorem bcell2 {W w1 : World} (hb : Below W.heap.size W w1) : (∀ b o, b < W.heap.size → w1.cell? ⟨b, o, none⟩ = W.cell? ⟨b, o, none⟩) ∧ (∀ b o, b < W.heap.size → w1.frozen? ⟨b, o, none⟩ = W.frozen? ⟨b, o, none⟩) :=
  ⟨fun b o h => hb.cell (p := ⟨b, o, none⟩) h, fun b o h => hb.frozen (p := ⟨b, o, none⟩) h⟩
abbrev eV (a : Addr) : Value := .iface 245 (.pointer (some a))
/-- The sentinels' variables, in the order in which turnkeysee numbers them. -/
def G12 : List Nat := [7, 5, 1, 2, 0, 3, 8, 9, 4, 6, 10, 11]
def Sen (A : Nat → Addr) (w : World) : Prop := Errs 245 G12 A w
theorem Sen.below {A : Nat → Addr} {w w' : World} (h : Sen A w) (hb : Below w.heap.size w w') : Sen A w' := Errs.below h hb
def sA (A : Nat → Addr) (j : Nat) : Addr := A (G12.getD j 0)
theorem g12_mem : ∀ j : Fin 12, G12.getD j.val 0 ∈ G12 := by decide
theorem Sen.cell {A : Nat → Addr} {w : World} (h : Sen A w) (j : Nat) (hj : j < 12) : w.cell? ⟨G12.getD j 0, 0, none⟩ = some (eV (sA A j)) ∧ ∃ c t, w.heap[(sA A j).block]? = some (.cells c t (0, 0)) := by
  have hm : G12.getD j 0 ∈ G12 := g12_mem ⟨j, hj⟩
  exact ⟨(h.1 _ hm).1, (h.1 _ hm).2.2⟩
theorem g12_nodup : ∀ i j : Fin 12, i ≠ j → G12.getD i.val 0 ≠ G12.getD j.val 0 := by decide
theorem Sen.other {A : Nat → Addr} {w : World} (h : Sen A w) (i j : Nat) (hi : i < 12) (hj : j < 12) (hne : i ≠ j) : sA A i ≠ sA A j := by
  exact h.2 _ (g12_mem ⟨i, hi⟩) _ (g12_mem ⟨j, hj⟩) (g12_nodup ⟨i, hi⟩ ⟨j, hj⟩ (by simpa using hne))
theorem infoErrPtr : ((Tryd.prog.info? 245).map (·.comparable)) = some true := by kernel_rfl
theorem infoErr : ((Tryd.prog.info? 266).map (·.size)) = some 1 := by kernel_rfl
theorem alike_same (a : Addr) (w : World) : Calls Tryd.prog 154 #[eV a, eV a] w fun e w' => e = .returned (.bool true) ∧ w = w' := by
  obtain ⟨i, hi, hc⟩ := Option.map_eq_some_iff.1 infoErrPtr
  obtain ⟨j, hj, hs⟩ := Option.map_eq_some_iff.1 infoErr
  have hq := run_eql_iface_ptr_same w a Tryd.underlying27 Tryd.underlying245 hi hc hj
  clear hi hc hj hs
  go_enter Tryd.func154, Tryd.ntmps154
  go_wp2
  go_ret
  exact ⟨rfl, rfl⟩
theorem alike_other (a b : Addr) (w : World) (hne : a ≠ b) (ha : ∃ c t, w.heap[a.block]? = some (.cells c t (0, 0))) (hb : ∃ c t, w.heap[b.block]? = some (.cells c t (0, 0))) :
    Calls Tryd.prog 154 #[eV a, eV b] w fun e w' => e = .returned (.bool false) ∧ w = w' := by
  obtain ⟨i, hi, hc⟩ := Option.map_eq_some_iff.1 infoErrPtr
  obtain ⟨j, hj, hs⟩ := Option.map_eq_some_iff.1 infoErr
  obtain ⟨c1, t1, ha⟩ := ha
  obtain ⟨c2, t2, hb⟩ := hb
  have hq := run_eql_iface_ptr_other w Tryd.underlying27 Tryd.underlying245 hi hc hj (by rw [hs]; decide) hne ha hb
  clear hi hc hj hs ha hb hne
  go_enter Tryd.func154, Tryd.ntmps154
  go_wp2
  go_ret
  exact ⟨rfl, rfl⟩
def SenRow (A : Nat → Addr) (w w' : World) : Prop := (∀ k, k < 12 → w'.cell? ⟨w.heap.size, k, none⟩ = some (eV (sA A k))) ∧ Below w.heap.size w w'
set_option maxRecDepth 100000 in
theorem sentinels_any (A : Nat → Addr) (w : World) (h : Sen A w) : Calls Tryd.prog 153 #[] w fun e w' => e = .returned (.slice (some ⟨w.heap.size, 0, none⟩) 12 12) ∧ SenRow A w w' := by
  have c0 : w.cell? ⟨7, 0, none⟩ = some (eV (sA A 0)) := (h.cell 0 (by decide)).1
  have c1 : w.cell? ⟨5, 0, none⟩ = some (eV (sA A 1)) := (h.cell 1 (by decide)).1
  have c2 : w.cell? ⟨1, 0, none⟩ = some (eV (sA A 2)) := (h.cell 2 (by decide)).1
  have c3 : w.cell? ⟨2, 0, none⟩ = some (eV (sA A 3)) := (h.cell 3 (by decide)).1
  have c4 : w.cell? ⟨0, 0, none⟩ = some (eV (sA A 4)) := (h.cell 4 (by decide)).1
  have c5 : w.cell? ⟨3, 0, none⟩ = some (eV (sA A 5)) := (h.cell 5 (by decide)).1
  have c6 : w.cell? ⟨8, 0, none⟩ = some (eV (sA A 6)) := (h.cell 6 (by decide)).1
  have c7 : w.cell? ⟨9, 0, none⟩ = some (eV (sA A 7)) := (h.cell 7 (by decide)).1
  have c8 : w.cell? ⟨4, 0, none⟩ = some (eV (sA A 8)) := (h.cell 8 (by decide)).1
  have c9 : w.cell? ⟨6, 0, none⟩ = some (eV (sA A 9)) := (h.cell 9 (by decide)).1
  have c10 : w.cell? ⟨10, 0, none⟩ = some (eV (sA A 10)) := (h.cell 10 (by decide)).1
  have c11 : w.cell? ⟨11, 0, none⟩ = some (eV (sA A 11)) := (h.cell 11 (by decide)).1
  clear h
  go_enter Tryd.func153, Tryd.ntmps153
  go_wp2
  go_ret
  refine ⟨rfl, fun k hk => ?_, (Below.refl _ _).alloc (Nat.le_refl _) _⟩
  clear c0 c1 c2 c3 c4 c5 c6 c7 c8 c9 c10 c11
  match k, hk with
  | 0, _ | 1, _ | 2, _ | 3, _ | 4, _ | 5, _ | 6, _ | 7, _ | 8, _ | 9, _ | 10, _ | 11, _ => simp
set_option maxRecDepth 100000 in
theorem sentinel_is (A : Nat → Addr) (j : Nat) (hj : j < 12) (w : World) (h : Sen A w) : Calls Tryd.prog 146 #[eV (sA A j)] w fun e w' => e = .returned (.int .i64 (101 + (j : Int))) ∧ Below w.heap.size w w' := by
  go_enter Tryd.func146, Tryd.ntmps146
  go_wp2_with (first | (go_at_call 153; refine (sentinels_any A _ h).mono ?_; rintro e w1 ⟨rfl, hR⟩))
  have HS : Sen A w1 := h.below hR.2
  go_loop [4] (fun i => ∃ k : Nat, k ≤ j ∧ i = .int .i64 k) (fun i => j - (intOf i).toNat)
  case atStart => exact ⟨0, Nat.zero_le _, rfl⟩
  case round =>
    obtain ⟨k, hk, rfl⟩ := hrel
    have hc := hR.1 k (by omega)
    have hz := hR.2.size
    by_cases hkj : k = j
    · subst hkj
      go_wp2_with (first | (go_at_call 154; (with_reducible refine (alike_same _ _).mono ?_); rintro e w2 ⟨rfl, rfl⟩))
      go_ret
      exact ⟨rfl, hR.2⟩
    · go_wp2_with (first | (go_at_call 154; (with_reducible refine (alike_other _ _ _ (HS.other j k hj (by omega) (Ne.symm hkj)) (HS.cell j hj).2 (HS.cell k (by omega)).2).mono ?_); rintro e w2 ⟨rfl, rfl⟩))
      go_round
      case rel => exact ⟨k + 1, by omega, by go_num⟩
      case measure => simp [intOf]; omega
theorem none_is (w : World) : Calls Tryd.prog 145 #[] w fun e w' => e = .returned (Value.agg #[.int .i64 0, .bool false, .int .i64 0]) ∧ Below w.heap.size w w' := by
  go_enter Tryd.func145, Tryd.ntmps145
  go_wp2
  refine bodyPost_ret (v := Value.agg #[.int .i64 0, .bool false, .int .i64 0]) (by simp [results, Tryd.results145, go_sem]) rfl ⟨rfl, ?_⟩
  exact (Below.refl _ _).alloc (Nat.le_refl _) _
theorem bare_is (c : Int) (w : World) : Calls Tryd.prog 85 #[.int .i64 c] w fun e w' => e = .returned (Value.agg #[.int .i64 c, .bool false, .int .i64 0]) ∧ Below w.heap.size w w' := by
  go_enter Tryd.func85, Tryd.ntmps85
  go_wp2
  refine bodyPost_ret (v := Value.agg #[.int .i64 c, .bool false, .int .i64 0]) (by simp [results, Tryd.results85, go_sem]) rfl ⟨rfl, ?_⟩
  exact (Below.refl _ _).alloc (Nat.le_refl _) _
theorem placed_is (c n : Int) (hc : (c == 0) = false) (w : World) : Calls Tryd.prog 147 #[.int .i64 c, .int .i64 n] w fun e w' => e = .returned (Value.agg #[.int .i64 c, .bool true, .int .i64 n]) ∧ Below w.heap.size w w' := by
  go_enter Tryd.func147, Tryd.ntmps147
  go_wp2
  refine bodyPost_ret (v := Value.agg #[.int .i64 c, .bool true, .int .i64 n]) (by simp [results, Tryd.results147, go_sem]) rfl ⟨rfl, ?_⟩
  exact (Below.refl _ _).alloc (Nat.le_refl _) _
/-- Are two faults the same? -/
def faultB (c n c' n' : Int) (p p' : Bool) : Bool := c == c' && (p == p' && n == n')
theorem samefault_any (c n c' n' : Int) (p p' : Bool) (w : World) : Calls Tryd.prog 128 #[Value.agg #[.int .i64 c, .bool p, .int .i64 n], Value.agg #[.int .i64 c', .bool p', .int .i64 n']] w fun e w' => e = .returned (.bool (faultB c n c' n' p p')) ∧ Below w.heap.size w w' := by
  go_enter Tryd.func128, Tryd.ntmps128
  go_wp2
  all_goals go_ret
  all_goals refine ⟨?_, ((Below.refl _ _).alloc (Nat.le_refl _) _).alloc (by simp) _⟩
  all_goals simp [faultB, *]
theorem set3 {w1 : World} {b : Nat} {u0 u1 u2 : Value} (v0 v1 v2 : Value) (h0 : w1.cell? ⟨b, 0, none⟩ = some u0) (h1 : w1.cell? ⟨b, 1, none⟩ = some u1) (h2 : w1.cell? ⟨b, 2, none⟩ = some u2) :
    (((w1.setCell ⟨b, 0, none⟩ v0).setCell ⟨b, 1, none⟩ v1).setCell ⟨b, 2, none⟩ v2).cell? ⟨b, 0, none⟩ = some v0 ∧ (((w1.setCell ⟨b, 0, none⟩ v0).setCell ⟨b, 1, none⟩ v1).setCell ⟨b, 2, none⟩ v2).cell? ⟨b, 1, none⟩ = some v1 ∧ (((w1.setCell ⟨b, 0, none⟩ v0).setCell ⟨b, 1, none⟩ v1).setCell ⟨b, 2, none⟩ v2).cell? ⟨b, 2, none⟩ = some v2 := by
  have all : ∀ (j : Nat) (hj : j < 3), (w1.setCells b 0 [v0, v1, v2]).cell? ⟨b, 0 + j, none⟩ = some ([v0, v1, v2][j]'hj) := fun j hj => World.cell?_setCells_in b [v0, v1, v2] 0 w1 (by
    intro i hi
    match i, hi with
    | 0, _ => simp [h0]
    | 1, _ => simp [h1]
    | 2, _ => simp [h2]) j (by simpa using hj)
  exact ⟨all 0 (by decide), all 1 (by decide), all 2 (by decide)⟩
theorem sentinel_c (A : Nat → Addr) (j : Nat) (c : Int) (hj : j < 12) (hc : Hid (101 + (j : Int) = c)) (w : World) (h : Sen A w) : Calls Tryd.prog 146 #[eV (sA A j)] w fun e w' => e = .returned (.int .i64 c) ∧ Below w.heap.size w w' := by
  rw [← hc.out]; exact sentinel_is A j hj w h
set_option maxRecDepth 100000 in
theorem fault_nil (w : World) : Calls Tryd.prog 129 #[.nilIface] w fun e w' => e = .returned (Value.agg #[.int .i64 0, .bool false, .int .i64 0]) ∧ Below w.heap.size w w' := by
  go_enter Tryd.func129, Tryd.ntmps129
  go_wp2_with (first | (go_at_call 145; refine (none_is _).mono ?_; rintro e w1 ⟨rfl, hb⟩; obtain ⟨hc, hf⟩ := bcell2 hb; have hz : w.heap.size < w1.heap.size := by { have := hb.size; simp at this; omega }))
  obtain ⟨q0, q1, q2⟩ := set3 (b := w.heap.size) (.int .i64 (0)) (.bool false) (.int .i64 (0)) ((hc w.heap.size 0 (by simp)).trans (by simp; rfl)) ((hc w.heap.size 1 (by simp)).trans (by simp; rfl)) ((hc w.heap.size 2 (by simp)).trans (by simp; rfl))
  refine bodyPost_ret (v := Value.agg #[.int .i64 0, .bool false, .int .i64 0]) (by simp [results, Tryd.results129, go_sem, q0, q1, q2]) rfl ⟨rfl, ?_⟩
  exact (((((Below.refl _ _).alloc (Nat.le_refl _) _).trans (hb.mono (by simp))).setCell (by simp) _).setCell (by simp) _).setCell (by simp) _
theorem assert_err (a : Addr) (w : World) : (Instr.typeAssert (eV a) 27 229 true).run Tryd.prog w = .ok (.tuple #[.pointer none, .bool false]) w := by kernel_rfl
theorem assert_at (a : Addr) (w : World) : (Instr.typeAssert (.iface 229 (.pointer (some a))) 27 229 true).run Tryd.prog w = .ok (.tuple #[.pointer (some a), .bool true]) w := by kernel_rfl
theorem Sen.alloc {A : Nat → Addr} {w : World} (h : Sen A w) (o : Obj) : Sen A (w.alloc o) := h.below ((Below.refl _ _).alloc (Nat.le_refl _) o)
set_option maxRecDepth 100000 in
theorem fault_err (A : Nat → Addr) (j : Nat) (c : Int) (hj : j < 12) (hjc : Hid (101 + (j : Int) = c)) (w : World) (h : Sen A w) : Calls Tryd.prog 129 #[eV (sA A j)] w fun e w' => e = .returned (Value.agg #[.int .i64 c, .bool false, .int .i64 0]) ∧ Below w.heap.size w w' := by
  have hta := assert_err (sA A j)
  go_enter Tryd.func129, Tryd.ntmps129
  go_wp2_with (first | (go_at_call 146; (with_reducible refine (sentinel_c A j c hj hjc _ (h.alloc _)).mono ?_); rintro e w1 ⟨rfl, hb⟩; obtain ⟨hc, hf⟩ := bcell2 hb; have hz : w.heap.size < w1.heap.size := by { have := hb.size; simp at this; omega }) | (go_at_call 85; refine (bare_is _ _).mono ?_; rintro e w2 ⟨rfl, hb2⟩; obtain ⟨hc2, hf2⟩ := bcell2 hb2; have hz2 : w.heap.size < w2.heap.size := by { have := hb2.size; omega }))
  obtain ⟨q0, q1, q2⟩ := set3 (b := w.heap.size) (.int .i64 c) (.bool false) (.int .i64 0) ((hc2 w.heap.size 0 hz).trans ((hc w.heap.size 0 (by simp)).trans (by simp; rfl))) ((hc2 w.heap.size 1 hz).trans ((hc w.heap.size 1 (by simp)).trans (by simp; rfl))) ((hc2 w.heap.size 2 hz).trans ((hc w.heap.size 2 (by simp)).trans (by simp; rfl)))
  refine bodyPost_ret (v := Value.agg #[.int .i64 c, .bool false, .int .i64 0]) (by simp [results, Tryd.results129, go_sem, q0, q1, q2]) rfl ⟨rfl, ?_⟩
  exact ((((((Below.refl _ _).alloc (Nat.le_refl _) _).trans (hb.mono (by simp))).trans (hb2.mono (by omega))).setCell (by simp) _).setCell (by simp) _).setCell (by simp) _
set_option maxRecDepth 100000 in
set_option maxHeartbeats 1000000 in
theorem fault_at (A : Nat → Addr) (j : Nat) (c n : Int) (p : Nat) (hj : j < 12) (hjc : Hid (101 + (j : Int) = c)) (hc0 : (c == 0) = false) (w : World) (h : Sen A w) (hp : p < w.heap.size ∧ w.cell? ⟨p, 0, none⟩ = some (.int .i64 (n)) ∧ w.cell? ⟨p, 1, none⟩ = some (eV (sA A j))) : Calls Tryd.prog 129 #[(Value.iface 229 (.pointer (some ⟨p, 0, none⟩)))] w fun e w' => e = .returned (Value.agg #[.int .i64 c, .bool true, .int .i64 n]) ∧ Below w.heap.size w w' := by
  have hta := assert_at ⟨p, 0, none⟩
  have hsz := hp.1
  have p0 : (w.alloc (.cells #[.int .i64 0, .bool false, .int .i64 0] 170)).cell? ⟨p, 0, none⟩ = some (.int .i64 n) := (World.cell?_alloc_lt w _ ⟨p, 0, none⟩ hsz).trans hp.2.1
  have p1 : (w.alloc (.cells #[.int .i64 0, .bool false, .int .i64 0] 170)).cell? ⟨p, 1, none⟩ = some (eV (sA A j)) := (World.cell?_alloc_lt w _ ⟨p, 1, none⟩ hsz).trans hp.2.2
  clear hp
  have HA := h.alloc (.cells #[.int .i64 0, .bool false, .int .i64 0] 170)
  go_enter Tryd.func129, Tryd.ntmps129
  go_wp2_with fail
  go_region_with (first | (go_at_call 146; refine (sentinel_c A j c hj hjc _ (by exact HA)).mono ?_; rintro e w1 ⟨rfl, hb⟩; obtain ⟨hc, hf⟩ := bcell2 hb; have hz : w.heap.size < w1.heap.size := by { have := hb.size; simp at this; omega }) | (go_at_call 147; refine (placed_is c n hc0 _).mono ?_; rintro e w2 ⟨rfl, hb2⟩; obtain ⟨hc2, hf2⟩ := bcell2 hb2; have hz2 : w.heap.size < w2.heap.size := by { have := hb2.size; omega }))
  all_goals
    go_wp2
    obtain ⟨q0, q1, q2⟩ := set3 (b := w.heap.size) (.int .i64 c) (.bool true) (.int .i64 n) ((hc2 w.heap.size 0 hz).trans ((hc w.heap.size 0 (by simp)).trans (by simp; rfl))) ((hc2 w.heap.size 1 hz).trans ((hc w.heap.size 1 (by simp)).trans (by simp; rfl))) ((hc2 w.heap.size 2 hz).trans ((hc w.heap.size 2 (by simp)).trans (by simp; rfl)))
    refine bodyPost_ret (v := Value.agg #[.int .i64 c, .bool true, .int .i64 n]) (by simp [results, Tryd.results129, go_sem, q0, q1, q2]) rfl ⟨rfl, ?_⟩
    exact (((((((Below.refl _ _).alloc (Nat.le_refl _) _).drew).trans (hb.mono (by simp))).trans (hb2.mono (by omega))).setCell (by simp) _).setCell (by simp) _).setCell (by simp) _
/-- What Fault says of an error, from a world on. -/
def FaultIs (e : Value) (c n : Int) (p : Bool) (w : World) : Prop := ∀ W, Below w.heap.size w W → Calls Tryd.prog 129 #[e] W fun e' w' => e' = .returned (Value.agg #[.int .i64 c, .bool p, .int .i64 n]) ∧ Below W.heap.size W w'
theorem FaultIs.nil (w : World) : FaultIs .nilIface 0 0 false w := fun W _ => fault_nil W
theorem FaultIs.err {A : Nat → Addr} {w : World} (h : Sen A w) (j : Nat) (hj : j < 12) : FaultIs (eV (sA A j)) (101 + (j : Int)) 0 false w := fun W hb => fault_err A j _ hj (Lib.hid rfl) W (h.below hb)
theorem FaultIs.at {A : Nat → Addr} {w : World} (h : Sen A w) (j : Nat) (hj : j < 12) (n : Int) (p : Nat) (hp : p < w.heap.size ∧ w.cell? ⟨p, 0, none⟩ = some (.int .i64 (n)) ∧ w.cell? ⟨p, 1, none⟩ = some (eV (sA A j))) : FaultIs (Value.iface 229 (.pointer (some ⟨p, 0, none⟩))) (101 + (j : Int)) n true w := fun W hb =>
  fault_at A j _ n p hj (Lib.hid rfl) (by simp; omega) W (h.below hb) ⟨Nat.lt_of_lt_of_le hp.1 hb.size, (hb.cell (p := ⟨p, 0, none⟩) hp.1).trans hp.2.1, (hb.cell (p := ⟨p, 1, none⟩) hp.1).trans hp.2.2⟩
theorem FaultIs.later {e : Value} {c n : Int} {p : Bool} {w w' : World} (h : FaultIs e c n p w) (hb : Below w.heap.size w w') : FaultIs e c n p w' := fun W hW => h W (hb.trans (hW.mono hb.size))
set_option maxRecDepth 100000 in
set_option maxHeartbeats 1000000 in
theorem same_any (e : Value) (c n c' n' : Int) (p p' : Bool) (w : World) (hF : FaultIs e c n p w) : Calls Tryd.prog 84 #[e, Value.agg #[.int .i64 c', .bool p', .int .i64 n']] w fun e' w' => e' = .returned (.bool (faultB c n c' n' p p')) ∧ Below w.heap.size w w' := by
  have hF' := hF.later ((((Below.refl _ _).alloc (Nat.le_refl _) (.cells #[.int .i64 c', .bool p', .int .i64 n'] 170)).drew))
  clear hF
  go_enter Tryd.func84, Tryd.ntmps84
  go_wp2_with fail
  go_region_with (first | (go_at_call 129; refine (hF' _ (by first | exact Below.refl _ _ | exact (Below.refl _ _).drew)).mono ?_; rintro e' w1 ⟨rfl, hb⟩; obtain ⟨hc, hf⟩ := bcell2 hb; have hz : w.heap.size < w1.heap.size := by { have := hb.size; simp at this; omega }) | (go_at_call 128; refine (samefault_any _ _ _ _ _ _ _).mono ?_; rintro e' w2 ⟨rfl, hb2⟩))
  all_goals
    go_wp2
    go_ret
    refine ⟨rfl, ?_⟩
    exact ((((Below.refl _ _).alloc (Nat.le_refl _) _).drew).trans (hb.mono (by simp))).trans (hb2.mono (by omega))
theorem is_any (e : Value) (c n c' : Int) (p : Bool) (w : World) (hF : FaultIs e c n p w) : Calls Tryd.prog 14 #[e, .int .i64 c'] w fun e' w' => e' = .returned (.bool (faultB c n c' 0 p false)) ∧ Below w.heap.size w w' := by
  go_enter Tryd.func14, Tryd.ntmps14
  go_wp2_with (first | (go_at_call 85; refine (bare_is _ _).mono ?_; rintro e' w1 ⟨rfl, hb⟩) | (go_at_call 84; refine (same_any e c n c' 0 p false _ (hF.later hb)).mono ?_; rintro e' w2 ⟨rfl, hb2⟩))
  go_ret
  exact ⟨rfl, hb.trans (hb2.mono hb.size)⟩
end Go.Proofs.YtdcdfaeokbdalaaDoor
namespace Go.Proofs.YtdcdfaeokbdalaaDoor
open Go.ChangeShapes Go.WideShapes Go.ChangeAt Go.RowKit
set_option linter.unusedVariables false
abbrev fnFree : Value := .func (.func 127) #[] #[]
set_option maxRecDepth 100000 in
theorem aindex_none {base p B n c : Nat} {th : Nat → Bool} {vr : Nat → Int} (w : World) (hA : ArAt w base p B n c th vr) (hno : Hid (∀ i, i < n → freeB th vr i = false)) :
    Calls Tryd.prog 126 #[.slice (some ⟨B, 0, none⟩) n c, fnFree] w fun e w' => e = .returned (.int .i64 (-1)) ∧ Below w.heap.size w w' := by
  have HA := Lib.hid hA
  have hn := hA.le
  clear hA
  go_enter Tryd.func126, Tryd.ntmps126
  go_wp2_with fail
  go_loopw [8] (fun i wr => ∃ k : Nat, k ≤ n ∧ i = .int .i64 k ∧ Below w.heap.size w wr) (fun i _ => n - (intOf i).toNat)
  case atStart => exact ⟨0, by omega, rfl, Below.refl _ _⟩
  case round =>
    obtain ⟨k, hk, rfl, hB⟩ := hrel
    have HB := Lib.hid hB
    by_cases hlt : k < n
    · have hw := HA.out.below hB
      have h0 := hw.at0 k hlt
      have h1 := hw.at1 k hlt
      have HF : Hid ((!th k && decide (vr k ≤ 1048575)) = false) := Lib.hid (hno.out k hlt)
      generalize th k = t at h0 HF
      generalize vr k = v at h1 HF
      have k0 : (0 : Int) ≤ k := by omega
      clear hw hB
      go_wp2_with (first | (go_at_call 127; (with_reducible refine (afree_is t v false HF _).mono ?_); rintro e w1 ⟨rfl, hb⟩; have HB2 := Lib.hid (HB.out.trans (hb.mono HB.out.size)); clear hb h0 h1))
      go_roundw
      case rel => exact ⟨k + 1, by omega, by go_num, HB2.out⟩
      case measure => simp [intOf]; omega
    · have hdd : decide (k < n) = false := by simp; omega
      clear hB
      go_wp2
      go_ret
      exact ⟨rfl, HB.out⟩
set_option maxRecDepth 100000 in
theorem aindex_at {base p B n c : Nat} {th : Nat → Bool} {vr : Nat → Int} (w : World) (hA : ArAt w base p B n c th vr) (j : Nat) (hj : j < n) (hyes : Hid (freeB th vr j = true)) (hno : Hid (∀ i, i < j → freeB th vr i = false)) :
    Calls Tryd.prog 126 #[.slice (some ⟨B, 0, none⟩) n c, fnFree] w fun e w' => e = .returned (.int .i64 j) ∧ Below w.heap.size w w' := by
  have HA := Lib.hid hA
  have hn := hA.le
  clear hA
  go_enter Tryd.func126, Tryd.ntmps126
  go_wp2_with fail
  go_loopw [8] (fun i wr => ∃ k : Nat, k ≤ j ∧ i = .int .i64 k ∧ Below w.heap.size w wr) (fun i _ => n - (intOf i).toNat)
  case atStart => exact ⟨0, by omega, rfl, Below.refl _ _⟩
  case round =>
    obtain ⟨k, hk, rfl, hB⟩ := hrel
    have HB := Lib.hid hB
    have hkn : k < n := by omega
    have hw := HA.out.below hB
    have h0 := hw.at0 k hkn
    have h1 := hw.at1 k hkn
    have k0 : (0 : Int) ≤ k := by omega
    by_cases hlt : k < j
    · have HF : Hid ((!th k && decide (vr k ≤ 1048575)) = false) := Lib.hid (hno.out k hlt)
      generalize th k = t at h0 HF
      generalize vr k = v at h1 HF
      clear hw hB
      go_wp2_with (first | (go_at_call 127; (with_reducible refine (afree_is t v false HF _).mono ?_); rintro e w1 ⟨rfl, hb⟩; have HB2 := Lib.hid (HB.out.trans (hb.mono HB.out.size)); clear hb h0 h1))
      go_roundw
      case rel => exact ⟨k + 1, by omega, by go_num, HB2.out⟩
      case measure => simp [intOf]; omega
    · obtain rfl : j = k := by omega
      have HF : Hid ((!th j && decide (vr j ≤ 1048575)) = true) := hyes
      generalize th j = t at h0 HF
      generalize vr j = v at h1 HF
      clear hw hB
      go_wp2_with (first | (go_at_call 127; (with_reducible refine (afree_is t v true HF _).mono ?_); rintro e w1 ⟨rfl, hb⟩; have HB2 := Lib.hid (HB.out.trans (hb.mono HB.out.size)); clear hb h0 h1))
      go_ret
      exact ⟨rfl, HB2.out⟩
end Go.Proofs.YtdcdfaeokbdalaaDoor
namespace Go.Proofs.YtdcdfaeokbdalaaDoor
open Go.ChangeShapes Go.WideShapes Go.ChangeAt Go.RowKit
set_option linter.unusedVariables false
section
variable {w w' wi : World} {base p B n c : Nat} {th : Nat → Bool} {vr : Nat → Int}
theorem ArAt.set0 (h : ArAt w base p B n c th vr) (j : Nat) (hj : j < n) (x : Bool) : ArAt (w.setCell ⟨B, j * 2, none⟩ (.bool x)) base p B n c (upd th j x) vr := by
  refine ⟨by simpa using h.pl, h.pb, ?_, ?_, h.ne, h.le⟩
  · rw [World.cell?_setCell_other _ _ _ _ (by intro e; exact h.ne (congrArg Addr.block e).symm)]
    exact h.fld
  · rw [← plc_set0 th vr n j hj x]
    exact (h.own.stored (j * 2) (.bool x)).1
theorem ArAt.set1 (h : ArAt w base p B n c th vr) (j : Nat) (hj : j < n) (x : Int) : ArAt (w.setCell ⟨B, j * 2 + 1, none⟩ (.int .i64 x)) base p B n c th (upd vr j x) := by
  refine ⟨by simpa using h.pl, h.pb, ?_, ?_, h.ne, h.le⟩
  · rw [World.cell?_setCell_other _ _ _ _ (by intro e; exact h.ne (congrArg Addr.block e).symm)]
    exact h.fld
  · rw [← plc_set1 th vr n j hj x]
    exact (h.own.stored (j * 2 + 1) (.int .i64 x)).1
/-- What changed but block B is new. -/
theorem grown_set (hb : Below w.heap.size w wi) (h : ArAt wi base p B n c th vr) (j : Nat) (u : Value) : w.grownBy (wi.setCell ⟨B, j, none⟩ u) (some B) := by
  have hg := (h.own.stored j u).2
  exact ⟨hg.os.trans hb.os, hg.tape.trans hb.tape, hg.output.trans hb.output, Nat.le_trans hb.size hg.size, fun k hk hne => (hg.block k (Nat.lt_of_lt_of_le hk hb.size) hne).trans (hb.block k hk)⟩
theorem grown_then (hg : w.grownBy wi (some B)) (hb : Below wi.heap.size wi w') : w.grownBy w' (some B) :=
  ⟨hb.os.trans hg.os, hb.tape.trans hg.tape, hb.output.trans hg.output, Nat.le_trans hg.size hb.size, fun k hk hne => (hb.block k (Nat.lt_of_lt_of_le hk hg.size)).trans (hg.block k hk hne)⟩
theorem grown_more (hg : w.grownBy wi (some B)) (hg2 : wi.grownBy w' (some B)) : w.grownBy w' (some B) :=
  ⟨hg2.os.trans hg.os, hg2.tape.trans hg.tape, hg2.output.trans hg.output, Nat.le_trans hg.size hg2.size, fun k hk hne => (hg2.block k (Nat.lt_of_lt_of_le hk hg.size) hne).trans (hg.block k hk hne)⟩
end
set_option maxRecDepth 100000 in
theorem atake_ok {base p B n c : Nat} {th : Nat → Bool} {vr : Nat → Int} (w : World) (hA : ArAt w base p B n c th vr) (j : Nat) (hj : j < n) (hyes : Hid (freeB th vr j = true)) (hno : Hid (∀ i, i < j → freeB th vr i = false)) (v : Int) (hv : Hid (vr j = v)) :
    Calls Tryd.prog 82 #[.pointer (some ⟨p, 0, none⟩)] w fun e w' => e = .returned (.tuple #[.int .i64 j, .int .i64 v, .nilIface]) ∧ ArAt w' base p B n c (upd th j true) vr ∧ w.grownBy w' (some B) := by
  have HA := Lib.hid hA
  have hn := hA.le
  have hf := hA.fld
  have k0 : (0 : Int) ≤ j := by omega
  have k1 : (j : Int) < n := by omega
  clear hA
  go_enter Tryd.func82, Tryd.ntmps82
  go_wp2_with (first | (go_at_call 126; (with_reducible refine (aindex_at _ HA.out j hj hyes hno).mono ?_); rintro e wi ⟨rfl, hb⟩; have HW := Lib.hid (HA.out.below hb); have HB := Lib.hid hb; have hf1 := (HA.out.below hb).fld; have h0 := (HA.out.below hb).at0 j hj; have hz := (HA.out.below hb).own.frozenAt (j * 2); clear hf hb))
  have HS := Lib.hid (HW.out.set0 j hj true)
  have HG := Lib.hid (grown_set HB.out HW.out (j * 2) (.bool true))
  have hf2 := HS.out.fld
  have h2 := HS.out.at1 j hj
  rw [hv.out] at h2
  clear hf1 h0 hz
  go_quiet (fail)
  go_wp2_with fail
  go_ret3
  exact ⟨rfl, HS.out.below (below_drewN (Below.refl _ _) _), grown_then HG.out (below_drewN (Below.refl _ _) _)⟩
set_option maxRecDepth 100000 in
theorem atake_full {base p B n c : Nat} {th : Nat → Bool} {vr : Nat → Int} (w : World) (hA : ArAt w base p B n c th vr) (hno : Hid (∀ i, i < n → freeB th vr i = false)) (v : Value) (hE : w.cell? ⟨3, 0, none⟩ = some v) (hl : 3 < w.heap.size) :
    Calls Tryd.prog 82 #[.pointer (some ⟨p, 0, none⟩)] w fun e w' => e = .returned (.tuple #[.int .i64 0, .int .i64 0, v]) ∧ Below w.heap.size w w' := by
  have HA := Lib.hid hA
  have hf := hA.fld
  clear hA
  go_enter Tryd.func82, Tryd.ntmps82
  go_wp2_with (first | (go_at_call 126; (with_reducible refine (aindex_none _ HA.out hno).mono ?_); rintro e wi ⟨rfl, hb⟩; have HB := Lib.hid hb; have hE2 := (hb.cell (p := ⟨3, 0, none⟩) hl).trans hE; clear hf hb hE))
  go_quiet (fail)
  go_wp2_with fail
  go_ret3
  exact ⟨rfl, below_drewN HB.out _⟩
set_option maxRecDepth 100000 in
theorem agive_ok {base p B n c : Nat} {th : Nat → Bool} {vr : Nat → Int} (w : World) (hA : ArAt w base p B n c th vr) (j : Nat) (hj : j < n) (hyes : Hid (th j = true)) (v : Int) (hv : Hid (vr j = v)) (v0 : -1000000000 ≤ v) (v1 : v ≤ 1000000000) :
    Calls Tryd.prog 52 #[.pointer (some ⟨p, 0, none⟩), .int .i64 j] w fun e w' => e = .returned .nilIface ∧ ArAt w' base p B n c (upd th j false) (upd vr j (v + 1)) ∧ w.grownBy w' (some B) := by
  have HA := Lib.hid hA
  have hn := hA.le
  have hf := hA.fld
  have h0 := hA.at0 j hj
  have hz := hA.own.frozenAt (j * 2)
  have HS := Lib.hid (hA.set0 j hj false)
  have HG := Lib.hid (grown_set (Below.refl _ w) hA (j * 2) (.bool false))
  have hf2 := HS.out.fld
  have h2 := HS.out.at1 j hj
  rw [hv.out] at h2
  have hz2 := HS.out.own.frozenAt (j * 2 + 1)
  have HS2 := Lib.hid (HS.out.set1 j hj (v + 1))
  have HG2 := Lib.hid (grown_more HG.out (grown_set (Below.refl _ _) HS.out (j * 2 + 1) (.int .i64 (v + 1))))
  have HK : Hid (thereB n th (j : Int) = true) := Lib.hid (by unfold thereB; rw [Int.toNat_natCast, hyes.out, decide_eq_true (by omega)]; rfl)
  have k0 : (0 : Int) ≤ j := by omega
  have k1 : (j : Int) < n := by omega
  clear hA
  go_enter Tryd.func52, Tryd.ntmps52
  go_wp2_with (first | (go_at_call 54; (with_reducible refine (athere_is _ true HK _ HA.out).mono ?_); rintro e w1 ⟨rfl, rfl⟩))
  go_ret
  exact ⟨rfl, HS2.out, HG2.out⟩
theorem agive_no {base p B n c : Nat} {th : Nat → Bool} {vr : Nat → Int} (id : Int) (w : World) (hA : ArAt w base p B n c th vr) (hno : Hid (thereB n th id = false)) (v : Value) (hE : w.cell? ⟨0, 0, none⟩ = some v) :
    Calls Tryd.prog 52 #[.pointer (some ⟨p, 0, none⟩), .int .i64 id] w fun e w' => e = .returned v ∧ w = w' := by
  have HA := Lib.hid hA
  clear hA
  go_enter Tryd.func52, Tryd.ntmps52
  go_wp2_with (first | (go_at_call 54; (with_reducible refine (athere_is _ false hno _ HA.out).mono ?_); rintro e w1 ⟨rfl, rfl⟩))
  go_ret
  exact ⟨rfl, rfl⟩
end Go.Proofs.YtdcdfaeokbdalaaDoor
namespace Go.Proofs.YtdcdfaeokbdalaaDoor
open Go.ChangeShapes Go.WideShapes Go.ChangeAt Go.RowKit
set_option linter.unusedVariables false
theorem infoPlace : (Tryd.prog.info? 196).map (fun i => (i.zero, i.size, i.bytes)) = some (some (.agg #[.bool false, .int .i64 0]), 2, 16) := by kernel_rfl
set_option maxRecDepth 100000 in
theorem anew_ok (n : Nat) (h1 : 1 ≤ n) (h2 : n ≤ 256) (w : World) :
    Calls Tryd.prog 76 #[.int .i64 n] w fun e w' => ∃ p B, e = .returned (.tuple #[.pointer (some ⟨p, 0, none⟩), .nilIface]) ∧ ArAt w' w.heap.size p B n n (fun _ => false) (fun _ => 0) ∧ Below w.heap.size w w' := by
  obtain ⟨i0, hi, hz0, hz1, hz2⟩ := info_parts infoPlace
  have HI := Lib.hid (⟨hi, hz0, hz1, hz2⟩ : Tryd.prog.info? 196 = some i0 ∧ i0.zero = some (.agg #[.bool false, .int .i64 0]) ∧ i0.size = 2 ∧ i0.bytes = 16)
  clear hi hz0 hz1 hz2
  have d1 : decide ((n : Int) < 1) = false := by simp; omega
  have d2 : decide ((256 : Int) < (n : Int)) = false := by simp; omega
  go_enter Tryd.func76, Tryd.ntmps76
  go_wp2_with (first | (at_make; refine wpList_make_full _ rfl _ _ 197 rfl w.heap.size 196 i0 (.agg #[.bool false, .int .i64 0]) 2 Tryd.underlying197 HI.out.1 HI.out.2.1 HI.out.2.2.1 .i64 .i64 _ _ n rfl rfl rfl rfl ?b2 ?b3 ?b4 ?_))
  case b2 => rw [HI.out.2.2.2]; omega
  case b3 => unfold maxLen; omega
  case b4 => exact Nat.le_refl _
  intro w1 hown hgrow
  have hb1 : Below w.heap.size w w1 := (Below.refl _ _).grown hgrow (Nat.le_refl _) (fun k hk => by cases hk)
  have hlt := (hown.lt w.heap.size rfl).2
  have HO : Hid (w1.ownsRow w.heap.size 196 2 (.slice (some ⟨w.heap.size, 0, none⟩) n n) n (plc (fun _ => false) (fun _ => 0) n)) := Lib.hid (by rw [← plc_made]; exact hown)
  have HB := Lib.hid hb1
  clear hown hgrow hb1
  go_wp2_with fail
  go_ret2
  exact ⟨_, _, rfl, ⟨by simp, by omega, by simp, HO.out.alloc _, by omega, h2⟩, HB.out.alloc HB.out.size _⟩
end Go.Proofs.YtdcdfaeokbdalaaDoor
namespace Go.Proofs.YtdcdfaeokbdalaaDoor
open Go.ChangeShapes Go.WideShapes Go.ChangeAt Go.RowKit
set_option linter.unusedVariables false
theorem ArAt.congr {w : World} {base p B n c : Nat} {th th' : Nat → Bool} {vr vr' : Nat → Int} (h : ArAt w base p B n c th vr) (h1 : ∀ i, i < n → th i = th' i) (h2 : ∀ i, i < n → vr i = vr' i) : ArAt w base p B n c th' vr' :=
  ⟨h.pl, h.pb, h.fld, by rw [← plc_congr n h1 h2]; exact h.own, h.ne, h.le⟩
/-- Below the start: what a change of the arena's own row leaves. -/
theorem below_grown {w0 w w' : World} {B : Nat} (h : Below w0.heap.size w0 w) (hg : w.grownBy w' (some B)) (hB : w0.heap.size ≤ B) : Below w0.heap.size w0 w' :=
  h.grown hg h.size (fun k hk => by injection hk with e; omega)
end Go.Proofs.YtdcdfaeokbdalaaDoor
namespace Go.Proofs.YtdcdfaeokbdalaaDoor
open Go.ChangeShapes Go.WideShapes Go.ChangeAt Go.RowKit
set_option linter.unusedVariables false
theorem anew_at (x : Int) (n : Nat) (hx : Hid (x = n)) (h1 : 1 ≤ n) (h2 : n ≤ 256) (w : World) :
    Calls Tryd.prog 76 #[.int .i64 x] w fun e w' => ∃ p B, e = .returned (.tuple #[.pointer (some ⟨p, 0, none⟩), .nilIface]) ∧ ArAt w' w.heap.size p B n n (fun _ => false) (fun _ => 0) ∧ Below w.heap.size w w' := by
  rw [hx.out]; exact anew_ok n h1 h2 w
/-- The places of this law: filled up to k; all there, one of them m times anew. -/
def thK (k : Nat) : Nat → Bool := fun i => decide (i < k)
def vrM (a m : Nat) : Nat → Int := fun i => if i = a then (m : Int) else 0
def VV (W w : World) (base p B n c : Nat) (th : Nat → Bool) (vr : Nat → Int) : Prop := Below W.heap.size W w ∧ ArAt w base p B n c th vr ∧ W.heap.size ≤ base
section
variable {W w w' : World} {base p B n c : Nat} {th th' : Nat → Bool} {vr vr' : Nat → Int}
theorem VV.ar (h : VV W w base p B n c th vr) : ArAt w base p B n c th vr := h.2.1
theorem VV.bel (h : VV W w base p B n c th vr) : Below W.heap.size W w := h.1
theorem VV.step (h : VV W w base p B n c th vr) (hb : Below w.heap.size w w') : VV W w' base p B n c th vr := ⟨h.1.trans (hb.mono h.1.size), h.2.1.below hb, h.2.2⟩
theorem VV.turn (h : VV W w base p B n c th vr) (hA : ArAt w' base p B n c th' vr') (hg : w.grownBy w' (some B)) : VV W w' base p B n c th' vr' := ⟨below_grown h.1 hg (Nat.le_trans h.2.2 h.2.1.lt.1), hA, h.2.2⟩
theorem VV.congr (h : VV W w base p B n c th vr) (h1 : ∀ i, i < n → th i = th' i) (h2 : ∀ i, i < n → vr i = vr' i) : VV W w base p B n c th' vr' := ⟨h.1, h.2.1.congr h1 h2, h.2.2⟩
end
end Go.Proofs.YtdcdfaeokbdalaaDoor
namespace Go.Proofs.YtdcdfaeokbdalaaDoor
open Go.ChangeShapes Go.WideShapes Go.ChangeAt Go.RowKit
set_option linter.unusedVariables false
section
variable {W w w' : World} {base p B n c F : Nat} {th th' : Nat → Bool} {vr vr' : Nat → Int} {fr : Nat → Bool}
theorem ArAt.kept (h : ArAt w base p B n c th vr) (hg : w.grownBy w' (some F)) (hp : p ≠ F) (hB : B ≠ F) : ArAt w' base p B n c th vr :=
  ⟨Nat.lt_of_lt_of_le h.pl hg.size, h.pb, (World.cell?_of_block (a := ⟨p, 0, none⟩) (hg.block p h.pl (by simpa using hp))).trans h.fld, h.own.kept hg (.inr (by simpa [Value.ownBlock] using hB)), h.ne, h.le⟩
/-- A row of bools of the law's own. -/
def FR (w : World) (base F n : Nat) (fr : Nat → Bool) : Prop := w.ownsRow base 4 1 (.slice (some ⟨F, 0, none⟩) n n) n ((List.range n).map fun i => Value.bool (fr i))
theorem FR.at (h : FR w base F n fr) (k : Nat) (hk : k < n) : w.cell? ⟨F, k, none⟩ = some (.bool (fr k)) := by
  have := World.ownsRow.cellAt h k (by omega)
  rw [this]
  simp [hk]
theorem FR.lt (h : FR w base F n fr) : base ≤ F ∧ F < w.heap.size := World.ownsRow.lt h F rfl
theorem FR.free (h : FR w base F n fr) (k : Nat) : w.frozen? ⟨F, k, none⟩ = false := World.ownsRow.frozenAt h k
theorem FR.below (h : FR w base F n fr) (hb : Below w.heap.size w w') : FR w' base F n fr := own_below h hb
theorem FR.kept (h : FR w base F n fr) (hg : w.grownBy w' (some B)) (hB : F ≠ B) : FR w' base F n fr := World.ownsRow.kept h hg (.inr (by simpa [Value.ownBlock] using hB))
theorem FR.set (h : FR w base F n fr) (k : Nat) (hk : k < n) (x : Bool) : FR (w.setCell ⟨F, k, none⟩ (.bool x)) base F n (upd fr k x) ∧ w.grownBy (w.setCell ⟨F, k, none⟩ (.bool x)) (some F) := by
  have hs := World.ownsRow.stored h k (.bool x)
  refine ⟨?_, hs.2⟩
  unfold FR
  have e : ((List.range n).map fun i => Value.bool (upd fr k x i)) = ((List.range n).map fun i => Value.bool (fr i)).set k (.bool x) := by
    apply List.ext_getElem?
    intro j
    by_cases hj : j < n
    · by_cases e : j = k
      · subst e
        simp [upd, hj]
      · rw [List.getElem?_set_ne (by omega)]
        simp [upd, e, hj]
    · rw [List.getElem?_eq_none (by simp; omega), List.getElem?_eq_none (by simp; omega)]
  rw [e]
  exact hs.1
end
/-- The law's state: the arena; the row of bools apart from it. -/
structure LS (W w : World) (base p B n c F : Nat) (fr th : Nat → Bool) (vr : Nat → Int) : Prop where
  vv : VV W w base p B n c th vr
  fr : FR w W.heap.size F n fr
  nb : F ≠ B
  np : F ≠ p
section
variable {W w w' : World} {base p B n c F : Nat} {th th' : Nat → Bool} {vr vr' : Nat → Int} {fr fr' : Nat → Bool}
theorem LS.step (h : LS W w base p B n c F fr th vr) (hb : Below w.heap.size w w') : LS W w' base p B n c F fr th vr := ⟨h.vv.step hb, h.fr.below hb, h.nb, h.np⟩
theorem LS.turn (h : LS W w base p B n c F fr th vr) (hA : ArAt w' base p B n c th' vr') (hg : w.grownBy w' (some B)) : LS W w' base p B n c F fr th' vr' := ⟨h.vv.turn hA hg, h.fr.kept hg h.nb, h.nb, h.np⟩
theorem LS.put (h : LS W w base p B n c F fr th vr) (k : Nat) (hk : k < n) (x : Bool) : LS W (w.setCell ⟨F, k, none⟩ (.bool x)) base p B n c F (upd fr k x) th vr := by
  have hs := h.fr.set k hk x
  refine ⟨⟨?_, h.vv.ar.kept hs.2 (Ne.symm h.np) (Ne.symm h.nb), h.vv.2.2⟩, hs.1, h.nb, h.np⟩
  exact h.vv.1.grown hs.2 h.vv.1.size (fun j hj => by injection hj with e; have := h.fr.lt.1; omega)
theorem LS.congr (h : LS W w base p B n c F fr th vr) (h1 : ∀ i, i < n → th i = th' i) (h2 : ∀ i, i < n → vr i = vr' i) : LS W w base p B n c F fr th' vr' := ⟨h.vv.congr h1 h2, h.fr, h.nb, h.np⟩
end
def vrF (fr : Nat → Bool) : Nat → Int := fun i => if fr i = true then 1 else 0
def thF (fr : Nat → Bool) (l : Int) : Nat → Bool := fun i => !fr i || decide ((i : Int) ≤ l)
end Go.Proofs.YtdcdfaeokbdalaaDoor
namespace Go.Proofs.YtdcdfaeokbdalaaDoor
open Go.ChangeShapes Go.WideShapes Go.ChangeAt Go.RowKit
set_option linter.unusedVariables false
/-- What the law is given: numbers in a row. -/
def Nums (w : World) (a : Option Addr) (len : Nat) (zs : List Int) : Prop := ∀ ad, a = some ad → 0 < len → ad.block < w.heap.size ∧ ∀ i, i < len → w.cell? (ad.add i) = some (.int .i64 (zs.getD i 0)) ∧ -9223372036854775808 ≤ zs.getD i 0 ∧ zs.getD i 0 ≤ 9223372036854775807
theorem add_block' (ad : Addr) (n : Nat) : (ad.add n).block = ad.block := by unfold Addr.add; split <;> rfl
end Go.Proofs.YtdcdfaeokbdalaaDoor
namespace Go.Proofs.YtdcdfaeokbdalaaDoor
open Go.ChangeShapes Go.WideShapes Go.ChangeAt Go.RowKit
set_option linter.unusedVariables false
theorem sen_of {l : List (String × DataW Unit)} {w : World} (h : laidMet Tryd.prog l w)
    (hl : ∀ n ∈ ["turnkey/api.ErrEnd", "turnkey/api.ErrShape", "turnkey/api.ErrRange", "turnkey/api.ErrMany", "turnkey/api.ErrNone", "turnkey/api.ErrFull", "turnkey/api.ErrLimit", "turnkey/api.ErrOwn", "turnkey/api.ErrState", "turnkey/api.ErrRight", "turnkey/api.ErrWord", "turnkey/api.ErrNumber"], ∃ t, (n, DataW.iface "*errors.errorString" (.ptr (.agg [.lit (.string t)]))) ∈ l) : Sen (atErr w) w := by
  refine errs_are h (fun g hg => ?_)
  unfold G12 at hg
  simp only [List.mem_cons, List.not_mem_nil, or_false] at hg
  rcases hg with rfl | rfl | rfl | rfl | rfl | rfl | rfl | rfl | rfl | rfl | rfl | rfl
  · obtain ⟨t, ht⟩ := hl "turnkey/api.ErrEnd" (by simp); exact ⟨_, t, ht, gErrEnd, tErrEnd⟩
  · obtain ⟨t, ht⟩ := hl "turnkey/api.ErrShape" (by simp); exact ⟨_, t, ht, gErrShape, tErrShape⟩
  · obtain ⟨t, ht⟩ := hl "turnkey/api.ErrRange" (by simp); exact ⟨_, t, ht, gErrRange, tErrRange⟩
  · obtain ⟨t, ht⟩ := hl "turnkey/api.ErrMany" (by simp); exact ⟨_, t, ht, gErrMany, tErrMany⟩
  · obtain ⟨t, ht⟩ := hl "turnkey/api.ErrNone" (by simp); exact ⟨_, t, ht, gErrNone, tErrNone⟩
  · obtain ⟨t, ht⟩ := hl "turnkey/api.ErrFull" (by simp); exact ⟨_, t, ht, gErrFull, tErrFull⟩
  · obtain ⟨t, ht⟩ := hl "turnkey/api.ErrLimit" (by simp); exact ⟨_, t, ht, gErrLimit, tErrLimit⟩
  · obtain ⟨t, ht⟩ := hl "turnkey/api.ErrOwn" (by simp); exact ⟨_, t, ht, gErrOwn, tErrOwn⟩
  · obtain ⟨t, ht⟩ := hl "turnkey/api.ErrState" (by simp); exact ⟨_, t, ht, gErrState, tErrState⟩
  · obtain ⟨t, ht⟩ := hl "turnkey/api.ErrRight" (by simp); exact ⟨_, t, ht, gErrRight, tErrRight⟩
  · obtain ⟨t, ht⟩ := hl "turnkey/api.ErrWord" (by simp); exact ⟨_, t, ht, gErrWord, tErrWord⟩
  · obtain ⟨t, ht⟩ := hl "turnkey/api.ErrNumber" (by simp); exact ⟨_, t, ht, gErrNumber, tErrNumber⟩
theorem is_sen (A : Nat → Addr) (j : Nat) (c : Int) (hj : j < 12) (hc : Hid (101 + (j : Int) = c)) (w : World) (h : Sen A w) :
    Calls Tryd.prog 14 #[eV (sA A j), .int .i64 c] w fun e w' => e = .returned (.bool true) ∧ Below w.heap.size w w' := by
  refine (is_any _ _ _ c _ w (FaultIs.err h j hj)).mono fun e w' ⟨he, hb⟩ => ⟨?_, hb⟩
  rw [he, ← hc.out]
  simp [faultB]
theorem Sen.err {A : Nat → Addr} {w : World} (h : Sen A w) (j : Nat) (hj : j < 12) : w.cell? ⟨G12.getD j 0, 0, none⟩ = some (eV (sA A j)) := (h.cell j hj).1
theorem cell_lt {w : World} {b o : Nat} {v : Value} (h : w.cell? ⟨b, o, none⟩ = some v) : b < w.heap.size := by
  rcases Nat.lt_or_ge b w.heap.size with h' | h'
  · exact h'
  · simp [World.cell?, Array.getElem?_eq_none h'] at h
theorem Sen.size {A : Nat → Addr} {w : World} (h : Sen A w) (j : Nat) (hj : j < 12) : G12.getD j 0 < w.heap.size := cell_lt (h.err j hj)
theorem Sen.c0 {A : Nat → Addr} {w : World} (h : Sen A w) : w.cell? ⟨7, 0, none⟩ = some (eV (sA A 0)) := h.err 0 (by decide)
theorem Sen.s0 {A : Nat → Addr} {w : World} (h : Sen A w) : 7 < w.heap.size := h.size 0 (by decide)
theorem Sen.c1 {A : Nat → Addr} {w : World} (h : Sen A w) : w.cell? ⟨5, 0, none⟩ = some (eV (sA A 1)) := h.err 1 (by decide)
theorem Sen.s1 {A : Nat → Addr} {w : World} (h : Sen A w) : 5 < w.heap.size := h.size 1 (by decide)
theorem Sen.c2 {A : Nat → Addr} {w : World} (h : Sen A w) : w.cell? ⟨1, 0, none⟩ = some (eV (sA A 2)) := h.err 2 (by decide)
theorem Sen.s2 {A : Nat → Addr} {w : World} (h : Sen A w) : 1 < w.heap.size := h.size 2 (by decide)
theorem Sen.c3 {A : Nat → Addr} {w : World} (h : Sen A w) : w.cell? ⟨2, 0, none⟩ = some (eV (sA A 3)) := h.err 3 (by decide)
theorem Sen.s3 {A : Nat → Addr} {w : World} (h : Sen A w) : 2 < w.heap.size := h.size 3 (by decide)
theorem Sen.c4 {A : Nat → Addr} {w : World} (h : Sen A w) : w.cell? ⟨0, 0, none⟩ = some (eV (sA A 4)) := h.err 4 (by decide)
theorem Sen.s4 {A : Nat → Addr} {w : World} (h : Sen A w) : 0 < w.heap.size := h.size 4 (by decide)
theorem Sen.c5 {A : Nat → Addr} {w : World} (h : Sen A w) : w.cell? ⟨3, 0, none⟩ = some (eV (sA A 5)) := h.err 5 (by decide)
theorem Sen.s5 {A : Nat → Addr} {w : World} (h : Sen A w) : 3 < w.heap.size := h.size 5 (by decide)
theorem Sen.c6 {A : Nat → Addr} {w : World} (h : Sen A w) : w.cell? ⟨8, 0, none⟩ = some (eV (sA A 6)) := h.err 6 (by decide)
theorem Sen.c7 {A : Nat → Addr} {w : World} (h : Sen A w) : w.cell? ⟨9, 0, none⟩ = some (eV (sA A 7)) := h.err 7 (by decide)
theorem Sen.c8 {A : Nat → Addr} {w : World} (h : Sen A w) : w.cell? ⟨4, 0, none⟩ = some (eV (sA A 8)) := h.err 8 (by decide)
theorem Sen.c9 {A : Nat → Addr} {w : World} (h : Sen A w) : w.cell? ⟨6, 0, none⟩ = some (eV (sA A 9)) := h.err 9 (by decide)
theorem Sen.c10 {A : Nat → Addr} {w : World} (h : Sen A w) : w.cell? ⟨10, 0, none⟩ = some (eV (sA A 10)) := h.err 10 (by decide)
theorem Sen.c11 {A : Nat → Addr} {w : World} (h : Sen A w) : w.cell? ⟨11, 0, none⟩ = some (eV (sA A 11)) := h.err 11 (by decide)
end Go.Proofs.YtdcdfaeokbdalaaDoor
namespace Go.Proofs.YtdcdfaeokbdalaaDoor
open Go.ChangeShapes Go.WideShapes Go.ChangeAt Go.RowKit
set_option linter.unusedVariables false
theorem infoU32 : (Tryd.prog.info? 23).map (·.size) = some 1 := by kernel_rfl
theorem zeroU32 (w : World) : (zeroValue 23).run Tryd.prog w = .ok (.int .u32 0) w := by kernel_rfl
def over : List Value → Nat → List Value → List Value
  | xs, _, [] => xs
  | xs, o, v :: vs => over (xs.set o v) (o + 1) vs
theorem over_get (vs : List Value) : ∀ (xs : List Value) (o j : Nat), o + vs.length ≤ xs.length → (over xs o vs)[j]? = if o ≤ j ∧ j < o + vs.length then vs[j - o]? else xs[j]? := by
  induction vs with
  | nil => intro xs o j h; unfold over; rw [if_neg (by simp only [List.length_nil]; omega)]
  | cons v vs ih =>
    intro xs o j h
    simp only [List.length_cons] at h
    unfold over
    rw [ih _ _ _ (by simp; omega)]
    by_cases h1 : o + 1 ≤ j ∧ j < o + 1 + vs.length
    · rw [if_pos h1, if_pos (by simp; omega), show j - o = (j - (o + 1)) + 1 by omega]
      simp
    · rw [if_neg h1]
      by_cases h2 : j = o
      · subst h2
        rw [if_pos (by simp)]
        rw [List.getElem?_set_self (by omega)]
        simp
      · rw [if_neg (by simp; omega), List.getElem?_set_ne (by omega)]
theorem own_setCells {base e s g n c : Nat} (vs : List Value) : ∀ (o : Nat) (xs : List Value) (w : World), w.ownsRow base e s (.slice (some ⟨g, 0, none⟩) n c) n xs →
    (w.setCells g o vs).ownsRow base e s (.slice (some ⟨g, 0, none⟩) n c) n (over xs o vs) ∧ w.grownBy (w.setCells g o vs) (some g) := by
  induction vs with
  | nil => intro o xs w h; exact ⟨h, ⟨rfl, rfl, rfl, Nat.le_refl _, fun _ _ _ => rfl⟩⟩
  | cons v vs ih =>
    intro o xs w h
    have h1 := h.stored o v
    have h2 := ih (o + 1) _ _ h1.1
    exact ⟨h2.1, ⟨h2.2.os.trans h1.2.os, h2.2.tape.trans h1.2.tape, h2.2.output.trans h1.2.output, Nat.le_trans h1.2.size h2.2.size, fun k hk hne => (h2.2.block k (Nat.lt_of_lt_of_le hk h1.2.size) hne).trans (h1.2.block k hk hne)⟩⟩
/-- The words of n pages, one behind the other. -/
def flat (W : Nat → Nat → Int) (n : Nat) : List Value := (List.range (n * 32)).map fun j => Value.int .u32 (W (j / 32) (j % 32))
theorem flat_len (W : Nat → Nat → Int) (n : Nat) : (flat W n).length = n * 32 := by simp [flat]
theorem flat_at (W : Nat → Nat → Int) (n i j : Nat) (hi : i < n) (hj : j < 32) : (flat W n)[i * 32 + j]? = some (.int .u32 (W i j)) := by
  have h1 : i * 32 + j < n * 32 := by omega
  have h2 : (i * 32 + j) / 32 = i := by omega
  have h3 : (i * 32 + j) % 32 = j := by omega
  simp [flat, h1, h2, h3]
/-- One page's first words anew. -/
def updW (W : Nat → Nat → Int) (i : Nat) (xs : List Int) : Nat → Nat → Int := fun a b => if a = i ∧ b < xs.length then xs.getD b 0 else W a b
theorem flat_over (W : Nat → Nat → Int) (n i : Nat) (xs : List Int) (hi : i < n) (hx : xs.length ≤ 32) : over (flat W n) (i * 32) (xs.map (Value.int .u32)) = flat (updW W i xs) n := by
  apply List.ext_getElem?
  intro j
  rw [over_get _ _ _ _ (by rw [flat_len, List.length_map]; omega), List.length_map]
  by_cases hj : j < n * 32
  · by_cases h : i * 32 ≤ j ∧ j < i * 32 + xs.length
    · rw [if_pos h]
      have h1 : j / 32 = i := by omega
      have h2 : j % 32 = j - i * 32 := by omega
      have h3 : j - i * 32 < xs.length := by omega
      simp [flat, hj, updW, h1, h2, h3]
    · rw [if_neg h]
      have : ¬ (j / 32 = i ∧ j % 32 < xs.length) := by omega
      simp only [flat, List.getElem?_map, List.getElem?_range hj, Option.map_some, updW, if_neg this]
  · rw [if_neg (by omega), List.getElem?_eq_none (by rw [flat_len]; omega), List.getElem?_eq_none (by rw [flat_len]; omega)]
/-- Pages lie at block P: their arena; their words at block G. -/
structure PgAt (w : World) (base P p B G n c : Nat) (th : Nat → Bool) (vr : Nat → Int) (W : Nat → Nat → Int) : Prop where
  pl : P < w.heap.size
  pb : base ≤ P
  f0 : w.cell? ⟨P, 0, none⟩ = some (.pointer (some ⟨p, 0, none⟩))
  f1 : w.cell? ⟨P, 1, none⟩ = some (.slice (some ⟨G, 0, none⟩) n n)
  ar : ArAt w base p B n c th vr
  row : w.ownsRow base 203 32 (.slice (some ⟨G, 0, none⟩) n n) n (flat W n)
  n1 : P ≠ B
  n2 : P ≠ G
  n3 : G ≠ B
  n4 : G ≠ p
section
variable {w w' : World} {base P p B G n c : Nat} {th th' : Nat → Bool} {vr vr' : Nat → Int} {W W' : Nat → Nat → Int}
theorem PgAt.below (h : PgAt w base P p B G n c th vr W) (hb : Below w.heap.size w w') : PgAt w' base P p B G n c th vr W :=
  ⟨Nat.lt_of_lt_of_le h.pl hb.size, h.pb, (hb.cell (p := ⟨P, 0, none⟩) h.pl).trans h.f0, (hb.cell (p := ⟨P, 1, none⟩) h.pl).trans h.f1, h.ar.below hb, own_below h.row hb, h.n1, h.n2, h.n3, h.n4⟩
theorem PgAt.turn (h : PgAt w base P p B G n c th vr W) (hA : ArAt w' base p B n c th' vr') (hg : w.grownBy w' (some B)) : PgAt w' base P p B G n c th' vr' W :=
  ⟨Nat.lt_of_lt_of_le h.pl hg.size, h.pb, (World.cell?_of_block (a := ⟨P, 0, none⟩) (hg.block P h.pl (fun e => h.n1 (by injection e)))).trans h.f0, (World.cell?_of_block (a := ⟨P, 1, none⟩) (hg.block P h.pl (fun e => h.n1 (by injection e)))).trans h.f1, hA, h.row.kept hg (.inr (fun e => h.n3 (by simpa [Value.ownBlock] using e))), h.n1, h.n2, h.n3, h.n4⟩
theorem PgAt.words (h : PgAt w base P p B G n c th vr W) (i : Nat) (hi : i < n) (xs : List Int) (hx : xs.length ≤ 32) : PgAt (w.setCells G (i * 32) (xs.map (Value.int .u32))) base P p B G n c th vr (updW W i xs) ∧ w.grownBy (w.setCells G (i * 32) (xs.map (Value.int .u32))) (some G) := by
  have hs := own_setCells (xs.map (Value.int .u32)) (i * 32) _ _ h.row
  rw [flat_over W n i xs hi hx] at hs
  exact ⟨⟨Nat.lt_of_lt_of_le h.pl hs.2.size, h.pb, (World.cell?_of_block (a := ⟨P, 0, none⟩) (hs.2.block P h.pl (fun e => h.n2 (by injection e)))).trans h.f0, (World.cell?_of_block (a := ⟨P, 1, none⟩) (hs.2.block P h.pl (fun e => h.n2 (by injection e)))).trans h.f1, h.ar.kept hs.2 (Ne.symm h.n4) (Ne.symm h.n3), hs.1, h.n1, h.n2, h.n3, h.n4⟩, hs.2⟩
theorem PgAt.word (h : PgAt w base P p B G n c th vr W) (i j : Nat) (hi : i < n) (hj : j < 32) : w.cell? ⟨G, i * 32 + j, none⟩ = some (.int .u32 (W i j)) := by
  rw [h.row.cellAt (i * 32 + j) (by omega), flat_at W n i j hi hj]
theorem PgAt.congr (h : PgAt w base P p B G n c th vr W) (h1 : ∀ i, i < n → th i = th' i) (h2 : ∀ i, i < n → vr i = vr' i) : PgAt w base P p B G n c th' vr' W := ⟨h.pl, h.pb, h.f0, h.f1, h.ar.congr h1 h2, h.row, h.n1, h.n2, h.n3, h.n4⟩
theorem PgAt.clear (h : PgAt w base P p B G n c th vr W) (i : Nat) (hi : i < n) : ∃ w1, (∀ ty, (Builtin.clear_ #[59] ty #[.slice (some ⟨G, i * 32, none⟩) 32 32]).run Tryd.prog w = .ok (.tuple #[]) w1) ∧ PgAt w1 base P p B G n c th vr (updW W i (List.replicate 32 0)) ∧ w.grownBy w1 (some G) := by
  have hs := h.words i hi (List.replicate 32 0) (by simp)
  refine ⟨_, fun ty => ?_, hs⟩
  have := Lib.run_clear_slice (P := Tryd.prog) w 59 23 ty (.int .u32 0) Tryd.underlying59 zeroU32 rfl rfl G (i * 32) 32 32 (by decide) (fun j hj => by rw [h.word i j hi hj]; rfl) (fun j hj => h.row.frozenAt _)
  rw [this, List.map_replicate]
theorem PgAt.copy (h : PgAt w base P p B G n c th vr W) (i : Nat) (hi : i < n) (a : Option Addr) (m c2 : Nat) (xs : List Int) (hm : xs.length = m) (hx : m ≤ 32) (ha : ∀ j, j < m → ∃ ad, a = some ad ∧ w.cell? (ad.add j) = some (.int .u32 (xs.getD j 0))) :
    ∃ w1, (∀ ty, (Builtin.copy_ #[59, 59] ty #[.slice (some ⟨G, i * 32, none⟩) 32 32, .slice a m c2]).run Tryd.prog w = .ok (goInt m) w1) ∧ PgAt w1 base P p B G n c th vr (updW W i xs) ∧ w.grownBy w1 (some G) := by
  by_cases h0 : m = 0
  · subst h0
    obtain rfl : xs = [] := List.length_eq_zero_iff.1 hm
    refine ⟨w, fun ty => run_copy_none (P := Tryd.prog) w 59 59 ty 23 _ a 32 32 0 c2 Tryd.underlying59 infoU32 rfl, ?_, ⟨rfl, rfl, rfl, Nat.le_refl _, fun _ _ _ => rfl⟩⟩
    have e : updW W i [] = W := by funext a b; simp [updW]
    rw [e]
    exact h
  · have hs := h.words i hi xs (by omega)
    obtain ⟨ad, rfl, _⟩ := ha 0 (by omega)
    refine ⟨_, fun ty => ?_, hs⟩
    have := run_copy_cells (P := Tryd.prog) w 59 59 ty 23 G (i * 32) 32 32 ad m c2 (xs.map (Value.int .u32)) Tryd.underlying59 infoU32 (by rw [List.length_map, hm]; exact (Nat.min_eq_left hx).symm) (fun j v hj => by
        have hjm : j < m := by
          rcases Nat.lt_or_ge j m with h' | h'
          · exact h'
          · rw [List.getElem?_eq_none (by rw [List.length_map]; omega)] at hj; cases hj
        obtain ⟨ad', e1, e2⟩ := ha j hjm
        obtain rfl : ad = ad' := by injection e1
        rw [e2]
        have : j < xs.length := by omega
        simp [this] at hj
        simp [List.getD, this, hj]) (fun j hj => by rw [h.word i j hi (by rw [List.length_map] at hj; omega)]; rfl) (fun j hj => h.row.frozenAt _) (fun v hv => by
        obtain ⟨x, _, rfl⟩ := List.mem_map.1 hv
        rfl)
    rw [this, List.length_map, hm]
end
end Go.Proofs.YtdcdfaeokbdalaaDoor
namespace Go.Proofs.YtdcdfaeokbdalaaDoor
open Go.ChangeShapes Go.WideShapes Go.ChangeAt Go.RowKit
set_option linter.unusedVariables false
/-- Words in a row, apart from the pages. -/
structure SrcU (w : World) (a : Option Addr) (xs : List Int) (B G : Nat) : Prop where
  src : ∀ j, j < xs.length → ∃ ad, a = some ad ∧ ad.block < w.heap.size ∧ ad.block ≠ B ∧ ad.block ≠ G ∧ w.cell? (ad.add j) = some (.int .u32 (xs.getD j 0))
theorem SrcU.kept {w w' : World} {a : Option Addr} {xs : List Int} {B G g : Nat} (h : SrcU w a xs B G) (hg : w.grownBy w' (some g)) (hB : g = B ∨ g = G) : SrcU w' a xs B G := ⟨fun j hj => by
  obtain ⟨ad, h1, h2, h3, h4, h5⟩ := h.src j hj
  refine ⟨ad, h1, Nat.lt_of_lt_of_le h2 hg.size, h3, h4, (World.cell?_of_block (a := ad.add j) ?_).trans h5⟩
  rw [add_block']
  exact hg.block _ h2 (fun e => by injection e with e; rcases hB with rfl | rfl; exact h3 e; exact h4 e)⟩
/-- What a page of these words is. -/
def fresh (W : Nat → Nat → Int) (i : Nat) (xs : List Int) : Nat → Nat → Int := updW (updW W i (List.replicate 32 0)) i xs
def PBelow (w w' : World) (B G : Nat) : Prop := w'.os = w.os ∧ w'.tape = w.tape ∧ w'.output = w.output ∧ w.heap.size ≤ w'.heap.size ∧ ∀ k, k < w.heap.size → k ≠ B → k ≠ G → w'.heap[k]? = w.heap[k]?
theorem PBelow.of {w w' : World} {B G g : Nat} (h : w.grownBy w' (some g)) (hB : g = B ∨ g = G) : PBelow w w' B G := ⟨h.os, h.tape, h.output, h.size, fun k hk h1 h2 => h.block k hk (fun e => by injection e with e; rcases hB with rfl | rfl; exact h1 e; exact h2 e)⟩
theorem PBelow.of_below {w w' : World} {B G : Nat} (h : Below w.heap.size w w') : PBelow w w' B G := ⟨h.os, h.tape, h.output, h.size, fun k hk _ _ => h.block k hk⟩
theorem PBelow.trans {w w' w'' : World} {B G : Nat} (h : PBelow w w' B G) (h2 : PBelow w' w'' B G) : PBelow w w'' B G :=
  ⟨h2.1.trans h.1, h2.2.1.trans h.2.1, h2.2.2.1.trans h.2.2.1, Nat.le_trans h.2.2.2.1 h2.2.2.2.1, fun k hk h3 h4 => (h2.2.2.2.2 k (Nat.lt_of_lt_of_le hk h.2.2.2.1) h3 h4).trans (h.2.2.2.2 k hk h3 h4)⟩
theorem PBelow.below {w w' : World} {B G b : Nat} (h : PBelow w w' B G) (hB : b ≤ B) (hG : b ≤ G) (hb : b ≤ w.heap.size) : Below b w w' := ⟨h.1, h.2.1, h.2.2.1, h.2.2.2.1, fun k hk => h.2.2.2.2 k (by omega) (by omega) (by omega)⟩
end Go.Proofs.YtdcdfaeokbdalaaDoor
namespace Go.Proofs.YtdcdfaeokbdalaaDoor
open Go.Joins Go.ChangeShapes Go.WideShapes Go.ChangeAt Go.RowKit Go.Deep
set_option linter.unusedVariables false
/-- A slice of structs of integers that came in: nil, or 'cap' rows, the first 'len' its elements. -/
def IsRows (ks : List IntKind) (w : World) (a : Option Addr) (len cap : Nat) (zs : List (List Int)) : Prop :=
  (a = none ∧ len = 0 ∧ cap = 0 ∧ zs = []) ∨
  ∃ x, a = some x ∧ len ≤ cap ∧ cap ≤ maxLen ∧ zs.length = cap ∧ ∀ i, i < zs.length → ∀ j k, ks[j]? = some k → w.cell? (x.add (i * ks.length + j)) = some (.int k ((zs.getD i []).getD j 0)) ∧ (Lit.int k ((zs.getD i []).getD j 0)).wf = true
section
variable {H : Type} {enc : TypeId × Value → H} {P : Program} {w : World} {base : Nat} {held : Bool}
theorem open_rows {t e : TypeId} {fs : Array Field} {fuel : Nat} {a : Option Addr} {len cap : Nat} {x : DataW H × List MemPlace} {ks : List IntKind} (ht : P.underlying t = some (.slice e)) (he : P.underlying e = some (.struct fs))
    (hone : oneCellFields P fs = true) (hC : P.cellsOf e = ks.length) (hfk : fs.size = ks.length) (hk : ∀ (j : Nat) (f : Field), fs[j]? = some f → ∃ k, ks[j]? = some k ∧ P.underlying f.type = some (.int k))
    (h : DataW.trod enc P w base (fun _ => true) held fuel t (Value.slice a len cap).cells.toList = some x) : ∃ zs, IsRows ks w a len cap zs := by
  rcases open_slice ht h with h0 | ⟨y, l, c, m, n, D, Pl, hcs, hb, hl, hm, hmm, hx, hi⟩
  · simp [Value.cells] at h0
    obtain ⟨⟨rfl, rfl, rfl⟩, _⟩ := h0
    exact ⟨[], .inl ⟨rfl, rfl, rfl, rfl⟩⟩
  · simp [Value.cells] at hcs
    obtain ⟨rfl, rfl, rfl⟩ := hcs
    have hmc : m = cap := by simpa using hmm
    have key : ∀ i, i < m → ∃ z : List Int, ∀ j k, ks[j]? = some k → w.cell? (y.add (i * ks.length + j)) = some (.int k (z.getD j 0)) ∧ (Lit.int k (z.getD j 0)).wf = true := by
      intro i him
      obtain ⟨cs', hc, ht'⟩ := hi i him
      rw [hC] at hc
      obtain ⟨ys, n', hn', hy, hlen, hyl, hf⟩ := DataW.trod_struct he ht'
      obtain ⟨_, hcl, hat⟩ := World.cells?_some hc
      have one : ∀ j, j < ks.length → ∃ v : Int, ∀ k, ks[j]? = some k → w.cell? (y.add (i * ks.length + j)) = some (.int k v) ∧ (Lit.int k v).wf = true := by
        intro j hj
        have hjl : j < fs.size := by omega
        have hjf : fs[j]? = some fs[j] := Array.getElem?_eq_getElem hjl
        obtain ⟨k, hks, hu⟩ := hk j _ hjf
        obtain ⟨ho, hkk⟩ := hone_of hone j _ hjf
        have hcell := hat j hj
        have hv : cs'[j]? = some (cs'[j]'(by omega)) := List.getElem?_eq_getElem (by omega)
        have h1 := hf j _ hjf
        rw [ho, hkk] at h1
        have hone' : (cs'.drop j).take 1 = [cs'[j]'(by omega)] := by
          rw [List.drop_eq_getElem_cons (by omega)]
          rfl
        rw [hone'] at h1
        have hys : ys[j]? = some (ys[j]'(by omega)) := List.getElem?_eq_getElem (by omega)
        obtain ⟨v, e1, _, hw⟩ := DataW.trod_int hu (h1.trans hys)
        simp at e1
        refine ⟨v, fun k' hk' => ?_⟩
        obtain rfl := Option.some.inj (hks.symm.trans hk')
        refine ⟨?_, hw⟩
        rw [← Go.Deep.add_add, hcell, hv, e1]
      have pick : ∀ n, n ≤ ks.length → ∃ z : List Int, z.length = n ∧ ∀ j, j < n → ∀ k, ks[j]? = some k → w.cell? (y.add (i * ks.length + j)) = some (.int k (z.getD j 0)) ∧ (Lit.int k (z.getD j 0)).wf = true := by
        intro n
        induction n with
        | zero => intro _; exact ⟨[], rfl, fun j hj => by omega⟩
        | succ n ih =>
          intro hn
          obtain ⟨z, hz, hzz⟩ := ih (by omega)
          obtain ⟨v, hv⟩ := one n (by omega)
          refine ⟨z ++ [v], by simp [hz], fun j hj k hk' => ?_⟩
          by_cases hjn : j < n
          · have e : (z ++ [v]).getD j 0 = z.getD j 0 := by simp [List.getD, List.getElem?_append, hz, hjn]
            rw [e]; exact hzz j hjn k hk'
          · obtain rfl : j = n := by omega
            have e : (z ++ [v]).getD j 0 = v := by simp [List.getD, ← hz]
            rw [e]; exact hv k hk'
      obtain ⟨z, hz, hzz⟩ := pick ks.length (Nat.le_refl _)
      exact ⟨z, fun j k hjk => hzz j ((List.getElem?_eq_some_iff.1 hjk).1) k hjk⟩
    have all : ∀ n, n ≤ m → ∃ zs : List (List Int), zs.length = n ∧ ∀ i, i < n → ∀ j k, ks[j]? = some k → w.cell? (y.add (i * ks.length + j)) = some (.int k ((zs.getD i []).getD j 0)) ∧ (Lit.int k ((zs.getD i []).getD j 0)).wf = true := by
      intro n
      induction n with
      | zero => intro _; exact ⟨[], rfl, fun i hi => by omega⟩
      | succ n ih =>
        intro hn
        obtain ⟨zs, hz, hzz⟩ := ih (by omega)
        obtain ⟨z, hv⟩ := key n (by omega)
        refine ⟨zs ++ [z], by simp [hz], fun i hi j k hk' => ?_⟩
        by_cases hin : i < n
        · have e : (zs ++ [z]).getD i [] = zs.getD i [] := by simp [List.getD, List.getElem?_append, hz, hin]
          rw [e]; exact hzz i hin j k hk'
        · obtain rfl : i = n := by omega
          have e : (zs ++ [z]).getD i [] = z := by simp [List.getD, ← hz]
          rw [e]; exact hv j k hk'
    obtain ⟨zs, hz, hzz⟩ := all m (Nat.le_refl _)
    exact ⟨zs, .inr ⟨_, rfl, hl, hm, by omega, fun i hi => hzz i (by omega)⟩⟩
end

section
variable {P : Program}
theorem run_copy_wide_none (w : World) (dT sT ty elem : TypeId) (s : Nat) (d a : Option Addr) (dLen dCap sLen sCap : Nat) (hu : P.underlying dT = some (.slice elem)) (hs : (P.info? elem).map (·.size) = some s) (hn : Nat.min sLen dLen = 0) :
    (Builtin.copy_ #[dT, sT] ty #[.slice d dLen dCap, .slice a sLen sCap]).run P w = .ok (goInt 0) w := by
  cases hq : P.info? elem with
  | none => simp [hq] at hs
  | some i =>
    have hl : ∀ (x : Addr), (loadCells x 0).run P w = .ok #[] w := fun x => by simpa using run_loadCells_list (P := P) w x [] (by simp)
    cases d <;> cases a <;> simp [Builtin.copy_, run_underlying hu, Builtin.lenOf, Builtin.firstCells, sizeOf, typeInfo, hq, hn, storeCells, hl]
end
end Go.Proofs.YtdcdfaeokbdalaaDoor
namespace Go.Proofs.YtdcdfaeokbdalaaDoor
open Go.ChangeShapes Go.WideShapes Go.ChangeAt Go.RowKit
set_option linter.unusedVariables false
/-- A cell of nothing. -/
def zc (b : Nat) : Value := if b % 5 = 4 then .int .u32 0 else .int .i64 0
def zs80 : List Value := (List.range 80).map zc
theorem infoSlots : (Tryd.prog.info? 37).map (fun i => (i.zero, i.size, i.bytes)) = some (some (.agg zs80.toArray), 80, 640) := by kernel_rfl
theorem infoKey5 : (Tryd.prog.info? 36).map (·.size) = some 5 := by kernel_rfl
def keyZ : Value := .agg #[.int .i64 0, .int .i64 0, .int .i64 0, .int .i64 0, .int .u32 0]
theorem zeroKeyR (w : World) : (zeroValue 36).run Tryd.prog w = .ok keyZ w := by kernel_rfl
theorem zero16 : (Builtin.zeroCells keyZ.cells 16).toList = zs80 := by kernel_rfl
theorem zs80_len : zs80.length = 80 := by simp [zs80]
theorem zc_one (b : Nat) : (zc b).oneCell' = true := by unfold zc; split <;> rfl
section
variable {P : Program}
theorem run_copy_cells_wide (w : World) (dT sT ty elem : TypeId) (s b o dLen dCap : Nat) (a : Addr) (sLen sCap : Nat) (cs : List Value)
    (hu : P.underlying dT = some (.slice elem)) (hs : (P.info? elem).map (·.size) = some s) (hn : cs.length = Nat.min sLen dLen * s)
    (hsrc : ∀ j v, cs[j]? = some v → w.cell? (a.add j) = some v) (hc : ∀ j, j < cs.length → (w.cell? ⟨b, o + j, none⟩).isSome = true) (hf : ∀ j, j < cs.length → w.frozen? ⟨b, o + j, none⟩ = false) (h1 : ∀ v ∈ cs, v.oneCell' = true) :
    (Builtin.copy_ #[dT, sT] ty #[.slice (some ⟨b, o, none⟩) dLen dCap, .slice (some a) sLen sCap]).run P w = .ok (goInt (Nat.min sLen dLen)) (w.setCells b o cs) := by
  have hl := run_loadCells_list (P := P) w a cs hsrc
  have hst := run_storeCells_cells (P := P) b o cs 0 w (by simpa using hc) (by simpa using hf) h1
  cases hq : P.info? elem with
  | none => simp [hq] at hs
  | some i =>
    have hi : i.size = s := by simpa [hq] using hs
    rw [hn] at hl
    simp [Builtin.copy_, run_underlying hu, Builtin.lenOf, Builtin.firstCells, sizeOf, typeInfo, hq, hi, hl, hst]
theorem run_clear_wide (w : World) (t e ty : TypeId) (z : Value) (ht : P.underlying t = some (.slice e)) (hv : ∀ w, (zeroValue e).run P w = .ok z w) (b o n c : Nat) (hn : 0 < n) (cs : List Value) (hz : (Builtin.zeroCells z.cells n).toList = cs)
    (hc : ∀ j, j < cs.length → (w.cell? ⟨b, o + j, none⟩).isSome = true) (hf : ∀ j, j < cs.length → w.frozen? ⟨b, o + j, none⟩ = false) (h1 : ∀ v ∈ cs, v.oneCell' = true) :
    (Builtin.clear_ #[t] ty #[.slice (some ⟨b, o, none⟩) n c]).run P w = .ok (.tuple #[]) (w.setCells b o cs) := by
  have hst := run_storeCells_cells (P := P) b o cs 0 w (by simpa using hc) (by simpa using hf) h1
  simp only [Nat.add_zero] at hst
  obtain ⟨m, rfl⟩ : ∃ m, n = m + 1 := ⟨n - 1, by omega⟩
  simp [Builtin.clear_, run_underlying ht, hv, hz, hst]
end
/-- The cells of n nodes, one behind the other. -/
def flatV (W : Nat → Nat → Value) (n : Nat) : List Value := (List.range (n * 80)).map fun j => W (j / 80) (j % 80)
theorem flatV_len (W : Nat → Nat → Value) (n : Nat) : (flatV W n).length = n * 80 := by simp [flatV]
theorem flatV_at (W : Nat → Nat → Value) (n i j : Nat) (hi : i < n) (hj : j < 80) : (flatV W n)[i * 80 + j]? = some (W i j) := by
  have h1 : i * 80 + j < n * 80 := by omega
  have h2 : (i * 80 + j) / 80 = i := by omega
  have h3 : (i * 80 + j) % 80 = j := by omega
  simp [flatV, h1, h2, h3]
/-- Some cells of one node anew, from its o-th on. -/
def updV (W : Nat → Nat → Value) (i o : Nat) (xs : List Value) : Nat → Nat → Value := fun a b => if a = i ∧ o ≤ b ∧ b < o + xs.length then xs.getD (b - o) (.int .i64 0) else W a b
theorem flatV_over (W : Nat → Nat → Value) (n i o : Nat) (xs : List Value) (hi : i < n) (hx : o + xs.length ≤ 80) : over (flatV W n) (i * 80 + o) xs = flatV (updV W i o xs) n := by
  apply List.ext_getElem?
  intro j
  rw [over_get _ _ _ _ (by rw [flatV_len]; omega)]
  by_cases hj : j < n * 80
  · by_cases h : i * 80 + o ≤ j ∧ j < i * 80 + o + xs.length
    · rw [if_pos h]
      have h1 : j / 80 = i := by omega
      have h2 : j % 80 = j - i * 80 := by omega
      have h3 : j - (i * 80 + o) < xs.length := by omega
      have h4 : o ≤ j - i * 80 ∧ j - i * 80 < o + xs.length := by omega
      have h5 : j - i * 80 - o = j - (i * 80 + o) := by omega
      simp only [flatV, List.getElem?_map, List.getElem?_range hj, Option.map_some, updV, h1, h2]
      rw [if_pos ⟨trivial, h4.1, h4.2⟩, h5]
      simp [List.getD, h3]
    · rw [if_neg h]
      have : ¬ (j / 80 = i ∧ o ≤ j % 80 ∧ j % 80 < o + xs.length) := by omega
      simp only [flatV, List.getElem?_map, List.getElem?_range hj, Option.map_some, updV, if_neg this]
  · rw [if_neg (by omega), List.getElem?_eq_none (by rw [flatV_len]; omega), List.getElem?_eq_none (by rw [flatV_len]; omega)]
theorem flatV_made (n : Nat) : (madeCells zs80.toArray (n * 80)).toList = flatV (fun _ b => zc b) n := by
  apply List.ext_getElem?
  intro j
  by_cases hj : j < n * 80
  · have h : j % 80 < 80 := Nat.mod_lt _ (by decide)
    have e : (madeCells zs80.toArray (n * 80)).toList[j]? = some (zs80.toArray[j % 80]!) := by
      simp [madeCells, hj, zs80_len]
    rw [e]
    simp [flatV, hj, zs80, h]
  · rw [List.getElem?_eq_none (by simp [size_madeCells]; omega), List.getElem?_eq_none (by rw [flatV_len]; omega)]
/-- Nodes lie at block P: their arena; their keys at block G. -/
structure NdAt (w : World) (base P p B G n c : Nat) (th : Nat → Bool) (vr : Nat → Int) (W : Nat → Nat → Value) : Prop where
  pl : P < w.heap.size
  pb : base ≤ P
  f0 : w.cell? ⟨P, 0, none⟩ = some (.pointer (some ⟨p, 0, none⟩))
  f1 : w.cell? ⟨P, 1, none⟩ = some (.slice (some ⟨G, 0, none⟩) n n)
  ar : ArAt w base p B n c th vr
  row : w.ownsRow base 37 80 (.slice (some ⟨G, 0, none⟩) n n) n (flatV W n)
  n1 : P ≠ B
  n2 : P ≠ G
  n3 : G ≠ B
  n4 : G ≠ p
section
variable {w w' : World} {base P p B G n c : Nat} {th th' : Nat → Bool} {vr vr' : Nat → Int} {W W' : Nat → Nat → Value}
theorem NdAt.below (h : NdAt w base P p B G n c th vr W) (hb : Below w.heap.size w w') : NdAt w' base P p B G n c th vr W :=
  ⟨Nat.lt_of_lt_of_le h.pl hb.size, h.pb, (hb.cell (p := ⟨P, 0, none⟩) h.pl).trans h.f0, (hb.cell (p := ⟨P, 1, none⟩) h.pl).trans h.f1, h.ar.below hb, own_below h.row hb, h.n1, h.n2, h.n3, h.n4⟩
theorem NdAt.turn (h : NdAt w base P p B G n c th vr W) (hA : ArAt w' base p B n c th' vr') (hg : w.grownBy w' (some B)) : NdAt w' base P p B G n c th' vr' W :=
  ⟨Nat.lt_of_lt_of_le h.pl hg.size, h.pb, (World.cell?_of_block (a := ⟨P, 0, none⟩) (hg.block P h.pl (fun e => h.n1 (by injection e)))).trans h.f0, (World.cell?_of_block (a := ⟨P, 1, none⟩) (hg.block P h.pl (fun e => h.n1 (by injection e)))).trans h.f1, hA, h.row.kept hg (.inr (fun e => h.n3 (by simpa [Value.ownBlock] using e))), h.n1, h.n2, h.n3, h.n4⟩
theorem NdAt.cells (h : NdAt w base P p B G n c th vr W) (i o : Nat) (hi : i < n) (xs : List Value) (hx : o + xs.length ≤ 80) : NdAt (w.setCells G (i * 80 + o) xs) base P p B G n c th vr (updV W i o xs) ∧ w.grownBy (w.setCells G (i * 80 + o) xs) (some G) := by
  have hs := own_setCells xs (i * 80 + o) _ _ h.row
  rw [flatV_over W n i o xs hi hx] at hs
  exact ⟨⟨Nat.lt_of_lt_of_le h.pl hs.2.size, h.pb, (World.cell?_of_block (a := ⟨P, 0, none⟩) (hs.2.block P h.pl (fun e => h.n2 (by injection e)))).trans h.f0, (World.cell?_of_block (a := ⟨P, 1, none⟩) (hs.2.block P h.pl (fun e => h.n2 (by injection e)))).trans h.f1, h.ar.kept hs.2 (Ne.symm h.n4) (Ne.symm h.n3), hs.1, h.n1, h.n2, h.n3, h.n4⟩, hs.2⟩
theorem NdAt.cell (h : NdAt w base P p B G n c th vr W) (i j : Nat) (hi : i < n) (hj : j < 80) : w.cell? ⟨G, i * 80 + j, none⟩ = some (W i j) := by
  rw [h.row.cellAt (i * 80 + j) (by omega), flatV_at W n i j hi hj]
theorem NdAt.congr (h : NdAt w base P p B G n c th vr W) (h1 : ∀ i, i < n → th i = th' i) (h2 : ∀ i, i < n → vr i = vr' i) : NdAt w base P p B G n c th' vr' W := ⟨h.pl, h.pb, h.f0, h.f1, h.ar.congr h1 h2, h.row, h.n1, h.n2, h.n3, h.n4⟩
theorem NdAt.clear (h : NdAt w base P p B G n c th vr W) (i : Nat) (hi : i < n) : ∃ w1, (∀ ty, (Builtin.clear_ #[96] ty #[.slice (some ⟨G, i * 80, none⟩) 16 16]).run Tryd.prog w = .ok (.tuple #[]) w1) ∧ NdAt w1 base P p B G n c th vr (updV W i 0 zs80) ∧ w.grownBy w1 (some G) := by
  have hs := h.cells i 0 hi zs80 (by rw [zs80_len]; omega)
  rw [Nat.add_zero] at hs
  refine ⟨_, fun ty => ?_, hs⟩
  exact run_clear_wide (P := Tryd.prog) w 96 36 ty keyZ Tryd.underlying96 zeroKeyR G (i * 80) 16 16 (by decide) zs80 zero16 (fun j hj => by rw [zs80_len] at hj; rw [h.cell i j hi hj]; rfl) (fun j hj => h.row.frozenAt _) (fun v hv => by
    obtain ⟨x, _, rfl⟩ := List.mem_map.1 hv
    exact zc_one x)
theorem NdAt.copy (h : NdAt w base P p B G n c th vr W) (i : Nat) (hi : i < n) (a : Option Addr) (m c2 : Nat) (xs : List Value) (hm : xs.length = m * 5) (hx : m ≤ 16) (h1 : ∀ v ∈ xs, v.oneCell' = true) (ha : 0 < m → ∃ ad, a = some ad ∧ ∀ j v, xs[j]? = some v → w.cell? (ad.add j) = some v) :
    ∃ w1, (∀ ty, (Builtin.copy_ #[96, 96] ty #[.slice (some ⟨G, i * 80, none⟩) 16 16, .slice a m c2]).run Tryd.prog w = .ok (goInt m) w1) ∧ NdAt w1 base P p B G n c th vr (updV W i 0 xs) ∧ w.grownBy w1 (some G) := by
  by_cases h0 : m = 0
  · subst h0
    obtain rfl : xs = [] := List.length_eq_zero_iff.1 (by omega)
    refine ⟨w, fun ty => run_copy_wide_none (P := Tryd.prog) w 96 96 ty 36 5 _ a 16 16 0 c2 Tryd.underlying96 infoKey5 rfl, ?_, ⟨rfl, rfl, rfl, Nat.le_refl _, fun _ _ _ => rfl⟩⟩
    have e : updV W i 0 [] = W := by funext a b; simp [updV]
    rw [e]
    exact h
  · have hs := h.cells i 0 hi xs (by omega)
    rw [Nat.add_zero] at hs
    obtain ⟨ad, rfl, hsrc⟩ := ha (by omega)
    refine ⟨_, fun ty => ?_, hs⟩
    have hmin : Nat.min m 16 = m := Nat.min_eq_left hx
    have := run_copy_cells_wide (P := Tryd.prog) w 96 96 ty 36 5 G (i * 80) 16 16 ad m c2 xs Tryd.underlying96 infoKey5 (by rw [hmin]; exact hm) hsrc (fun j hj => by rw [h.cell i j hi (by omega)]; rfl) (fun j hj => h.row.frozenAt _) h1
    rw [this, hmin]
end
end Go.Proofs.YtdcdfaeokbdalaaDoor
namespace Go.Proofs.YtdcdfaeokbdalaaDoor
open Go.ChangeShapes Go.WideShapes Go.ChangeAt Go.RowKit
set_option linter.unusedVariables false

/-- Are two keys the same? -/
def sameB (a0 a1 a2 a3 a4 b0 b1 b2 b3 b4 : Int) : Bool := a0 == b0 && (a1 == b1 && (a2 == b2 && (a3 == b3 && a4 == b4)))

theorem samekey_any (a0 a1 a2 a3 a4 b0 b1 b2 b3 b4 : Int) (w : World) :
    Calls Tryd.prog 26 #[.agg #[.int .i64 a0, .int .i64 a1, .int .i64 a2, .int .i64 a3, .int .u32 a4], .agg #[.int .i64 b0, .int .i64 b1, .int .i64 b2, .int .i64 b3, .int .u32 b4]] w
      fun e w' => e = .returned (.bool (sameB a0 a1 a2 a3 a4 b0 b1 b2 b3 b4)) ∧ Below w.heap.size w w' := by
  go_enter Tryd.func26, Tryd.ntmps26
  go_wp2
  all_goals go_ret
  all_goals refine ⟨?_, ((Below.refl _ _).alloc (Nat.le_refl _) _).alloc (by simp) _⟩
  all_goals simp [sameB, *]

/-- What a key is, weakened: kind and rights decide. -/
def Wk (k r : List Int) : Prop :=
  ((k.getD 0 0 = 2 ∨ k.getD 0 0 = 3) ∧ r = [k.getD 0 0, k.getD 1 0, k.getD 2 0, bits BinOp.or IntKind.i64 (k.getD 3 0) 5, k.getD 4 0]) ∨
  ((k.getD 0 0 = 0 ∨ k.getD 0 0 = 1 ∨ k.getD 0 0 = 12 ∨ k.getD 0 0 = 14) ∧ r = [k.getD 0 0, k.getD 1 0, k.getD 2 0, k.getD 3 0, k.getD 4 0]) ∨
  ((¬ k.getD 0 0 = 0 ∧ ¬ k.getD 0 0 = 1 ∧ ¬ k.getD 0 0 = 2 ∧ ¬ k.getD 0 0 = 3 ∧ ¬ k.getD 0 0 = 12 ∧ ¬ k.getD 0 0 = 14) ∧ r = [0, 0, 0, 0, 0])
end Go.Proofs.YtdcdfaeokbdalaaDoor
namespace Go.Proofs.YtdcdfaeokbdalaaDoor
open Go.ChangeShapes Go.WideShapes Go.ChangeAt Go.RowKit
set_option linter.unusedVariables false
/-- The program's own within: two tests, no memory. -/
theorem kwithin_yes (n h : Int) (h1 : 0 ≤ n) (h2 : n ≤ h) (w : World) : Calls Tryd.prog 131 #[.int .i64 n, .int .i64 h] w fun e w' => e = .returned (.bool true) ∧ w = w' := by
  have d1 : decide (n < 0) = false := by rw [decide_eq_false_iff_not]; omega
  have d2 : decide (0 ≤ n) = true := by rw [decide_eq_true_iff]; omega
  have d3 : decide (n ≤ h) = true := by rw [decide_eq_true_iff]; omega
  have d4 : decide (h < n) = false := by rw [decide_eq_false_iff_not]; omega
  go_enter Tryd.func131, Tryd.ntmps131
  go_wp2
  go_ret
  exact ⟨rfl, rfl⟩
theorem kwithin_no1 (n h : Int) (h1 : n < 0) (w : World) : Calls Tryd.prog 131 #[.int .i64 n, .int .i64 h] w fun e w' => e = .returned (.bool false) ∧ w = w' := by
  have d1 : decide (n < 0) = true := by rw [decide_eq_true_iff]; omega
  have d2 : decide (0 ≤ n) = false := by rw [decide_eq_false_iff_not]; omega
  go_enter Tryd.func131, Tryd.ntmps131
  go_wp2
  go_ret
  exact ⟨rfl, rfl⟩
theorem kwithin_no2 (n h : Int) (h1 : 0 ≤ n) (h2 : h < n) (w : World) : Calls Tryd.prog 131 #[.int .i64 n, .int .i64 h] w fun e w' => e = .returned (.bool false) ∧ w = w' := by
  have d1 : decide (n < 0) = false := by rw [decide_eq_false_iff_not]; omega
  have d2 : decide (0 ≤ n) = true := by rw [decide_eq_true_iff]; omega
  have d3 : decide (n ≤ h) = false := by rw [decide_eq_false_iff_not]; omega
  have d4 : decide (h < n) = true := by rw [decide_eq_true_iff]; omega
  go_enter Tryd.func131, Tryd.ntmps131
  go_wp2
  go_ret
  exact ⟨rfl, rfl⟩
theorem kmay_yes (k : Int) (h : k = 2 ∨ k = 3) (w : World) : Calls Tryd.prog 133 #[.int .i64 k] w fun e w' => e = .returned (.bool true) ∧ w = w' := by
  rcases h with rfl | rfl
  all_goals
    go_enter Tryd.func133, Tryd.ntmps133
    go_wp2
    go_ret
    exact ⟨rfl, rfl⟩
theorem kmay_no (k : Int) (h2 : ¬ k = 2) (h3 : ¬ k = 3) (w : World) : Calls Tryd.prog 133 #[.int .i64 k] w fun e w' => e = .returned (.bool false) ∧ w = w' := by
  have b2 : (k == 2) = false := by simp [h2]
  have b3 : (k == 3) = false := by simp [h3]
  go_enter Tryd.func133, Tryd.ntmps133
  go_wp2
  go_ret
  exact ⟨rfl, rfl⟩
def placesOf (k : Int) : Int := if k = 2 ∨ k = 3 then 256 else if k = 8 then 64 else if k = 4 ∨ k = 5 ∨ k = 6 ∨ k = 7 ∨ k = 9 ∨ k = 10 then 32 else 0
theorem kplaces_any (k : Int) (w : World) : Calls Tryd.prog 132 #[.int .i64 k] w fun e w' => e = .returned (.int .i64 (placesOf k)) ∧ w = w' := by
  by_cases h : k = 2 ∨ k = 3 ∨ k = 4 ∨ k = 5 ∨ k = 6 ∨ k = 7 ∨ k = 8 ∨ k = 9 ∨ k = 10
  · rcases h with rfl | rfl | rfl | rfl | rfl | rfl | rfl | rfl | rfl
    all_goals
      go_enter Tryd.func132, Tryd.ntmps132
      go_wp2
      go_ret
      exact ⟨rfl, rfl⟩
  · have h2 : ¬ k = 2 := by omega
    have h3 : ¬ k = 3 := by omega
    have h4 : ¬ k = 4 := by omega
    have h5 : ¬ k = 5 := by omega
    have h6 : ¬ k = 6 := by omega
    have h7 : ¬ k = 7 := by omega
    have h8 : ¬ k = 8 := by omega
    have h9 : ¬ k = 9 := by omega
    have h10 : ¬ k = 10 := by omega
    have e : placesOf k = 0 := by simp [placesOf, h2, h3, h4, h5, h6, h7, h8, h9, h10]
    rw [e]
    clear h e
    go_enter Tryd.func132, Tryd.ntmps132
    go_wp2
    go_ret
    exact ⟨rfl, rfl⟩
def dataMost (k : Int) : Int := if k = 1 then 4294967295 else if k = 2 then 4 else if k = 5 ∨ k = 6 then 536870911 else 0
theorem kmaxdata_any (k : Int) (w : World) : Calls Tryd.prog 134 #[.int .i64 k] w fun e w' => e = .returned (.int .u32 (dataMost k)) ∧ w = w' := by
  by_cases h : k = 1 ∨ k = 2 ∨ k = 5 ∨ k = 6
  · rcases h with rfl | rfl | rfl | rfl
    all_goals
      go_enter Tryd.func134, Tryd.ntmps134
      go_wp2
      go_ret
      exact ⟨rfl, rfl⟩
  · have h1 : ¬ k = 1 := by omega
    have h2 : ¬ k = 2 := by omega
    have h5 : ¬ k = 5 := by omega
    have h6 : ¬ k = 6 := by omega
    have e : dataMost k = 0 := by simp [dataMost, h1, h2, h5, h6]
    rw [e]
    clear h e
    go_enter Tryd.func134, Tryd.ntmps134
    go_wp2
    go_ret
    exact ⟨rfl, rfl⟩
end Go.Proofs.YtdcdfaeokbdalaaDoor
namespace Go.Proofs.YtdcdfaeokbdalaaDoor
open Go.ChangeShapes Go.WideShapes Go.ChangeAt Go.RowKit
set_option linter.unusedVariables false
theorem kplaces_is (k m : Int) (h : placesOf k = m) (w : World) : Calls Tryd.prog 132 #[.int .i64 k] w fun e w' => e = .returned (.int .i64 m) ∧ w = w' := by
  rw [← h]; exact kplaces_any k w
theorem kmaxdata_is (k m : Int) (h : dataMost k = m) (w : World) : Calls Tryd.prog 134 #[.int .i64 k] w fun e w' => e = .returned (.int .u32 m) ∧ w = w' := by
  rw [← h]; exact kmaxdata_any k w
end Go.Proofs.YtdcdfaeokbdalaaDoor
namespace Go.Proofs.YtdcdfaeokbdalaaDoor
open Go.ChangeShapes Go.WideShapes Go.ChangeAt Go.RowKit
set_option linter.unusedVariables false
theorem kwithin_in (n h : Int) (hn : Hid (0 ≤ n ∧ n ≤ h)) (w : World) : Calls Tryd.prog 131 #[.int .i64 n, .int .i64 h] w fun e w' => e = .returned (.bool true) ∧ w = w' := kwithin_yes n h hn.out.1 hn.out.2 w
end Go.Proofs.YtdcdfaeokbdalaaDoor
namespace Go.Proofs.YtdcdfaeokbdalaaDoor
open Go.ChangeShapes Go.WideShapes Go.ChangeAt Go.RowKit
set_option linter.unusedVariables false
theorem kwithin_out (n h : Int) (hn : Hid (¬ (0 ≤ n ∧ n ≤ h))) (w : World) : Calls Tryd.prog 131 #[.int .i64 n, .int .i64 h] w fun e w' => e = .returned (.bool false) ∧ w = w' := by
  by_cases h1 : n < 0
  · exact kwithin_no1 n h h1 w
  · have h2 : h < n := by have := hn.out; omega
    exact kwithin_no2 n h (by omega) h2 w
/-- No kind: what lies in the variable ErrShape. -/
theorem kvalid_shape (k0 k1 k2 k3 k4 : Int) (v : Value) (hk : Hid (¬ (0 ≤ k0 ∧ k0 ≤ 14))) (w : World) (hl : 5 < w.heap.size) (hv : w.cell? ⟨5, 0, none⟩ = some v) :
    Calls Tryd.prog 101 #[(Value.agg #[.int .i64 k0, .int .i64 k1, .int .i64 k2, .int .i64 k3, .int .u32 k4])] w fun e w' => e = .returned v ∧ Below w.heap.size w w' := by
  have n0 : (w.alloc (.cells #[.int .i64 k0, .int .i64 k1, .int .i64 k2, .int .i64 k3, .int .u32 k4] 36)).cell? ⟨5, 0, none⟩ = some v := (World.cell?_alloc_lt w _ ⟨5, 0, none⟩ hl).trans hv
  go_enter Tryd.func101, Tryd.ntmps101
  go_wp2_with (first
    | (go_at_call 131; (with_reducible refine (kwithin_out _ _ hk _).mono ?_); rintro e w1 ⟨rfl, rfl⟩))
  go_ret
  exact ⟨rfl, (Below.refl _ _).alloc (Nat.le_refl _) _⟩
end Go.Proofs.YtdcdfaeokbdalaaDoor
namespace Go.Proofs.YtdcdfaeokbdalaaDoor
open Go.ChangeShapes Go.WideShapes Go.ChangeAt Go.RowKit
set_option linter.unusedVariables false
/-- Is n from 0 to h? -/
def wB (n h : Int) : Bool := decide (0 ≤ n ∧ n ≤ h)
theorem kwithin_b (n h : Int) (b : Bool) (hb : Hid (wB n h = b)) (w : World) : Calls Tryd.prog 131 #[.int .i64 n, .int .i64 h] w fun e w' => e = .returned (.bool b) ∧ w = w' := by
  have hb := hb.out
  cases b with
  | true => exact kwithin_in n h (Lib.hid (by simpa [wB] using hb)) w
  | false => exact kwithin_out n h (Lib.hid (by simpa [wB] using hb)) w
theorem kquiet_left {P : Program} {f : FuncId} {args : Array Value} {w : World} {n : Nat} {v : Value}
    (h : Calls P f args (w.drewN n) fun e w' => e = .returned v ∧ w.drewN n = w') : Calls P f args (w.drewN n) fun e w'' => e = .returned v ∧ ∃ m, w'' = w.drewN m :=
  h.mono fun _ _ ⟨he, hm⟩ => ⟨he, n, hm.symm⟩
theorem kmay_b (k : Int) (b : Bool) (hb : Hid ((k == 2 || k == 3) = b)) (w : World) : Calls Tryd.prog 133 #[.int .i64 k] w fun e w' => e = .returned (.bool b) ∧ w = w' := by
  have hb := hb.out
  cases b with
  | true => exact kmay_yes k (by simpa using hb) w
  | false => simp at hb; exact kmay_no k hb.1 hb.2 w
set_option maxRecDepth 100000 in
set_option maxHeartbeats 400000 in
theorem kway_m_ok (k0 k1 k2 k3 k4 : Int) (P d : Int) (w : World) (h0 : 0 < P) (h9 : P ≤ 256) (hk : Hid (wB k0 14 = true)) (hp : Hid (placesOf k0 = P)) (hm : Hid ((k0 == 2 || k0 == 3) = true)) (w1 : Hid (wB k1 (P - 1) = true)) (w2 : Hid (wB k2 (1048575) = true)) (w3 : Hid (wB k3 (7) = true)) (hd : Hid (dataMost k0 = d)) (h4 : k4 ≤ d) :
    Calls Tryd.prog 101 #[(Value.agg #[.int .i64 k0, .int .i64 k1, .int .i64 k2, .int .i64 k3, .int .u32 k4])] w fun e w' => e = .returned .nilIface ∧ Below w.heap.size w w' := by
  have d4 : decide (d < k4) = false := by simp; omega
  go_enter Tryd.func101, Tryd.ntmps101
  go_wp2_with (first
    | (go_at_call 131; (with_reducible refine (kwithin_b _ _ _ hk _).mono ?_); rintro e w1 ⟨rfl, rfl⟩)
    | (go_at_call 132; refine (kplaces_is k0 _ hp.out _).mono ?_; rintro e w1 ⟨rfl, rfl⟩)
    | (go_at_call 133; refine (kmay_b k0 _ hm _).mono ?_; rintro e w1 ⟨rfl, rfl⟩))
  go_quiet ((first | (go_at_call 131; with_reducible exact kquiet_left (kwithin_b _ _ _ w1 _)) | (go_at_call 131; with_reducible exact kquiet_left (kwithin_b _ _ _ w2 _)) | (go_at_call 131; with_reducible exact kquiet_left (kwithin_b _ _ _ w3 _)) | (go_at_call 134; with_reducible exact kquiet_left (kmaxdata_is k0 _ hd.out _))))
  go_wp2
  go_ret
  exact ⟨rfl, below_drewN ((Below.refl _ _).alloc (Nat.le_refl _) _) _⟩
set_option maxRecDepth 100000 in
set_option maxHeartbeats 400000 in
theorem kway_m_b1 (k0 k1 k2 k3 k4 : Int) (P : Int) (w : World) (h0 : 0 < P) (h9 : P ≤ 256) (v : Value) (hl : 1 < w.heap.size) (hv : w.cell? ⟨1, 0, none⟩ = some v) (hk : Hid (wB k0 14 = true)) (hp : Hid (placesOf k0 = P)) (hm : Hid ((k0 == 2 || k0 == 3) = true)) (w1 : Hid (wB k1 (P - 1) = false)) :
    Calls Tryd.prog 101 #[(Value.agg #[.int .i64 k0, .int .i64 k1, .int .i64 k2, .int .i64 k3, .int .u32 k4])] w fun e w' => e = .returned v ∧ Below w.heap.size w w' := by
  have n0 : (w.alloc (.cells #[.int .i64 k0, .int .i64 k1, .int .i64 k2, .int .i64 k3, .int .u32 k4] 36)).cell? ⟨1, 0, none⟩ = some v := (World.cell?_alloc_lt w _ ⟨1, 0, none⟩ hl).trans hv
  go_enter Tryd.func101, Tryd.ntmps101
  go_wp2_with (first
    | (go_at_call 131; (with_reducible refine (kwithin_b _ _ _ hk _).mono ?_); rintro e w1 ⟨rfl, rfl⟩)
    | (go_at_call 132; refine (kplaces_is k0 _ hp.out _).mono ?_; rintro e w1 ⟨rfl, rfl⟩)
    | (go_at_call 133; refine (kmay_b k0 _ hm _).mono ?_; rintro e w1 ⟨rfl, rfl⟩))
  go_quiet ((first | (go_at_call 131; with_reducible exact kquiet_left (kwithin_b _ _ _ w1 _))))
  go_wp2
  go_ret
  exact ⟨rfl, below_drewN ((Below.refl _ _).alloc (Nat.le_refl _) _) _⟩
set_option maxRecDepth 100000 in
set_option maxHeartbeats 400000 in
theorem kway_m_b2 (k0 k1 k2 k3 k4 : Int) (P : Int) (w : World) (h0 : 0 < P) (h9 : P ≤ 256) (v : Value) (hl : 1 < w.heap.size) (hv : w.cell? ⟨1, 0, none⟩ = some v) (hk : Hid (wB k0 14 = true)) (hp : Hid (placesOf k0 = P)) (hm : Hid ((k0 == 2 || k0 == 3) = true)) (w1 : Hid (wB k1 (P - 1) = true)) (w2 : Hid (wB k2 (1048575) = false)) :
    Calls Tryd.prog 101 #[(Value.agg #[.int .i64 k0, .int .i64 k1, .int .i64 k2, .int .i64 k3, .int .u32 k4])] w fun e w' => e = .returned v ∧ Below w.heap.size w w' := by
  have n0 : (w.alloc (.cells #[.int .i64 k0, .int .i64 k1, .int .i64 k2, .int .i64 k3, .int .u32 k4] 36)).cell? ⟨1, 0, none⟩ = some v := (World.cell?_alloc_lt w _ ⟨1, 0, none⟩ hl).trans hv
  go_enter Tryd.func101, Tryd.ntmps101
  go_wp2_with (first
    | (go_at_call 131; (with_reducible refine (kwithin_b _ _ _ hk _).mono ?_); rintro e w1 ⟨rfl, rfl⟩)
    | (go_at_call 132; refine (kplaces_is k0 _ hp.out _).mono ?_; rintro e w1 ⟨rfl, rfl⟩)
    | (go_at_call 133; refine (kmay_b k0 _ hm _).mono ?_; rintro e w1 ⟨rfl, rfl⟩))
  go_quiet ((first | (go_at_call 131; with_reducible exact kquiet_left (kwithin_b _ _ _ w1 _)) | (go_at_call 131; with_reducible exact kquiet_left (kwithin_b _ _ _ w2 _))))
  go_wp2
  go_ret
  exact ⟨rfl, below_drewN ((Below.refl _ _).alloc (Nat.le_refl _) _) _⟩
set_option maxRecDepth 100000 in
set_option maxHeartbeats 400000 in
theorem kway_m_b3 (k0 k1 k2 k3 k4 : Int) (P : Int) (w : World) (h0 : 0 < P) (h9 : P ≤ 256) (v : Value) (hl : 1 < w.heap.size) (hv : w.cell? ⟨1, 0, none⟩ = some v) (hk : Hid (wB k0 14 = true)) (hp : Hid (placesOf k0 = P)) (hm : Hid ((k0 == 2 || k0 == 3) = true)) (w1 : Hid (wB k1 (P - 1) = true)) (w2 : Hid (wB k2 (1048575) = true)) (w3 : Hid (wB k3 (7) = false)) :
    Calls Tryd.prog 101 #[(Value.agg #[.int .i64 k0, .int .i64 k1, .int .i64 k2, .int .i64 k3, .int .u32 k4])] w fun e w' => e = .returned v ∧ Below w.heap.size w w' := by
  have n0 : (w.alloc (.cells #[.int .i64 k0, .int .i64 k1, .int .i64 k2, .int .i64 k3, .int .u32 k4] 36)).cell? ⟨1, 0, none⟩ = some v := (World.cell?_alloc_lt w _ ⟨1, 0, none⟩ hl).trans hv
  go_enter Tryd.func101, Tryd.ntmps101
  go_wp2_with (first
    | (go_at_call 131; (with_reducible refine (kwithin_b _ _ _ hk _).mono ?_); rintro e w1 ⟨rfl, rfl⟩)
    | (go_at_call 132; refine (kplaces_is k0 _ hp.out _).mono ?_; rintro e w1 ⟨rfl, rfl⟩)
    | (go_at_call 133; refine (kmay_b k0 _ hm _).mono ?_; rintro e w1 ⟨rfl, rfl⟩))
  go_quiet ((first | (go_at_call 131; with_reducible exact kquiet_left (kwithin_b _ _ _ w1 _)) | (go_at_call 131; with_reducible exact kquiet_left (kwithin_b _ _ _ w2 _)) | (go_at_call 131; with_reducible exact kquiet_left (kwithin_b _ _ _ w3 _))))
  go_wp2
  go_ret
  exact ⟨rfl, below_drewN ((Below.refl _ _).alloc (Nat.le_refl _) _) _⟩
set_option maxRecDepth 100000 in
set_option maxHeartbeats 400000 in
theorem kway_m_b4 (k0 k1 k2 k3 k4 : Int) (P d : Int) (w : World) (h0 : 0 < P) (h9 : P ≤ 256) (v : Value) (hl : 1 < w.heap.size) (hv : w.cell? ⟨1, 0, none⟩ = some v) (hk : Hid (wB k0 14 = true)) (hp : Hid (placesOf k0 = P)) (hm : Hid ((k0 == 2 || k0 == 3) = true)) (w1 : Hid (wB k1 (P - 1) = true)) (w2 : Hid (wB k2 (1048575) = true)) (w3 : Hid (wB k3 (7) = true)) (hd : Hid (dataMost k0 = d)) (h4 : d < k4) :
    Calls Tryd.prog 101 #[(Value.agg #[.int .i64 k0, .int .i64 k1, .int .i64 k2, .int .i64 k3, .int .u32 k4])] w fun e w' => e = .returned v ∧ Below w.heap.size w w' := by
  have n0 : (w.alloc (.cells #[.int .i64 k0, .int .i64 k1, .int .i64 k2, .int .i64 k3, .int .u32 k4] 36)).cell? ⟨1, 0, none⟩ = some v := (World.cell?_alloc_lt w _ ⟨1, 0, none⟩ hl).trans hv
  have d4 : decide (d < k4) = true := by simp; omega
  go_enter Tryd.func101, Tryd.ntmps101
  go_wp2_with (first
    | (go_at_call 131; (with_reducible refine (kwithin_b _ _ _ hk _).mono ?_); rintro e w1 ⟨rfl, rfl⟩)
    | (go_at_call 132; refine (kplaces_is k0 _ hp.out _).mono ?_; rintro e w1 ⟨rfl, rfl⟩)
    | (go_at_call 133; refine (kmay_b k0 _ hm _).mono ?_; rintro e w1 ⟨rfl, rfl⟩))
  go_quiet ((first | (go_at_call 131; with_reducible exact kquiet_left (kwithin_b _ _ _ w1 _)) | (go_at_call 131; with_reducible exact kquiet_left (kwithin_b _ _ _ w2 _)) | (go_at_call 131; with_reducible exact kquiet_left (kwithin_b _ _ _ w3 _)) | (go_at_call 134; with_reducible exact kquiet_left (kmaxdata_is k0 _ hd.out _))))
  go_wp2
  go_ret
  exact ⟨rfl, below_drewN ((Below.refl _ _).alloc (Nat.le_refl _) _) _⟩
set_option maxRecDepth 100000 in
set_option maxHeartbeats 400000 in
theorem kway_p_ok (k0 k1 k2 k3 k4 : Int) (P d : Int) (w : World) (h0 : 0 < P) (h9 : P ≤ 256) (hk : Hid (wB k0 14 = true)) (hp : Hid (placesOf k0 = P)) (hm : Hid ((k0 == 2 || k0 == 3) = false)) (w1 : Hid (wB k1 (P - 1) = true)) (w2 : Hid (wB k2 (1048575) = true)) (w3 : Hid (wB k3 (0) = true)) (hd : Hid (dataMost k0 = d)) (h4 : k4 ≤ d) :
    Calls Tryd.prog 101 #[(Value.agg #[.int .i64 k0, .int .i64 k1, .int .i64 k2, .int .i64 k3, .int .u32 k4])] w fun e w' => e = .returned .nilIface ∧ Below w.heap.size w w' := by
  have d4 : decide (d < k4) = false := by simp; omega
  go_enter Tryd.func101, Tryd.ntmps101
  go_wp2_with (first
    | (go_at_call 131; (with_reducible refine (kwithin_b _ _ _ hk _).mono ?_); rintro e w1 ⟨rfl, rfl⟩)
    | (go_at_call 132; refine (kplaces_is k0 _ hp.out _).mono ?_; rintro e w1 ⟨rfl, rfl⟩)
    | (go_at_call 133; refine (kmay_b k0 _ hm _).mono ?_; rintro e w1 ⟨rfl, rfl⟩))
  go_quiet ((first | (go_at_call 131; with_reducible exact kquiet_left (kwithin_b _ _ _ w1 _)) | (go_at_call 131; with_reducible exact kquiet_left (kwithin_b _ _ _ w2 _)) | (go_at_call 131; with_reducible exact kquiet_left (kwithin_b _ _ _ w3 _)) | (go_at_call 134; with_reducible exact kquiet_left (kmaxdata_is k0 _ hd.out _))))
  go_wp2
  go_ret
  exact ⟨rfl, below_drewN ((Below.refl _ _).alloc (Nat.le_refl _) _) _⟩
set_option maxRecDepth 100000 in
set_option maxHeartbeats 400000 in
theorem kway_p_b1 (k0 k1 k2 k3 k4 : Int) (P : Int) (w : World) (h0 : 0 < P) (h9 : P ≤ 256) (v : Value) (hl : 1 < w.heap.size) (hv : w.cell? ⟨1, 0, none⟩ = some v) (hk : Hid (wB k0 14 = true)) (hp : Hid (placesOf k0 = P)) (hm : Hid ((k0 == 2 || k0 == 3) = false)) (w1 : Hid (wB k1 (P - 1) = false)) :
    Calls Tryd.prog 101 #[(Value.agg #[.int .i64 k0, .int .i64 k1, .int .i64 k2, .int .i64 k3, .int .u32 k4])] w fun e w' => e = .returned v ∧ Below w.heap.size w w' := by
  have n0 : (w.alloc (.cells #[.int .i64 k0, .int .i64 k1, .int .i64 k2, .int .i64 k3, .int .u32 k4] 36)).cell? ⟨1, 0, none⟩ = some v := (World.cell?_alloc_lt w _ ⟨1, 0, none⟩ hl).trans hv
  go_enter Tryd.func101, Tryd.ntmps101
  go_wp2_with (first
    | (go_at_call 131; (with_reducible refine (kwithin_b _ _ _ hk _).mono ?_); rintro e w1 ⟨rfl, rfl⟩)
    | (go_at_call 132; refine (kplaces_is k0 _ hp.out _).mono ?_; rintro e w1 ⟨rfl, rfl⟩)
    | (go_at_call 133; refine (kmay_b k0 _ hm _).mono ?_; rintro e w1 ⟨rfl, rfl⟩))
  go_quiet ((first | (go_at_call 131; with_reducible exact kquiet_left (kwithin_b _ _ _ w1 _))))
  go_wp2
  go_ret
  exact ⟨rfl, below_drewN ((Below.refl _ _).alloc (Nat.le_refl _) _) _⟩
set_option maxRecDepth 100000 in
set_option maxHeartbeats 400000 in
theorem kway_p_b2 (k0 k1 k2 k3 k4 : Int) (P : Int) (w : World) (h0 : 0 < P) (h9 : P ≤ 256) (v : Value) (hl : 1 < w.heap.size) (hv : w.cell? ⟨1, 0, none⟩ = some v) (hk : Hid (wB k0 14 = true)) (hp : Hid (placesOf k0 = P)) (hm : Hid ((k0 == 2 || k0 == 3) = false)) (w1 : Hid (wB k1 (P - 1) = true)) (w2 : Hid (wB k2 (1048575) = false)) :
    Calls Tryd.prog 101 #[(Value.agg #[.int .i64 k0, .int .i64 k1, .int .i64 k2, .int .i64 k3, .int .u32 k4])] w fun e w' => e = .returned v ∧ Below w.heap.size w w' := by
  have n0 : (w.alloc (.cells #[.int .i64 k0, .int .i64 k1, .int .i64 k2, .int .i64 k3, .int .u32 k4] 36)).cell? ⟨1, 0, none⟩ = some v := (World.cell?_alloc_lt w _ ⟨1, 0, none⟩ hl).trans hv
  go_enter Tryd.func101, Tryd.ntmps101
  go_wp2_with (first
    | (go_at_call 131; (with_reducible refine (kwithin_b _ _ _ hk _).mono ?_); rintro e w1 ⟨rfl, rfl⟩)
    | (go_at_call 132; refine (kplaces_is k0 _ hp.out _).mono ?_; rintro e w1 ⟨rfl, rfl⟩)
    | (go_at_call 133; refine (kmay_b k0 _ hm _).mono ?_; rintro e w1 ⟨rfl, rfl⟩))
  go_quiet ((first | (go_at_call 131; with_reducible exact kquiet_left (kwithin_b _ _ _ w1 _)) | (go_at_call 131; with_reducible exact kquiet_left (kwithin_b _ _ _ w2 _))))
  go_wp2
  go_ret
  exact ⟨rfl, below_drewN ((Below.refl _ _).alloc (Nat.le_refl _) _) _⟩
set_option maxRecDepth 100000 in
set_option maxHeartbeats 400000 in
theorem kway_p_b3 (k0 k1 k2 k3 k4 : Int) (P : Int) (w : World) (h0 : 0 < P) (h9 : P ≤ 256) (v : Value) (hl : 1 < w.heap.size) (hv : w.cell? ⟨1, 0, none⟩ = some v) (hk : Hid (wB k0 14 = true)) (hp : Hid (placesOf k0 = P)) (hm : Hid ((k0 == 2 || k0 == 3) = false)) (w1 : Hid (wB k1 (P - 1) = true)) (w2 : Hid (wB k2 (1048575) = true)) (w3 : Hid (wB k3 (0) = false)) :
    Calls Tryd.prog 101 #[(Value.agg #[.int .i64 k0, .int .i64 k1, .int .i64 k2, .int .i64 k3, .int .u32 k4])] w fun e w' => e = .returned v ∧ Below w.heap.size w w' := by
  have n0 : (w.alloc (.cells #[.int .i64 k0, .int .i64 k1, .int .i64 k2, .int .i64 k3, .int .u32 k4] 36)).cell? ⟨1, 0, none⟩ = some v := (World.cell?_alloc_lt w _ ⟨1, 0, none⟩ hl).trans hv
  go_enter Tryd.func101, Tryd.ntmps101
  go_wp2_with (first
    | (go_at_call 131; (with_reducible refine (kwithin_b _ _ _ hk _).mono ?_); rintro e w1 ⟨rfl, rfl⟩)
    | (go_at_call 132; refine (kplaces_is k0 _ hp.out _).mono ?_; rintro e w1 ⟨rfl, rfl⟩)
    | (go_at_call 133; refine (kmay_b k0 _ hm _).mono ?_; rintro e w1 ⟨rfl, rfl⟩))
  go_quiet ((first | (go_at_call 131; with_reducible exact kquiet_left (kwithin_b _ _ _ w1 _)) | (go_at_call 131; with_reducible exact kquiet_left (kwithin_b _ _ _ w2 _)) | (go_at_call 131; with_reducible exact kquiet_left (kwithin_b _ _ _ w3 _))))
  go_wp2
  go_ret
  exact ⟨rfl, below_drewN ((Below.refl _ _).alloc (Nat.le_refl _) _) _⟩
set_option maxRecDepth 100000 in
set_option maxHeartbeats 400000 in
theorem kway_p_b4 (k0 k1 k2 k3 k4 : Int) (P d : Int) (w : World) (h0 : 0 < P) (h9 : P ≤ 256) (v : Value) (hl : 1 < w.heap.size) (hv : w.cell? ⟨1, 0, none⟩ = some v) (hk : Hid (wB k0 14 = true)) (hp : Hid (placesOf k0 = P)) (hm : Hid ((k0 == 2 || k0 == 3) = false)) (w1 : Hid (wB k1 (P - 1) = true)) (w2 : Hid (wB k2 (1048575) = true)) (w3 : Hid (wB k3 (0) = true)) (hd : Hid (dataMost k0 = d)) (h4 : d < k4) :
    Calls Tryd.prog 101 #[(Value.agg #[.int .i64 k0, .int .i64 k1, .int .i64 k2, .int .i64 k3, .int .u32 k4])] w fun e w' => e = .returned v ∧ Below w.heap.size w w' := by
  have n0 : (w.alloc (.cells #[.int .i64 k0, .int .i64 k1, .int .i64 k2, .int .i64 k3, .int .u32 k4] 36)).cell? ⟨1, 0, none⟩ = some v := (World.cell?_alloc_lt w _ ⟨1, 0, none⟩ hl).trans hv
  have d4 : decide (d < k4) = true := by simp; omega
  go_enter Tryd.func101, Tryd.ntmps101
  go_wp2_with (first
    | (go_at_call 131; (with_reducible refine (kwithin_b _ _ _ hk _).mono ?_); rintro e w1 ⟨rfl, rfl⟩)
    | (go_at_call 132; refine (kplaces_is k0 _ hp.out _).mono ?_; rintro e w1 ⟨rfl, rfl⟩)
    | (go_at_call 133; refine (kmay_b k0 _ hm _).mono ?_; rintro e w1 ⟨rfl, rfl⟩))
  go_quiet ((first | (go_at_call 131; with_reducible exact kquiet_left (kwithin_b _ _ _ w1 _)) | (go_at_call 131; with_reducible exact kquiet_left (kwithin_b _ _ _ w2 _)) | (go_at_call 131; with_reducible exact kquiet_left (kwithin_b _ _ _ w3 _)) | (go_at_call 134; with_reducible exact kquiet_left (kmaxdata_is k0 _ hd.out _))))
  go_wp2
  go_ret
  exact ⟨rfl, below_drewN ((Below.refl _ _).alloc (Nat.le_refl _) _) _⟩
set_option maxRecDepth 100000 in
set_option maxHeartbeats 400000 in
theorem kway_n_ok (k0 k1 k2 k3 k4 : Int) (d : Int) (w : World) (hk : Hid (wB k0 14 = true)) (hp : Hid (placesOf k0 = 0)) (hm : Hid ((k0 == 2 || k0 == 3) = false)) (w1 : Hid (wB k1 (0) = true)) (w2 : Hid (wB k2 (0) = true)) (w3 : Hid (wB k3 (0) = true)) (hd : Hid (dataMost k0 = d)) (h4 : k4 ≤ d) :
    Calls Tryd.prog 101 #[(Value.agg #[.int .i64 k0, .int .i64 k1, .int .i64 k2, .int .i64 k3, .int .u32 k4])] w fun e w' => e = .returned .nilIface ∧ Below w.heap.size w w' := by
  have d4 : decide (d < k4) = false := by simp; omega
  go_enter Tryd.func101, Tryd.ntmps101
  go_wp2_with (first
    | (go_at_call 131; (with_reducible refine (kwithin_b _ _ _ hk _).mono ?_); rintro e w1 ⟨rfl, rfl⟩)
    | (go_at_call 132; refine (kplaces_is k0 _ hp.out _).mono ?_; rintro e w1 ⟨rfl, rfl⟩)
    | (go_at_call 133; refine (kmay_b k0 _ hm _).mono ?_; rintro e w1 ⟨rfl, rfl⟩))
  go_quiet ((first | (go_at_call 131; with_reducible exact kquiet_left (kwithin_b _ _ _ w1 _)) | (go_at_call 131; with_reducible exact kquiet_left (kwithin_b _ _ _ w2 _)) | (go_at_call 131; with_reducible exact kquiet_left (kwithin_b _ _ _ w3 _)) | (go_at_call 134; with_reducible exact kquiet_left (kmaxdata_is k0 _ hd.out _))))
  go_wp2
  go_ret
  exact ⟨rfl, below_drewN ((Below.refl _ _).alloc (Nat.le_refl _) _) _⟩
set_option maxRecDepth 100000 in
set_option maxHeartbeats 400000 in
theorem kway_n_b1 (k0 k1 k2 k3 k4 : Int) (w : World) (v : Value) (hl : 1 < w.heap.size) (hv : w.cell? ⟨1, 0, none⟩ = some v) (hk : Hid (wB k0 14 = true)) (hp : Hid (placesOf k0 = 0)) (hm : Hid ((k0 == 2 || k0 == 3) = false)) (w1 : Hid (wB k1 (0) = false)) :
    Calls Tryd.prog 101 #[(Value.agg #[.int .i64 k0, .int .i64 k1, .int .i64 k2, .int .i64 k3, .int .u32 k4])] w fun e w' => e = .returned v ∧ Below w.heap.size w w' := by
  have n0 : (w.alloc (.cells #[.int .i64 k0, .int .i64 k1, .int .i64 k2, .int .i64 k3, .int .u32 k4] 36)).cell? ⟨1, 0, none⟩ = some v := (World.cell?_alloc_lt w _ ⟨1, 0, none⟩ hl).trans hv
  go_enter Tryd.func101, Tryd.ntmps101
  go_wp2_with (first
    | (go_at_call 131; (with_reducible refine (kwithin_b _ _ _ hk _).mono ?_); rintro e w1 ⟨rfl, rfl⟩)
    | (go_at_call 132; refine (kplaces_is k0 _ hp.out _).mono ?_; rintro e w1 ⟨rfl, rfl⟩)
    | (go_at_call 133; refine (kmay_b k0 _ hm _).mono ?_; rintro e w1 ⟨rfl, rfl⟩))
  go_quiet ((first | (go_at_call 131; with_reducible exact kquiet_left (kwithin_b _ _ _ w1 _))))
  go_wp2
  go_ret
  exact ⟨rfl, below_drewN ((Below.refl _ _).alloc (Nat.le_refl _) _) _⟩
set_option maxRecDepth 100000 in
set_option maxHeartbeats 400000 in
theorem kway_n_b2 (k0 k1 k2 k3 k4 : Int) (w : World) (v : Value) (hl : 1 < w.heap.size) (hv : w.cell? ⟨1, 0, none⟩ = some v) (hk : Hid (wB k0 14 = true)) (hp : Hid (placesOf k0 = 0)) (hm : Hid ((k0 == 2 || k0 == 3) = false)) (w1 : Hid (wB k1 (0) = true)) (w2 : Hid (wB k2 (0) = false)) :
    Calls Tryd.prog 101 #[(Value.agg #[.int .i64 k0, .int .i64 k1, .int .i64 k2, .int .i64 k3, .int .u32 k4])] w fun e w' => e = .returned v ∧ Below w.heap.size w w' := by
  have n0 : (w.alloc (.cells #[.int .i64 k0, .int .i64 k1, .int .i64 k2, .int .i64 k3, .int .u32 k4] 36)).cell? ⟨1, 0, none⟩ = some v := (World.cell?_alloc_lt w _ ⟨1, 0, none⟩ hl).trans hv
  go_enter Tryd.func101, Tryd.ntmps101
  go_wp2_with (first
    | (go_at_call 131; (with_reducible refine (kwithin_b _ _ _ hk _).mono ?_); rintro e w1 ⟨rfl, rfl⟩)
    | (go_at_call 132; refine (kplaces_is k0 _ hp.out _).mono ?_; rintro e w1 ⟨rfl, rfl⟩)
    | (go_at_call 133; refine (kmay_b k0 _ hm _).mono ?_; rintro e w1 ⟨rfl, rfl⟩))
  go_quiet ((first | (go_at_call 131; with_reducible exact kquiet_left (kwithin_b _ _ _ w1 _)) | (go_at_call 131; with_reducible exact kquiet_left (kwithin_b _ _ _ w2 _))))
  go_wp2
  go_ret
  exact ⟨rfl, below_drewN ((Below.refl _ _).alloc (Nat.le_refl _) _) _⟩
set_option maxRecDepth 100000 in
set_option maxHeartbeats 400000 in
theorem kway_n_b3 (k0 k1 k2 k3 k4 : Int) (w : World) (v : Value) (hl : 1 < w.heap.size) (hv : w.cell? ⟨1, 0, none⟩ = some v) (hk : Hid (wB k0 14 = true)) (hp : Hid (placesOf k0 = 0)) (hm : Hid ((k0 == 2 || k0 == 3) = false)) (w1 : Hid (wB k1 (0) = true)) (w2 : Hid (wB k2 (0) = true)) (w3 : Hid (wB k3 (0) = false)) :
    Calls Tryd.prog 101 #[(Value.agg #[.int .i64 k0, .int .i64 k1, .int .i64 k2, .int .i64 k3, .int .u32 k4])] w fun e w' => e = .returned v ∧ Below w.heap.size w w' := by
  have n0 : (w.alloc (.cells #[.int .i64 k0, .int .i64 k1, .int .i64 k2, .int .i64 k3, .int .u32 k4] 36)).cell? ⟨1, 0, none⟩ = some v := (World.cell?_alloc_lt w _ ⟨1, 0, none⟩ hl).trans hv
  go_enter Tryd.func101, Tryd.ntmps101
  go_wp2_with (first
    | (go_at_call 131; (with_reducible refine (kwithin_b _ _ _ hk _).mono ?_); rintro e w1 ⟨rfl, rfl⟩)
    | (go_at_call 132; refine (kplaces_is k0 _ hp.out _).mono ?_; rintro e w1 ⟨rfl, rfl⟩)
    | (go_at_call 133; refine (kmay_b k0 _ hm _).mono ?_; rintro e w1 ⟨rfl, rfl⟩))
  go_quiet ((first | (go_at_call 131; with_reducible exact kquiet_left (kwithin_b _ _ _ w1 _)) | (go_at_call 131; with_reducible exact kquiet_left (kwithin_b _ _ _ w2 _)) | (go_at_call 131; with_reducible exact kquiet_left (kwithin_b _ _ _ w3 _))))
  go_wp2
  go_ret
  exact ⟨rfl, below_drewN ((Below.refl _ _).alloc (Nat.le_refl _) _) _⟩
set_option maxRecDepth 100000 in
set_option maxHeartbeats 400000 in
theorem kway_n_b4 (k0 k1 k2 k3 k4 : Int) (d : Int) (w : World) (v : Value) (hl : 1 < w.heap.size) (hv : w.cell? ⟨1, 0, none⟩ = some v) (hk : Hid (wB k0 14 = true)) (hp : Hid (placesOf k0 = 0)) (hm : Hid ((k0 == 2 || k0 == 3) = false)) (w1 : Hid (wB k1 (0) = true)) (w2 : Hid (wB k2 (0) = true)) (w3 : Hid (wB k3 (0) = true)) (hd : Hid (dataMost k0 = d)) (h4 : d < k4) :
    Calls Tryd.prog 101 #[(Value.agg #[.int .i64 k0, .int .i64 k1, .int .i64 k2, .int .i64 k3, .int .u32 k4])] w fun e w' => e = .returned v ∧ Below w.heap.size w w' := by
  have n0 : (w.alloc (.cells #[.int .i64 k0, .int .i64 k1, .int .i64 k2, .int .i64 k3, .int .u32 k4] 36)).cell? ⟨1, 0, none⟩ = some v := (World.cell?_alloc_lt w _ ⟨1, 0, none⟩ hl).trans hv
  have d4 : decide (d < k4) = true := by simp; omega
  go_enter Tryd.func101, Tryd.ntmps101
  go_wp2_with (first
    | (go_at_call 131; (with_reducible refine (kwithin_b _ _ _ hk _).mono ?_); rintro e w1 ⟨rfl, rfl⟩)
    | (go_at_call 132; refine (kplaces_is k0 _ hp.out _).mono ?_; rintro e w1 ⟨rfl, rfl⟩)
    | (go_at_call 133; refine (kmay_b k0 _ hm _).mono ?_; rintro e w1 ⟨rfl, rfl⟩))
  go_quiet ((first | (go_at_call 131; with_reducible exact kquiet_left (kwithin_b _ _ _ w1 _)) | (go_at_call 131; with_reducible exact kquiet_left (kwithin_b _ _ _ w2 _)) | (go_at_call 131; with_reducible exact kquiet_left (kwithin_b _ _ _ w3 _)) | (go_at_call 134; with_reducible exact kquiet_left (kmaxdata_is k0 _ hd.out _))))
  go_wp2
  go_ret
  exact ⟨rfl, below_drewN ((Below.refl _ _).alloc (Nat.le_refl _) _) _⟩
end Go.Proofs.YtdcdfaeokbdalaaDoor
namespace Go.Proofs.YtdcdfaeokbdalaaDoor
open Go.ChangeShapes Go.WideShapes Go.ChangeAt Go.RowKit
set_option linter.unusedVariables false
def hidOf (k : Int) : Int := if 0 < placesOf k then placesOf k - 1 else 0
def hverOf (k : Int) : Int := if 0 < placesOf k then 1048575 else 0
def hrOf (k : Int) : Int := if (k == 2 || k == 3) = true then 7 else 0
/-- Is this a right key? -/
def rightB (k0 k1 k2 k3 k4 : Int) : Bool := wB k0 14 && (wB k1 (hidOf k0) && (wB k2 (hverOf k0) && (wB k3 (hrOf k0) && decide (k4 ≤ dataMost k0))))
/-- What the program says of a key: nothing, or which error. -/
def kErr (vs vr : Value) (k0 k1 k2 k3 k4 : Int) : Value := if rightB k0 k1 k2 k3 k4 = true then .nilIface else if wB k0 14 = true then vr else vs
theorem placesOf_le (k : Int) : placesOf k ≤ 256 := by unfold placesOf; repeat' split
                                                       all_goals omega
theorem placesOf_ge (k : Int) : 0 ≤ placesOf k := by unfold placesOf; repeat' split
                                                     all_goals omega
/-- The two errors lie in their variables. -/
def ErrsAt (vs vr : Value) (w : World) : Prop := w.cell? ⟨5, 0, none⟩ = some vs ∧ w.cell? ⟨1, 0, none⟩ = some vr ∧ 5 < w.heap.size ∧ 1 < w.heap.size
theorem ErrsAt.below {vs vr : Value} {w w' : World} (h : ErrsAt vs vr w) (hb : Below w.heap.size w w') : ErrsAt vs vr w' :=
  ⟨(hb.cell (p := ⟨5, 0, none⟩) h.2.2.1).trans h.1, (hb.cell (p := ⟨1, 0, none⟩) h.2.2.2).trans h.2.1, by have := h.2.2.1; have := hb.size; omega, by have := h.2.2.2; have := hb.size; omega⟩
theorem kvalid_any (k0 k1 k2 k3 k4 : Int) (vs vr : Value) (w : World) (hE : ErrsAt vs vr w) :
    Calls Tryd.prog 101 #[(Value.agg #[.int .i64 k0, .int .i64 k1, .int .i64 k2, .int .i64 k3, .int .u32 k4])] w fun e w' => e = .returned (kErr vs vr k0 k1 k2 k3 k4) ∧ Below w.heap.size w w' := by
  obtain ⟨hs, hr, ls, lr⟩ := hE
  by_cases b0 : wB k0 14 = true
  rotate_left
  · have e : kErr vs vr k0 k1 k2 k3 k4 = vs := by simp [kErr, rightB, b0]
    rw [e]
    exact kvalid_shape k0 k1 k2 k3 k4 vs (Lib.hid (by simpa [wB] using b0)) w ls hs
  have hm : (k0 == 2 || k0 == 3) = true ∨ (k0 == 2 || k0 == 3) = false := by cases (k0 == 2 || k0 == 3) <;> simp
  have hP0 := placesOf_ge k0
  have hP9 := placesOf_le k0
  rcases hm with hm | hm
  · have hP : 0 < placesOf k0 := by
      simp at hm
      rcases hm with rfl | rfl <;> decide
    by_cases b1 : wB k1 (placesOf k0 - 1) = true
    rotate_left
    · have e : kErr vs vr k0 k1 k2 k3 k4 = vr := by simp [kErr, rightB, hidOf, hP, b0, b1]
      rw [e]; exact kway_m_b1 k0 k1 k2 k3 k4 _ w hP hP9 vr lr hr (Lib.hid b0) (Lib.hid rfl) (Lib.hid hm) (Lib.hid (by simpa using b1))
    by_cases b2 : wB k2 1048575 = true
    rotate_left
    · have e : kErr vs vr k0 k1 k2 k3 k4 = vr := by simp [kErr, rightB, hverOf, hP, b0, b2]
      rw [e]; exact kway_m_b2 k0 k1 k2 k3 k4 _ w hP hP9 vr lr hr (Lib.hid b0) (Lib.hid rfl) (Lib.hid hm) (Lib.hid b1) (Lib.hid (by simpa using b2))
    by_cases b3 : wB k3 7 = true
    rotate_left
    · have e : kErr vs vr k0 k1 k2 k3 k4 = vr := by simp only [kErr, rightB, hrOf, if_pos hm, b0]; simp [b3]
      rw [e]; exact kway_m_b3 k0 k1 k2 k3 k4 _ w hP hP9 vr lr hr (Lib.hid b0) (Lib.hid rfl) (Lib.hid hm) (Lib.hid b1) (Lib.hid b2) (Lib.hid (by simpa using b3))
    by_cases b4 : k4 ≤ dataMost k0
    rotate_left
    · have e : kErr vs vr k0 k1 k2 k3 k4 = vr := by simp [kErr, rightB, b0, b4]
      rw [e]; exact kway_m_b4 k0 k1 k2 k3 k4 _ _ w hP hP9 vr lr hr (Lib.hid b0) (Lib.hid rfl) (Lib.hid hm) (Lib.hid b1) (Lib.hid b2) (Lib.hid b3) (Lib.hid rfl) (by omega)
    have e : kErr vs vr k0 k1 k2 k3 k4 = .nilIface := by
      have : rightB k0 k1 k2 k3 k4 = true := by simp only [rightB, hidOf, hverOf, hrOf, if_pos hP, if_pos hm, b0, b1, b2, b3]; simp [b4]
      simp [kErr, this]
    rw [e]; exact kway_m_ok k0 k1 k2 k3 k4 _ _ w hP hP9 (Lib.hid b0) (Lib.hid rfl) (Lib.hid hm) (Lib.hid b1) (Lib.hid b2) (Lib.hid b3) (Lib.hid rfl) b4
  · have hr0 : hrOf k0 = 0 := by simp only [hrOf, hm]; simp
    by_cases hP : 0 < placesOf k0
    · by_cases b1 : wB k1 (placesOf k0 - 1) = true
      rotate_left
      · have e : kErr vs vr k0 k1 k2 k3 k4 = vr := by simp [kErr, rightB, hidOf, hP, b0, b1]
        rw [e]; exact kway_p_b1 k0 k1 k2 k3 k4 _ w hP hP9 vr lr hr (Lib.hid b0) (Lib.hid rfl) (Lib.hid hm) (Lib.hid (by simpa using b1))
      by_cases b2 : wB k2 1048575 = true
      rotate_left
      · have e : kErr vs vr k0 k1 k2 k3 k4 = vr := by simp [kErr, rightB, hverOf, hP, b0, b2]
        rw [e]; exact kway_p_b2 k0 k1 k2 k3 k4 _ w hP hP9 vr lr hr (Lib.hid b0) (Lib.hid rfl) (Lib.hid hm) (Lib.hid b1) (Lib.hid (by simpa using b2))
      by_cases b3 : wB k3 0 = true
      rotate_left
      · have e : kErr vs vr k0 k1 k2 k3 k4 = vr := by simp [kErr, rightB, hr0, b0, b3]
        rw [e]; exact kway_p_b3 k0 k1 k2 k3 k4 _ w hP hP9 vr lr hr (Lib.hid b0) (Lib.hid rfl) (Lib.hid hm) (Lib.hid b1) (Lib.hid b2) (Lib.hid (by simpa using b3))
      by_cases b4 : k4 ≤ dataMost k0
      rotate_left
      · have e : kErr vs vr k0 k1 k2 k3 k4 = vr := by simp [kErr, rightB, b0, b4]
        rw [e]; exact kway_p_b4 k0 k1 k2 k3 k4 _ _ w hP hP9 vr lr hr (Lib.hid b0) (Lib.hid rfl) (Lib.hid hm) (Lib.hid b1) (Lib.hid b2) (Lib.hid b3) (Lib.hid rfl) (by omega)
      have e : kErr vs vr k0 k1 k2 k3 k4 = .nilIface := by
        have : rightB k0 k1 k2 k3 k4 = true := by simp only [rightB, hidOf, hverOf, hr0, if_pos hP, b0, b1, b2, b3]; simp [b4]
        simp [kErr, this]
      rw [e]; exact kway_p_ok k0 k1 k2 k3 k4 _ _ w hP hP9 (Lib.hid b0) (Lib.hid rfl) (Lib.hid hm) (Lib.hid b1) (Lib.hid b2) (Lib.hid b3) (Lib.hid rfl) b4
    · have hz : placesOf k0 = 0 := by omega
      by_cases b1 : wB k1 0 = true
      rotate_left
      · have e : kErr vs vr k0 k1 k2 k3 k4 = vr := by simp [kErr, rightB, hidOf, hP, b0, b1]
        rw [e]; exact kway_n_b1 k0 k1 k2 k3 k4 w vr lr hr (Lib.hid b0) (Lib.hid hz) (Lib.hid hm) (Lib.hid (by simpa using b1))
      by_cases b2 : wB k2 0 = true
      rotate_left
      · have e : kErr vs vr k0 k1 k2 k3 k4 = vr := by simp [kErr, rightB, hverOf, hP, b0, b2]
        rw [e]; exact kway_n_b2 k0 k1 k2 k3 k4 w vr lr hr (Lib.hid b0) (Lib.hid hz) (Lib.hid hm) (Lib.hid b1) (Lib.hid (by simpa using b2))
      by_cases b3 : wB k3 0 = true
      rotate_left
      · have e : kErr vs vr k0 k1 k2 k3 k4 = vr := by simp [kErr, rightB, hr0, b0, b3]
        rw [e]; exact kway_n_b3 k0 k1 k2 k3 k4 w vr lr hr (Lib.hid b0) (Lib.hid hz) (Lib.hid hm) (Lib.hid b1) (Lib.hid b2) (Lib.hid (by simpa using b3))
      by_cases b4 : k4 ≤ dataMost k0
      rotate_left
      · have e : kErr vs vr k0 k1 k2 k3 k4 = vr := by simp [kErr, rightB, b0, b4]
        rw [e]; exact kway_n_b4 k0 k1 k2 k3 k4 _ w vr lr hr (Lib.hid b0) (Lib.hid hz) (Lib.hid hm) (Lib.hid b1) (Lib.hid b2) (Lib.hid b3) (Lib.hid rfl) (by omega)
      have e : kErr vs vr k0 k1 k2 k3 k4 = .nilIface := by
        have : rightB k0 k1 k2 k3 k4 = true := by simp only [rightB, hidOf, hverOf, hr0, if_neg hP, b0, b1, b2, b3]; simp [b4]
        simp [kErr, this]
      rw [e]; exact kway_n_ok k0 k1 k2 k3 k4 _ w (Lib.hid b0) (Lib.hid hz) (Lib.hid hm) (Lib.hid b1) (Lib.hid b2) (Lib.hid b3) (Lib.hid rfl) b4
end Go.Proofs.YtdcdfaeokbdalaaDoor
namespace Go.Proofs.YtdcdfaeokbdalaaDoor
open Go.ChangeShapes Go.WideShapes Go.ChangeAt Go.RowKit
set_option linter.unusedVariables false
set_option maxRecDepth 100000 in
theorem nnew_ok (x : Int) (n : Nat) (hx : Hid (x = n)) (h1 : 1 ≤ n) (h2 : n ≤ 256) (w : World) :
    Calls Tryd.prog 47 #[.int .i64 x] w fun e w' => ∃ P p B G, e = .returned (.tuple #[.pointer (some ⟨P, 0, none⟩), .nilIface]) ∧ NdAt w' w.heap.size P p B G n n (fun _ => false) (fun _ => 0) (fun _ b => zc b) ∧ Below w.heap.size w w' := by
  rw [hx.out]
  obtain ⟨i0, hi, hz0, hz1, hz2⟩ := info_parts infoSlots
  have HI := Lib.hid (⟨hi, hz0, hz1, hz2⟩ : Tryd.prog.info? 37 = some i0 ∧ i0.zero = some (.agg zs80.toArray) ∧ i0.size = 80 ∧ i0.bytes = 640)
  clear hi hz0 hz1 hz2 hx
  go_enter Tryd.func47, Tryd.ntmps47
  go_wp2_with (first
    | (go_at_call 76; (with_reducible refine (anew_at _ n (Lib.hid rfl) h1 h2 _).mono ?_); rintro e w1 ⟨p, B, rfl, hA, hb⟩; have HA := Lib.hid hA; have HB := Lib.hid hb; clear hA hb)
    | (at_make; refine wpList_make_full _ rfl _ _ 53 rfl w.heap.size 37 i0 (.agg zs80.toArray) 80 Tryd.underlying53 HI.out.1 HI.out.2.1 HI.out.2.2.1 .i64 .i64 _ _ n rfl rfl rfl rfl ?b2 ?b3 ?b4 ?_))
  case b2 => rw [HI.out.2.2.2]; omega
  case b3 => unfold maxLen; omega
  case b4 => exact HB.out.size
  intro w2 hown hgrow
  have HO : Hid (w2.ownsRow w.heap.size 37 80 (.slice (some ⟨w1.heap.size, 0, none⟩) n n) n (flatV (fun _ b => zc b) n)) := Lib.hid (by rw [← flatV_made]; exact hown)
  have HG := Lib.hid (show Below w1.heap.size w1 w2 from (Below.refl _ _).grown hgrow (Nat.le_refl _) (fun k hk => by cases hk))
  clear hown hgrow
  go_wp2_with fail
  go_ret2
  have hp := HA.out.pl
  have hB := HA.out.lt
  have hG := (HO.out.lt w1.heap.size rfl)
  have hs := HG.out.size
  have hs1 := HB.out.size
  have h2' : ∀ o, Below w2.heap.size w2 (w2.alloc o) := fun o => (Below.refl _ _).alloc (Nat.le_refl _) o
  exact ⟨_, p, B, w1.heap.size, rfl, ⟨by simp, by omega, by simp, by simp, (HA.out.below HG.out).below (h2' _), HO.out.alloc _, by omega, by omega, by omega, by omega⟩, (HB.out.trans (HG.out.mono HB.out.size)).alloc (Nat.le_trans HB.out.size HG.out.size) _⟩
/-- A key's field as a value. -/
def kval (q : Nat) (x : Int) : Value := if q = 4 then .int .u32 x else .int .i64 x
theorem kval_one (q : Nat) (x : Int) : (kval q x).oneCell' = true := by unfold kval; split <;> rfl
/-- The cells of m keys. -/
def kcs (kk : Nat → Nat → Int) (m : Nat) : List Value := (List.range (m * 5)).map fun q => kval (q % 5) (kk (q / 5) (q % 5))
theorem kcs_len (kk : Nat → Nat → Int) (m : Nat) : (kcs kk m).length = m * 5 := by simp [kcs]
/-- Keys in a row, apart from the nodes. -/
structure SrcK (w : World) (a : Option Addr) (m : Nat) (kk : Nat → Nat → Int) (B G : Nat) : Prop where
  src : ∀ i, i < m → ∃ ad, a = some ad ∧ ad.block < w.heap.size ∧ ad.block ≠ B ∧ ad.block ≠ G ∧ ∀ q, q < 5 → w.cell? (ad.add (i * 5 + q)) = some (kval q (kk i q))
theorem SrcK.kept {w w' : World} {a : Option Addr} {m : Nat} {kk : Nat → Nat → Int} {B G g : Nat} (h : SrcK w a m kk B G) (hg : w.grownBy w' (some g)) (hB : g = B ∨ g = G) : SrcK w' a m kk B G := ⟨fun i hi => by
  obtain ⟨ad, h1, h2, h3, h4, h5⟩ := h.src i hi
  refine ⟨ad, h1, Nat.lt_of_lt_of_le h2 hg.size, h3, h4, fun q hq => (World.cell?_of_block (a := ad.add (i * 5 + q)) ?_).trans (h5 q hq)⟩
  rw [add_block']
  exact hg.block _ h2 (fun e => by injection e with e; rcases hB with rfl | rfl; exact h3 e; exact h4 e)⟩
theorem SrcK.below {w w' : World} {a : Option Addr} {m : Nat} {kk : Nat → Nat → Int} {B G : Nat} (h : SrcK w a m kk B G) (hb : Below w.heap.size w w') : SrcK w' a m kk B G := ⟨fun i hi => by
  obtain ⟨ad, h1, h2, h3, h4, h5⟩ := h.src i hi
  exact ⟨ad, h1, Nat.lt_of_lt_of_le h2 hb.size, h3, h4, fun q hq => (hb.cell (p := ad.add (i * 5 + q)) (by rw [add_block']; exact h2)).trans (h5 q hq)⟩⟩
/-- One key, with letters. -/
def InK (w : World) (e : Addr) (y0 y1 y2 y3 y4 : Int) : Prop := w.cell? e = some (.int .i64 y0) ∧ w.cell? ⟨e.block, e.off + 1, none⟩ = some (.int .i64 y1) ∧ w.cell? ⟨e.block, e.off + 2, none⟩ = some (.int .i64 y2) ∧ w.cell? ⟨e.block, e.off + 3, none⟩ = some (.int .i64 y3) ∧ w.cell? ⟨e.block, e.off + 4, none⟩ = some (.int .u32 y4)
theorem add_more (ad : Addr) (i j : Nat) : ad.add (i + (j + 1)) = ⟨(ad.add i).block, (ad.add i).off + (j + 1), none⟩ := by
  rw [← Go.Deep.add_add]
  rfl
theorem SrcK.in {w : World} {a : Option Addr} {m : Nat} {kk : Nat → Nat → Int} {B G : Nat} (h : SrcK w a m kk B G) (i : Nat) (hi : i < m) : ∃ ad, a = some ad ∧ InK w (ad.add (i * 5)) (kk i 0) (kk i 1) (kk i 2) (kk i 3) (kk i 4) := by
  obtain ⟨ad, h1, _, _, _, h5⟩ := h.src i hi
  have h50 := h5 0 (by decide)
  have h51 := h5 1 (by decide)
  have h52 := h5 2 (by decide)
  have h53 := h5 3 (by decide)
  have h54 := h5 4 (by decide)
  rw [add_more ad (i * 5) 0] at h51
  rw [add_more ad (i * 5) 1] at h52
  rw [add_more ad (i * 5) 2] at h53
  rw [add_more ad (i * 5) 3] at h54
  exact ⟨ad, h1, h50, h51, h52, h53, h54⟩
theorem SrcK.list {w : World} {a : Option Addr} {m : Nat} {kk : Nat → Nat → Int} {B G : Nat} (h : SrcK w a m kk B G) : 0 < m → ∃ ad, a = some ad ∧ ∀ j v, (kcs kk m)[j]? = some v → w.cell? (ad.add j) = some v := by
  intro h0
  obtain ⟨ad, h1, _⟩ := h.src 0 h0
  refine ⟨ad, h1, fun j v hj => ?_⟩
  have hlt : j < m * 5 := by
    rcases Nat.lt_or_ge j (m * 5) with h' | h'
    · exact h'
    · rw [List.getElem?_eq_none (by rw [kcs_len]; omega)] at hj; cases hj
  obtain ⟨ad', e1, _, _, _, h5⟩ := h.src (j / 5) (by omega)
  obtain rfl : ad = ad' := by rw [h1] at e1; exact Option.some.inj e1
  have h6 := h5 (j % 5) (by omega)
  rw [show j / 5 * 5 + j % 5 = j by omega] at h6
  rw [h6]
  simp only [kcs, List.getElem?_map, List.getElem?_range hlt, Option.map_some] at hj
  exact hj
theorem nvalid_ok (k0 k1 k2 k3 k4 : Int) (hk : Hid (rightB k0 k1 k2 k3 k4 = true)) (vs vr : Value) (w : World) (hE : ErrsAt vs vr w) :
    Calls Tryd.prog 101 #[(Value.agg #[.int .i64 k0, .int .i64 k1, .int .i64 k2, .int .i64 k3, .int .u32 k4])] w fun e w' => e = .returned .nilIface ∧ Below w.heap.size w w' :=
  (kvalid_any k0 k1 k2 k3 k4 vs vr w hE).mono fun e w' ⟨h1, h2⟩ => ⟨by rw [h1]; unfold kErr; rw [if_pos hk.out], h2⟩
theorem nvalid_bad (k0 k1 k2 k3 k4 : Int) (vs vr : Value) (z : Addr) (hk : Hid (kErr vs vr k0 k1 k2 k3 k4 = eV z)) (w : World) (hE : ErrsAt vs vr w) :
    Calls Tryd.prog 101 #[(Value.agg #[.int .i64 k0, .int .i64 k1, .int .i64 k2, .int .i64 k3, .int .u32 k4])] w fun e w' => e = .returned (eV z) ∧ Below w.heap.size w w' :=
  (kvalid_any k0 k1 k2 k3 k4 vs vr w hE).mono fun e w' ⟨h1, h2⟩ => ⟨by rw [h1, hk.out], h2⟩
def KRight (kk : Nat → Nat → Int) (i : Nat) : Prop := rightB (kk i 0) (kk i 1) (kk i 2) (kk i 3) (kk i 4) = true
set_option maxRecDepth 100000 in
theorem nfits_ok {B G : Nat} (vs vr : Value) (a : Option Addr) (m c2 : Nat) (hm : m ≤ 16) (kk : Nat → Nat → Int) (hk : Hid (∀ i, i < m → KRight kk i)) (w : World) (hE : ErrsAt vs vr w) (hs : SrcK w a m kk B G) :
    Calls Tryd.prog 107 #[.slice a m c2] w fun e w' => e = .returned .nilIface ∧ Below w.heap.size w w' := by
  have HE := Lib.hid hE
  have HS := Lib.hid hs
  have d0 : decide ((16 : Int) < (m : Int)) = false := by simp; omega
  clear hE hs
  go_enter Tryd.func107, Tryd.ntmps107
  go_wp2_with fail
  go_loopw [12] (fun i wr => ∃ k : Nat, k ≤ m ∧ i = .int .i64 k ∧ Below w.heap.size w wr) (fun i _ => m - (intOf i).toNat)
  case atStart => exact ⟨0, by omega, rfl, Below.refl _ _⟩
  case round =>
    obtain ⟨k, hkm, rfl, hb⟩ := hrel
    have HB := Lib.hid hb
    have HE1 := Lib.hid (HE.out.below hb)
    have HS1 := Lib.hid (HS.out.below hb)
    clear hb
    by_cases hlt : k < m
    · obtain ⟨ad, rfl, hin⟩ := HS1.out.in k hlt
      have hr := hk.out k hlt
      unfold KRight at hr
      generalize kk k 0 = y0 at hin hr
      generalize kk k 1 = y1 at hin hr
      generalize kk k 2 = y2 at hin hr
      generalize kk k 3 = y3 at hin hr
      generalize kk k 4 = y4 at hin hr
      obtain ⟨q0, q1, q2, q3, q4⟩ := hin
      have HR := Lib.hid hr
      have k0 : (0 : Int) ≤ k := by omega
      have k1 : (k : Int) < m := by omega
      clear hr
      go_wp2_with (first
        | (go_at_call 101; (with_reducible refine (nvalid_ok y0 y1 y2 y3 y4 HR vs vr _ (HE1.out.below ((Below.refl _ _).alloc (Nat.le_refl _) _))).mono ?_); rintro e w1 ⟨rfl, hb⟩; have HB2 := Lib.hid ((HB.out.alloc HB.out.size _).trans (hb.mono (by simp; have := HB.out.size; omega))); clear hb q0 q1 q2 q3 q4))
      go_roundw
      case rel => exact ⟨k + 1, by omega, by go_num, HB2.out⟩
      case measure => simp [intOf]; omega
    · obtain rfl : k = m := by omega
      have hdd : decide (k < k) = false := by simp
      go_wp2_with fail
      go_ret
      exact ⟨rfl, HB.out⟩
end Go.Proofs.YtdcdfaeokbdalaaDoor
namespace Go.Proofs.YtdcdfaeokbdalaaDoor
open Go.ChangeShapes Go.WideShapes Go.ChangeAt Go.RowKit
set_option linter.unusedVariables false
set_option maxRecDepth 100000 in
theorem nfits_many (a : Option Addr) (m c2 : Nat) (hm : 16 < m) (v : Value) (w : World) (hE : w.cell? ⟨2, 0, none⟩ = some v) :
    Calls Tryd.prog 107 #[.slice a m c2] w fun e w' => e = .returned v ∧ Below w.heap.size w w' := by
  have d0 : decide ((16 : Int) < (m : Int)) = true := by simp; omega
  go_enter Tryd.func107, Tryd.ntmps107
  go_wp2_with fail
  go_ret
  exact ⟨rfl, Below.refl _ _⟩
set_option maxRecDepth 100000 in
theorem nfits_bad {B G : Nat} (vs vr : Value) (z : Addr) (a : Option Addr) (m c2 j : Nat) (hm : m ≤ 16) (hj : j < m) (kk : Nat → Nat → Int) (hk : Hid (∀ i, i < j → KRight kk i)) (hz : Hid (kErr vs vr (kk j 0) (kk j 1) (kk j 2) (kk j 3) (kk j 4) = eV z)) (w : World) (hE : ErrsAt vs vr w) (hs : SrcK w a m kk B G) :
    Calls Tryd.prog 107 #[.slice a m c2] w fun e w' => e = .returned (eV z) ∧ Below w.heap.size w w' := by
  have HE := Lib.hid hE
  have HS := Lib.hid hs
  have d0 : decide ((16 : Int) < (m : Int)) = false := by simp; omega
  clear hE hs
  go_enter Tryd.func107, Tryd.ntmps107
  go_wp2_with fail
  go_loopw [12] (fun i wr => ∃ k : Nat, k ≤ j ∧ i = .int .i64 k ∧ Below w.heap.size w wr) (fun i _ => m - (intOf i).toNat)
  case atStart => exact ⟨0, by omega, rfl, Below.refl _ _⟩
  case round =>
    obtain ⟨k, hkm, rfl, hb⟩ := hrel
    have HB := Lib.hid hb
    have HE1 := Lib.hid (HE.out.below hb)
    have HS1 := Lib.hid (HS.out.below hb)
    clear hb
    have k0 : (0 : Int) ≤ k := by omega
    have k1 : (k : Int) < m := by omega
    obtain ⟨ad, rfl, hin⟩ := HS1.out.in k (by omega)
    by_cases hlt : k < j
    · have hr := hk.out k hlt
      unfold KRight at hr
      generalize kk k 0 = y0 at hin hr
      generalize kk k 1 = y1 at hin hr
      generalize kk k 2 = y2 at hin hr
      generalize kk k 3 = y3 at hin hr
      generalize kk k 4 = y4 at hin hr
      obtain ⟨q0, q1, q2, q3, q4⟩ := hin
      have HR := Lib.hid hr
      clear hr
      go_wp2_with (first
        | (go_at_call 101; (with_reducible refine (nvalid_ok y0 y1 y2 y3 y4 HR vs vr _ (HE1.out.below ((Below.refl _ _).alloc (Nat.le_refl _) _))).mono ?_); rintro e w1 ⟨rfl, hb⟩; have HB2 := Lib.hid ((HB.out.alloc HB.out.size _).trans (hb.mono (by simp; have := HB.out.size; omega))); clear hb q0 q1 q2 q3 q4))
      go_roundw
      case rel => exact ⟨k + 1, by omega, by go_num, HB2.out⟩
      case measure => simp [intOf]; omega
    · obtain rfl : k = j := by omega
      have hr := hz.out
      generalize kk k 0 = y0 at hin hr
      generalize kk k 1 = y1 at hin hr
      generalize kk k 2 = y2 at hin hr
      generalize kk k 3 = y3 at hin hr
      generalize kk k 4 = y4 at hin hr
      obtain ⟨q0, q1, q2, q3, q4⟩ := hin
      have HR := Lib.hid hr
      clear hr
      go_wp2_with (first
        | (go_at_call 101; (with_reducible refine (nvalid_bad y0 y1 y2 y3 y4 vs vr z HR _ (HE1.out.below ((Below.refl _ _).alloc (Nat.le_refl _) _))).mono ?_); rintro e w1 ⟨rfl, hb⟩; have HB2 := Lib.hid ((HB.out.alloc HB.out.size _).trans (hb.mono (by simp; have := HB.out.size; omega))); clear hb q0 q1 q2 q3 q4))
      go_ret
      exact ⟨rfl, HB2.out⟩
/-- What a node of these cells is. -/
def freshV (W : Nat → Nat → Value) (i : Nat) (xs : List Value) : Nat → Nat → Value := updV (updV W i 0 zs80) i 0 xs
theorem freshV_other (W : Nat → Nat → Value) (i : Nat) (xs : List Value) (a b : Nat) (h : a ≠ i) : freshV W i xs a b = W a b := by
  unfold freshV updV
  rw [if_neg (fun e => h e.1), if_neg (fun e => h e.1)]
theorem freshV_in (W : Nat → Nat → Value) (i : Nat) (xs : List Value) (b : Nat) (h : b < xs.length) : some (freshV W i xs i b) = xs[b]? := by
  unfold freshV
  unfold updV
  rw [if_pos ⟨rfl, by omega, by omega⟩]
  simp [List.getD, h]
theorem freshV_out (W : Nat → Nat → Value) (i : Nat) (xs : List Value) (b : Nat) (h : xs.length ≤ b) (hb : b < 80) : freshV W i xs i b = zc b := by
  unfold freshV
  rw [updV, if_neg (by omega), updV, if_pos ⟨rfl, by omega, by rw [zs80_len]; omega⟩]
  simp [List.getD, zs80, hb]
set_option maxRecDepth 100000 in
set_option maxHeartbeats 1000000 in
theorem nmake_ok {base P p B G n c : Nat} {th : Nat → Bool} {vr_ : Nat → Int} {W : Nat → Nat → Value} (vs vr : Value) (a : Option Addr) (m c2 : Nat) (kk : Nat → Nat → Int) (hx : m ≤ 16) (hk : Hid (∀ i, i < m → KRight kk i)) (j : Nat) (hj : j < n) (hyes : Hid (freeB th vr_ j = true)) (hno : Hid (∀ i, i < j → freeB th vr_ i = false)) (v : Int) (hv : Hid (vr_ j = v)) (w : World) (hE : ErrsAt vs vr w) (h : NdAt w base P p B G n c th vr_ W) (hs : SrcK w a m kk B G) :
    Calls Tryd.prog 50 #[.pointer (some ⟨P, 0, none⟩), .slice a m c2] w fun e w' => e = .returned (.tuple #[.int .i64 j, .int .i64 v, .nilIface]) ∧ NdAt w' base P p B G n c (upd th j true) vr_ (freshV W j (kcs kk m)) ∧ PBelow w w' B G := by
  have H := Lib.hid h
  have HS := Lib.hid hs
  have HE := Lib.hid hE
  have f0 := h.f0
  have hn := h.ar.le
  have k0 : (0 : Int) ≤ j := by omega
  have k1 : (j : Int) < n := by omega
  clear h hs hE
  go_enter Tryd.func50, Tryd.ntmps50
  go_wp2_with (first
    | (go_at_call 107; (with_reducible refine (nfits_ok vs vr a m c2 hx kk hk _ HE.out HS.out).mono ?_); rintro e w0 ⟨rfl, hb0⟩; have H0 := Lib.hid (H.out.below hb0); have HS0 := Lib.hid (HS.out.below hb0); have HB0 := Lib.hid (PBelow.of_below (B := B) (G := G) hb0); have f9 := H0.out.f0; clear hb0 f0)
    | (go_at_call 82; (with_reducible refine (atake_ok _ H0.out.ar j hj hyes hno v hv).mono ?_); rintro e w1 ⟨rfl, hA, hg⟩; have H1 := Lib.hid (H0.out.turn hA hg); have HS1 := Lib.hid (HS0.out.kept hg (.inl rfl)); have HB1 := Lib.hid (HB0.out.trans (PBelow.of (G := G) hg (.inl rfl))); have f1 := H1.out.f1; obtain ⟨w2, hcl, hP2, hg2⟩ := H1.out.clear j hj; have H2 := Lib.hid hP2; have HS2 := Lib.hid (HS1.out.kept hg2 (.inr rfl)); have HB2 := Lib.hid (HB1.out.trans (PBelow.of hg2 (.inr rfl))); have f2 := H2.out.f1; obtain ⟨w3, hcp, hP3, hg3⟩ := H2.out.copy j hj a m c2 (kcs kk m) (kcs_len kk m) hx (fun v hv => by obtain ⟨x, _, rfl⟩ := List.mem_map.1 hv; exact kval_one _ _) HS2.out.list; have H3 := Lib.hid hP3; have HB3 := Lib.hid (HB2.out.trans (PBelow.of hg3 (.inr rfl))); clear hA hg hP2 hg2 hP3 hg3 f9))
  go_ret3
  exact ⟨rfl, H3.out, HB3.out⟩
theorem nget_is {base P p B G n c : Nat} {th : Nat → Bool} {vr_ : Nat → Int} {W : Nat → Nat → Value} (k s : Nat) (hk : k < n) (hs : s < 16) (ht : Hid (th k = true)) (y0 y1 y2 y3 y4 : Int) (h0 : W k (s * 5) = .int .i64 y0) (h1 : W k (s * 5 + 1) = .int .i64 y1) (h2 : W k (s * 5 + 2) = .int .i64 y2) (h3 : W k (s * 5 + 3) = .int .i64 y3) (h4 : W k (s * 5 + 4) = .int .u32 y4) (w : World) (h : NdAt w base P p B G n c th vr_ W) :
    Calls Tryd.prog 53 #[.pointer (some ⟨P, 0, none⟩), .int .i64 k, .int .i64 s] w fun e w' => e = .returned (.tuple #[(Value.agg #[.int .i64 y0, .int .i64 y1, .int .i64 y2, .int .i64 y3, .int .u32 y4]), .bool true]) ∧ Below w.heap.size w w' := by
  have H := Lib.hid h
  have hlP := h.pl
  have hlG := (h.row.lt G rfl).2
  have c0 := h.cell k (s * 5) hk (by omega)
  have c1 := h.cell k (s * 5 + 1) hk (by omega)
  have c2 := h.cell k (s * 5 + 2) hk (by omega)
  have c3 := h.cell k (s * 5 + 3) hk (by omega)
  have c4 := h.cell k (s * 5 + 4) hk (by omega)
  rw [h0] at c0
  rw [h1, ← Nat.add_assoc] at c1
  rw [h2, ← Nat.add_assoc] at c2
  rw [h3, ← Nat.add_assoc] at c3
  rw [h4, ← Nat.add_assoc] at c4
  have up : ∀ (X : Obj) (b o : Nat) (v : Value), b < w.heap.size → w.cell? ⟨b, o, none⟩ = some v → (w.alloc X).cell? ⟨b, o, none⟩ = some v := fun X b o v hb hv => (World.cell?_alloc_lt w X ⟨b, o, none⟩ hb).trans hv
  have f0 : ∀ X, (w.alloc X).cell? ⟨P, 0, none⟩ = _ := fun X => up X P 0 _ hlP h.f0
  have f1 : ∀ X, (w.alloc X).cell? ⟨P, 1, none⟩ = _ := fun X => up X P 1 _ hlP h.f1
  have d0 : ∀ X, (w.alloc X).cell? _ = _ := fun X => up X _ _ _ hlG c0
  have d1 : ∀ X, (w.alloc X).cell? _ = _ := fun X => up X _ _ _ hlG c1
  have d2 : ∀ X, (w.alloc X).cell? _ = _ := fun X => up X _ _ _ hlG c2
  have d3 : ∀ X, (w.alloc X).cell? _ = _ := fun X => up X _ _ _ hlG c3
  have d4 : ∀ X, (w.alloc X).cell? _ = _ := fun X => up X _ _ _ hlG c4
  have a0 : (0 : Int) ≤ s := by omega
  have a1 : (s : Int) < 16 := by omega
  have k0 : (0 : Int) ≤ k := by omega
  have k1 : (k : Int) < n := by omega
  have HSl : Hid (∀ u : World, Calls Tryd.prog 108 #[.int .i64 s] u fun e w' => e = .returned (.bool true) ∧ u = w') := Lib.hid (fun u => by
    go_enter Tryd.func108, Tryd.ntmps108
    go_wp2
    go_ret
    exact ⟨rfl, rfl⟩)
  clear h h0 h1 h2 h3 h4 up c0 c1 c2 c3 c4 hlP hlG
  go_enter Tryd.func53, Tryd.ntmps53
  go_wp2_with (first
    | (go_at_call 54; (with_reducible refine (athere_in k hk true ht _ (H.out.below ((Below.refl _ _).alloc (Nat.le_refl _) _)).ar).mono ?_); rintro e w1 ⟨rfl, rfl⟩)
    | (go_at_call 108; (with_reducible refine (HSl.out _).mono ?_); rintro e w1 ⟨rfl, rfl⟩))
  refine bodyPost_ret (v := .tuple #[(Value.agg #[.int .i64 y0, .int .i64 y1, .int .i64 y2, .int .i64 y3, .int .u32 y4]), .bool true]) (by simp [results, Tryd.results53, go_sem]) rfl ⟨rfl, ?_⟩
  exact (Below.refl _ _).alloc (Nat.le_refl _) _
end Go.Proofs.YtdcdfaeokbdalaaDoor
namespace Go.Proofs.YtdcdfaeokbdalaaDoor
open Go.ChangeShapes Go.WideShapes Go.ChangeAt Go.RowKit
set_option linter.unusedVariables false
/-- Nodes over a law's start. -/
structure NV (W0 w : World) (base P p B G n c : Nat) (th : Nat → Bool) (vr_ : Nat → Int) (W : Nat → Nat → Value) : Prop where
  bel : Below W0.heap.size W0 w
  wb : W0.heap.size ≤ base
  nd : NdAt w base P p B G n c th vr_ W
section
variable {W0 w w' : World} {base P p B G n c : Nat} {th th' : Nat → Bool} {vr_ vr' : Nat → Int} {W W' : Nat → Nat → Value}
theorem NV.lo (h : NV W0 w base P p B G n c th vr_ W) : W0.heap.size ≤ B ∧ W0.heap.size ≤ G := ⟨Nat.le_trans h.wb h.nd.ar.lt.1, Nat.le_trans h.wb (h.nd.row.lt G rfl).1⟩
theorem NV.step (h : NV W0 w base P p B G n c th vr_ W) (hb : Below w.heap.size w w') : NV W0 w' base P p B G n c th vr_ W := ⟨h.bel.trans (hb.mono h.bel.size), h.wb, h.nd.below hb⟩
theorem NV.made (h : NV W0 w base P p B G n c th vr_ W) (hP : NdAt w' base P p B G n c th' vr' W') (hb : PBelow w w' B G) : NV W0 w' base P p B G n c th' vr' W' := ⟨h.bel.trans (hb.below h.lo.1 h.lo.2 h.bel.size), h.wb, hP⟩
end
theorem srcK_none (w : World) (B G : Nat) (kk : Nat → Nat → Int) : SrcK w none 0 kk B G := ⟨fun i hi => by omega⟩
theorem freshV_void (W : Nat → Nat → Value) (i : Nat) (kk : Nat → Nat → Int) (b : Nat) (hb : b < 80) : freshV W i (kcs kk 0) i b = zc b := freshV_out W i _ b (by rw [kcs_len]; omega) hb
theorem nmake_at {base P p B G n c : Nat} {th : Nat → Bool} {vr_ : Nat → Int} {W : Nat → Nat → Value} (id : Int) (vs vr : Value) (a : Option Addr) (m c2 : Nat) (kk : Nat → Nat → Int) (hx : m ≤ 16) (hk : Hid (∀ i, i < m → KRight kk i)) (j : Nat) (hid : Hid (id = j)) (hj : j < n) (hyes : Hid (freeB th vr_ j = true)) (hno : Hid (∀ i, i < j → freeB th vr_ i = false)) (v : Int) (hv : Hid (vr_ j = v)) (w : World) (hE : ErrsAt vs vr w) (h : NdAt w base P p B G n c th vr_ W) (hs : SrcK w a m kk B G) :
    Calls Tryd.prog 50 #[.pointer (some ⟨P, 0, none⟩), .slice a m c2] w fun e w' => e = .returned (.tuple #[.int .i64 id, .int .i64 v, .nilIface]) ∧ NdAt w' base P p B G n c (upd th j true) vr_ (freshV W j (kcs kk m)) ∧ PBelow w w' B G := by
  rw [hid.out]
  exact nmake_ok vs vr a m c2 kk hx hk j hj hyes hno v hv w hE h hs
theorem nget_at {base P p B G n c : Nat} {th : Nat → Bool} {vr_ : Nat → Int} {W : Nat → Nat → Value} (x y : Int) (k s : Nat) (hx : Hid (x = k)) (hy : Hid (y = s)) (hk : k < n) (hs : s < 16) (ht : Hid (th k = true)) (y0 y1 y2 y3 y4 : Int) (h0 : Hid (W k (s * 5) = .int .i64 y0)) (h1 : Hid (W k (s * 5 + 1) = .int .i64 y1)) (h2 : Hid (W k (s * 5 + 2) = .int .i64 y2)) (h3 : Hid (W k (s * 5 + 3) = .int .i64 y3)) (h4 : Hid (W k (s * 5 + 4) = .int .u32 y4)) (w : World) (h : NdAt w base P p B G n c th vr_ W) :
    Calls Tryd.prog 53 #[.pointer (some ⟨P, 0, none⟩), .int .i64 x, .int .i64 y] w fun e w' => e = .returned (.tuple #[(Value.agg #[.int .i64 y0, .int .i64 y1, .int .i64 y2, .int .i64 y3, .int .u32 y4]), .bool true]) ∧ Below w.heap.size w w' := by
  rw [hx.out, hy.out]
  exact nget_is k s hk hs ht y0 y1 y2 y3 y4 h0.out h1.out h2.out h3.out h4.out w h
set_option maxRecDepth 100000 in
theorem nfirst_is (vs vr : Value) (w : World) (hE : ErrsAt vs vr w) : Calls Tryd.prog 46 #[] w fun e w' => e = .returned (.bool true) ∧ Below w.heap.size w w' := by
  have HE := Lib.hid hE
  clear hE
  go_enter Tryd.func46, Tryd.ntmps46
  go_wp2_with (first
    | (go_at_call 47; (with_reducible refine (nnew_ok 4 4 (Lib.hid rfl) (by decide) (by decide) _).mono ?_); rintro e w1 ⟨P, p, B, G, rfl, hP, hb⟩; have HV := Lib.hid (NV.mk hb (Nat.le_refl _) hP : NV w w1 w.heap.size P p B G 4 4 _ _ _); clear hP hb)
    | (go_at_call 50; (with_reducible refine (nmake_at 0 vs vr none 0 0 (fun _ _ => 0) (by decide) (Lib.hid (by intro i hi; omega)) 0 (Lib.hid rfl) (by decide) (Lib.hid (by decide)) (Lib.hid (by intro i hi; omega)) 0 (Lib.hid rfl) _ (HE.out.below HV.out.bel) HV.out.nd (srcK_none _ _ _ _)).mono ?_); rintro e w2 ⟨rfl, hM, hb⟩; have HV2 := Lib.hid (HV.out.made hM hb); clear hM hb)
    | (go_at_call 53; (with_reducible refine (nget_at (n := 4) 0 15 0 15 (Lib.hid rfl) (Lib.hid rfl) (by decide) (by decide) (Lib.hid (by decide)) 0 0 0 0 0 (Lib.hid (freshV_void _ 0 _ 75 (by decide))) (Lib.hid (freshV_void _ 0 _ 76 (by decide))) (Lib.hid (freshV_void _ 0 _ 77 (by decide))) (Lib.hid (freshV_void _ 0 _ 78 (by decide))) (Lib.hid (freshV_void _ 0 _ 79 (by decide))) _ HV2.out.nd).mono ?_); rintro e w3 ⟨rfl, hb⟩; have HB3 := Lib.hid (HV2.out.bel.trans (hb.mono HV2.out.bel.size)); clear hb)
    | (go_at_call 26; (with_reducible refine (samekey_any 0 0 0 0 0 0 0 0 0 0 _).mono ?_); rintro e w4 ⟨rfl, hb⟩; have HB4 := Lib.hid ((HB3.out.alloc HB3.out.size _).trans (hb.mono (by simp; have := HB3.out.size; omega))); clear hb))
  go_ret
  exact ⟨rfl, HB4.out⟩
end Go.Proofs.YtdcdfaeokbdalaaDoor
namespace Go.Proofs.YtdcdfaeokbdalaaDoor
open Go.ChangeShapes Go.WideShapes Go.ChangeAt Go.RowKit
set_option linter.unusedVariables false
theorem infoKeyA : (Tryd.prog.info? 36).map (fun i => (i.zero, i.size, i.bytes)) = some (some keyZ, 5, 40) := by kernel_rfl
theorem five (q : Nat) (h : q < 5) : q = 0 ∨ q = 1 ∨ q = 2 ∨ q = 3 ∨ q = 4 := by omega
/-- One key's cells. -/
def k5 (y0 y1 y2 y3 y4 : Int) : List Value := [.int .i64 y0, .int .i64 y1, .int .i64 y2, .int .i64 y3, .int .u32 y4]
theorem kcs_at (kk : Nat → Nat → Int) (m i q : Nat) (hi : i < m) (hq : q < 5) : (kcs kk m)[i * 5 + q]? = some (kval q (kk i q)) := by
  have h1 : i * 5 + q < m * 5 := by omega
  have h2 : (i * 5 + q) / 5 = i := by omega
  have h3 : (i * 5 + q) % 5 = q := by omega
  simp [kcs, h1, h2, h3]
/-- A row of keys of the law's own. -/
def KR (w : World) (bs g c' m : Nat) (kk : Nat → Nat → Int) : Prop := w.ownsRow bs 36 5 (.slice (some ⟨g, 0, none⟩) m c') m (kcs kk m)
theorem KR.src {w : World} {bs g c' m B G : Nat} {kk : Nat → Nat → Int} (h : KR w bs g c' m kk) (hB : B < bs) (hG : G < bs) : SrcK w (some ⟨g, 0, none⟩) m kk B G := ⟨fun i hi => by
  have hl := World.ownsRow.lt h g rfl
  refine ⟨⟨g, 0, none⟩, rfl, hl.2, by simp; omega, by simp; omega, fun q hq => ?_⟩
  rw [show Addr.add ⟨g, 0, none⟩ (i * 5 + q) = ⟨g, i * 5 + q, none⟩ by (unfold Addr.add; split <;> simp_all)]
  rw [World.ownsRow.cellAt h (i * 5 + q) (by omega)]
  exact kcs_at kk m i q hi hq⟩
theorem KR.lo {w : World} {bs g c' m : Nat} {kk : Nat → Nat → Int} (h : KR w bs g c' m kk) : bs ≤ g ∧ g < w.heap.size := World.ownsRow.lt h g rfl
theorem KR.same {w w' : World} {bs g c' m : Nat} {kk : Nat → Nat → Int} (h : KR w bs g c' m kk) (hb : w'.heap[g]? = w.heap[g]?) : KR w' bs g c' m kk := by
  refine ⟨h.1, ?_⟩
  rcases h.2 with hn | ⟨g1, cap, cur, hv, hB, hg, rest⟩
  · exact .inl hn
  · refine .inr ⟨g1, cap, cur, hv, hB, ?_, rest⟩
    have : g1 = g := by injection hv with e1 _ _; injection e1 with e1; injection e1 with e1; exact e1.symm
    rw [this] at hg ⊢
    rw [hb]
    exact hg
theorem KR.below {w w' : World} {bs g c' m : Nat} {kk : Nat → Nat → Int} (h : KR w bs g c' m kk) (hb : Below w.heap.size w w') : KR w' bs g c' m kk := h.same (hb.block g h.lo.2)
theorem KR.made {w w' : World} {bs g c' m B G : Nat} {kk : Nat → Nat → Int} (h : KR w bs g c' m kk) (hb : PBelow w w' B G) (hB : B < bs) (hG : G < bs) : KR w' bs g c' m kk := h.same (hb.2.2.2.2 g h.lo.2 (by have := h.lo.1; omega) (by have := h.lo.1; omega))
/-- Numbers, one behind the other. -/
def kkN (i q : Nat) : Int := if q = 0 then 1 else if q = 4 then (i : Int) else 0
/-- One key anew. -/
def kkS (kk : Nat → Nat → Int) (r : Nat) (y0 y1 y2 y3 y4 : Int) : Nat → Nat → Int := fun i q => if i = r then (if q = 0 then y0 else if q = 1 then y1 else if q = 2 then y2 else if q = 3 then y3 else y4) else kk i q
theorem kcs_set (kk : Nat → Nat → Int) (m r : Nat) (y0 y1 y2 y3 y4 : Int) (hr : r < m) : over (kcs kk m) (r * 5) (k5 y0 y1 y2 y3 y4) = kcs (kkS kk r y0 y1 y2 y3 y4) m := by
  apply List.ext_getElem?
  intro j
  have hl : (k5 y0 y1 y2 y3 y4).length = 5 := rfl
  rw [over_get _ _ _ _ (by rw [hl, kcs_len]; omega), hl]
  by_cases hj : j < m * 5
  · have e1 : j = j / 5 * 5 + j % 5 := by omega
    have hq : j % 5 < 5 := by omega
    have hi : j / 5 < m := by omega
    rw [show (kcs (kkS kk r y0 y1 y2 y3 y4) m)[j]? = some (kval (j % 5) (kkS kk r y0 y1 y2 y3 y4 (j / 5) (j % 5))) by (have h := kcs_at (kkS kk r y0 y1 y2 y3 y4) m (j / 5) (j % 5) hi hq; rwa [← e1] at h)]
    rw [show (kcs kk m)[j]? = some (kval (j % 5) (kk (j / 5) (j % 5))) by (have h := kcs_at kk m (j / 5) (j % 5) hi hq; rwa [← e1] at h)]
    by_cases h : r * 5 ≤ j ∧ j < r * 5 + 5
    · rw [if_pos h]
      have e2 : j / 5 = r := by omega
      have e3 : j - r * 5 = j % 5 := by omega
      rw [e2, e3]
      unfold kkS
      rw [if_pos rfl]
      generalize j % 5 = q at hq
      rcases five q hq with rfl | rfl | rfl | rfl | rfl <;> rfl
    · rw [if_neg h]
      have e2 : j / 5 ≠ r := by omega
      unfold kkS
      rw [if_neg e2]
  · rw [if_neg (by omega), List.getElem?_eq_none (by rw [kcs_len]; omega), List.getElem?_eq_none (by rw [kcs_len]; omega)]
theorem KR.set {w : World} {bs g c' m : Nat} {kk : Nat → Nat → Int} (h : KR w bs g c' m kk) (r : Nat) (hr : r < m) (y0 y1 y2 y3 y4 : Int) :
    KR (((((w.setCell ⟨g, r * 5, none⟩ (.int .i64 y0)).setCell ⟨g, r * 5 + 1, none⟩ (.int .i64 y1)).setCell ⟨g, r * 5 + 2, none⟩ (.int .i64 y2)).setCell ⟨g, r * 5 + 3, none⟩ (.int .i64 y3)).setCell ⟨g, r * 5 + 4, none⟩ (.int .u32 y4)) bs g c' m (kkS kk r y0 y1 y2 y3 y4)
    ∧ w.grownBy (((((w.setCell ⟨g, r * 5, none⟩ (.int .i64 y0)).setCell ⟨g, r * 5 + 1, none⟩ (.int .i64 y1)).setCell ⟨g, r * 5 + 2, none⟩ (.int .i64 y2)).setCell ⟨g, r * 5 + 3, none⟩ (.int .i64 y3)).setCell ⟨g, r * 5 + 4, none⟩ (.int .u32 y4)) (some g) := by
  have hs := own_setCells (k5 y0 y1 y2 y3 y4) (r * 5) _ _ h
  rw [kcs_set kk m r y0 y1 y2 y3 y4 hr] at hs
  exact hs
theorem KR.cells {w : World} {bs g c' m : Nat} {kk : Nat → Nat → Int} (h : KR w bs g c' m kk) (r q : Nat) (hr : r < m) (hq : q < 5) : w.cell? ⟨g, r * 5 + q, none⟩ = some (kval q (kk r q)) := by
  rw [World.ownsRow.cellAt h (r * 5 + q) (by omega)]
  exact kcs_at kk m r q hr hq
theorem KR.free {w : World} {bs g c' m : Nat} {kk : Nat → Nat → Int} (h : KR w bs g c' m kk) (j : Nat) : w.frozen? ⟨g, j, none⟩ = false := World.ownsRow.frozenAt h j
theorem NdAt.kept {w w' : World} {base P p B G n c g : Nat} {th : Nat → Bool} {vr_ : Nat → Int} {W : Nat → Nat → Value} (h : NdAt w base P p B G n c th vr_ W) (hg : w.grownBy w' (some g)) (h1 : P ≠ g) (h2 : p ≠ g) (h3 : B ≠ g) (h4 : G ≠ g) : NdAt w' base P p B G n c th vr_ W :=
  ⟨Nat.lt_of_lt_of_le h.pl hg.size, h.pb, (World.cell?_of_block (a := ⟨P, 0, none⟩) (hg.block P h.pl (fun e => h1 (by injection e)))).trans h.f0, (World.cell?_of_block (a := ⟨P, 1, none⟩) (hg.block P h.pl (fun e => h1 (by injection e)))).trans h.f1, h.ar.kept hg h2 h3, h.row.kept hg (.inr (fun e => h4 (by simpa [Value.ownBlock] using e))), h.n1, h.n2, h.n3, h.n4⟩
theorem NV.kept {W0 w w' : World} {base P p B G n c g : Nat} {th : Nat → Bool} {vr_ : Nat → Int} {W : Nat → Nat → Value} (h : NV W0 w base P p B G n c th vr_ W) (hg : w.grownBy w' (some g)) (h0 : W0.heap.size ≤ g) (h1 : P ≠ g) (h2 : p ≠ g) (h3 : B ≠ g) (h4 : G ≠ g) : NV W0 w' base P p B G n c th vr_ W :=
  ⟨h.bel.grown hg h.bel.size (fun k hk => by injection hk with e; omega), h.wb, h.nd.kept hg h1 h2 h3 h4⟩
end Go.Proofs.YtdcdfaeokbdalaaDoor
namespace Go.Proofs.YtdcdfaeokbdalaaDoor
open Go.ChangeShapes Go.WideShapes Go.ChangeAt Go.RowKit
set_option linter.unusedVariables false
set_option maxRecDepth 100000 in
theorem kclone_is (g o c n : Nat) (cs : List Value) (hn : Hid (cs.length = n * 5)) (h0 : 0 < n) (hm : n ≤ 1000) (w : World) (hx : ∀ j u, cs[j]? = some u → w.cell? (Addr.add ⟨g, o, none⟩ j) = some u) (h1 : Hid (∀ u ∈ cs, u.oneCell' = true)) (hg : g < w.heap.size) :
    Calls Tryd.prog 104 #[.slice (some ⟨g, o, none⟩) n c] w fun e w' => ∃ g' c', e = .returned (.slice (some ⟨g', 0, none⟩) n c') ∧ w'.ownsRow w.heap.size 36 5 (.slice (some ⟨g', 0, none⟩) n c') n cs ∧ Below w.heap.size w w' := by
  obtain ⟨i0, hi, hz0, hz1, hz2⟩ := info_parts infoKeyA
  have HI := Lib.hid (⟨hi, hz0, hz1, hz2⟩ : Tryd.prog.info? 36 = some i0 ∧ i0.zero = some keyZ ∧ i0.size = 5 ∧ i0.bytes = 40)
  have HX := Lib.hid hx
  clear hi hz0 hz1 hz2 hx
  have hq := fun W : World => Lib.run_eql_slice_nil W 96 36 (some ⟨g, o, none⟩) n c 0 0 Tryd.underlying96
  go_enter Tryd.func104, Tryd.ntmps104
  have HOwn : Hid ((w.alloc (.cells #[] 36)).ownsRow w.heap.size 36 5 (.slice (some ⟨w.heap.size, 0, none⟩) 0 0) 0 []) := Lib.hid ⟨rfl, .inr ⟨w.heap.size, 0, #[], rfl, Nat.le_refl _, heap_alloc_new _ _, by decide, by decide, by rfl, by rfl⟩⟩
  go_wp2_with (first | (at_builtin; refine wpList_append_own _ rfl _ _ 96 rfl w.heap.size 36 i0 keyZ 5 40 Tryd.underlying96 HI.out.1 HI.out.2.1 HI.out.2.2.1 HI.out.2.2.2 rfl (by decide) _ _ _ rfl HOwn.out ⟨g, o, none⟩ n c cs rfl ?c0 ?c1 ?c2 ?c3 ?c4 ?c5 ?_))
  case c0 => exact hn.out
  case c1 =>
    intro j u hj
    rw [World.cell?_alloc_lt w _ _ (by rw [add_block']; exact hg)]
    exact HX.out j u hj
  case c2 => exact h1.out
  case c3 => unfold maxLen; omega
  case c4 => omega
  case c5 => simp
  intro v' w1 hown hgrow hne
  have HO := Lib.hid hown
  have HB : Hid (Below w.heap.size w w1) := Lib.hid (((Below.refl _ _).alloc (Nat.le_refl _) _ : Below w.heap.size w (w.alloc (.cells #[] 36))).grown hgrow (by simp) (fun k hk => by simp [Value.ownBlock] at hk; omega))
  clear hown hgrow hne
  go_wp2_with fail
  go_ret
  rcases HO.out.2 with ⟨hv, h1⟩ | ⟨g', c', cur, rfl, _⟩
  · omega
  · exact ⟨g', c', rfl, HO.out, HB.out⟩
/-- A node's cells. -/
def ndc (f : Nat → Value) : List Value := (List.range 80).map f
theorem ndc_len (f : Nat → Value) : (ndc f).length = 80 := by simp [ndc]
theorem nall_is {base P p B G n c : Nat} {th : Nat → Bool} {vr_ : Nat → Int} {W : Nat → Nat → Value} (k : Nat) (hk : k < n) (ht : Hid (th k = true)) (w : World) (h : NdAt w base P p B G n c th vr_ W) (h1 : Hid (∀ j, j < 80 → (W k j).oneCell' = true)) :
    Calls Tryd.prog 49 #[.pointer (some ⟨P, 0, none⟩), .int .i64 k] w fun e w' => ∃ g' c', e = .returned (.slice (some ⟨g', 0, none⟩) 16 c') ∧ w'.ownsRow w.heap.size 36 5 (.slice (some ⟨g', 0, none⟩) 16 c') 16 (ndc (W k)) ∧ Below w.heap.size w w' := by
  have H := Lib.hid h
  have f0 := h.f0
  have f1 := h.f1
  have k0 : (0 : Int) ≤ k := by omega
  have k1 : (k : Int) < n := by omega
  have HC : Hid (∀ u ∈ ndc (W k), u.oneCell' = true) := Lib.hid (fun u hu => by
    obtain ⟨x, hx, rfl⟩ := List.mem_map.1 hu
    exact h1.out x (List.mem_range.1 hx))
  have HX : Hid (∀ j u, (ndc (W k))[j]? = some u → w.cell? (Addr.add ⟨G, k * 80, none⟩ j) = some u) := Lib.hid (fun j u hj => by
    have hlt : j < 80 := by
      rcases Nat.lt_or_ge j 80 with h' | h'
      · exact h'
      · rw [List.getElem?_eq_none (by rw [ndc_len]; omega)] at hj; cases hj
    rw [show Addr.add ⟨G, k * 80, none⟩ j = ⟨G, k * 80 + j, none⟩ by (unfold Addr.add; split <;> simp_all), H.out.cell k j hk hlt]
    simpa [ndc, hlt] using hj)
  clear h
  go_enter Tryd.func49, Tryd.ntmps49
  go_wp2_with (first
    | (go_at_call 54; (with_reducible refine (athere_in k hk true ht _ H.out.ar).mono ?_); rintro e w1 ⟨rfl, rfl⟩)
    | (go_at_call 104; (with_reducible refine (kclone_is G (k * 80) 16 16 (ndc (W k)) (Lib.hid (ndc_len _)) (by decide) (by decide) _ HX.out HC (H.out.row.lt G rfl).2).mono ?_); rintro e w2 ⟨g', c', rfl, hr, hb⟩; have HR := Lib.hid hr; have HB := Lib.hid hb; clear hr hb))
  go_ret
  exact ⟨g', c', rfl, HR.out, HB.out⟩
set_option maxRecDepth 100000 in
set_option maxHeartbeats 1000000 in
theorem nset_ok {base P p B G n c : Nat} {th : Nat → Bool} {vr_ : Nat → Int} {W : Nat → Nat → Value} (vs vr : Value) (k s : Nat) (hk : k < n) (hs : s < 16) (ht : Hid (th k = true)) (y0 y1 y2 y3 y4 : Int) (hy : Hid (rightB y0 y1 y2 y3 y4 = true)) (w : World) (hE : ErrsAt vs vr w) (h : NdAt w base P p B G n c th vr_ W) (hcell : Hid (∀ j, j < 80 → (W k j).oneCell' = true)) :
    Calls Tryd.prog 51 #[.pointer (some ⟨P, 0, none⟩), .int .i64 k, .int .i64 s, (Value.agg #[.int .i64 y0, .int .i64 y1, .int .i64 y2, .int .i64 y3, .int .u32 y4])] w fun e w' => e = .returned .nilIface ∧ NdAt w' base P p B G n c th vr_ (updV W k (s * 5) (k5 y0 y1 y2 y3 y4)) ∧ PBelow w w' B G := by
  have H := Lib.hid h
  have HE := Lib.hid hE
  have hlP := h.pl
  have up : ∀ (X : Obj) (b o : Nat) (v : Value), b < w.heap.size → w.cell? ⟨b, o, none⟩ = some v → (w.alloc X).cell? ⟨b, o, none⟩ = some v := fun X b o v hb hv => (World.cell?_alloc_lt w X ⟨b, o, none⟩ hb).trans hv
  have f0 : ∀ X, (w.alloc X).cell? ⟨P, 0, none⟩ = _ := fun X => up X P 0 _ hlP h.f0
  have a0 : (0 : Int) ≤ s := by omega
  have a1 : (s : Int) < 16 := by omega
  have k0 : (0 : Int) ≤ k := by omega
  have k1 : (k : Int) < n := by omega
  have HSl : Hid (∀ u : World, Calls Tryd.prog 108 #[.int .i64 s] u fun e w' => e = .returned (.bool true) ∧ u = w') := Lib.hid (fun u => by
    go_enter Tryd.func108, Tryd.ntmps108
    go_wp2
    go_ret
    exact ⟨rfl, rfl⟩)
  clear h hE up hlP
  go_enter Tryd.func51, Tryd.ntmps51
  go_wp2_with (first
    | (go_at_call 54; (with_reducible refine (athere_in k hk true ht _ (H.out.below ((Below.refl _ _).alloc (Nat.le_refl _) _)).ar).mono ?_); rintro e w1 ⟨rfl, rfl⟩)
    | (go_at_call 108; (with_reducible refine (HSl.out _).mono ?_); rintro e w1 ⟨rfl, rfl⟩)
    | (go_at_call 101; (with_reducible refine (nvalid_ok y0 y1 y2 y3 y4 hy vs vr _ (HE.out.below ((Below.refl _ _).alloc (Nat.le_refl _) _))).mono ?_); rintro e w1 ⟨rfl, hb⟩; have HB := Lib.hid hb; clear hb f0))
  have HD : Hid (Below w.heap.size w w1) := Lib.hid (((Below.refl _ _).alloc (Nat.le_refl _) _ : Below w.heap.size w _).trans (HB.out.mono (by simp)))
  have H1 := Lib.hid (H.out.below HD.out)
  have HS2 := Lib.hid (H1.out.cells k (s * 5) hk (k5 y0 y1 y2 y3 y4) (by simp [k5]; omega))
  have f1 := H1.out.f1
  have c0 := H1.out.cell k (s * 5) hk (by omega)
  have c1 := H1.out.cell k (s * 5 + 1) hk (by omega)
  have c2 := H1.out.cell k (s * 5 + 2) hk (by omega)
  have c3 := H1.out.cell k (s * 5 + 3) hk (by omega)
  have c4 := H1.out.cell k (s * 5 + 4) hk (by omega)
  rw [← Nat.add_assoc] at c1 c2 c3 c4
  have z0 := H1.out.row.frozenAt (k * 80 + s * 5)
  have z1 := H1.out.row.frozenAt (k * 80 + s * 5 + 1)
  have z2 := H1.out.row.frozenAt (k * 80 + s * 5 + 2)
  have z3 := H1.out.row.frozenAt (k * 80 + s * 5 + 3)
  have z4 := H1.out.row.frozenAt (k * 80 + s * 5 + 4)
  have b0 : w1.cell? ⟨w.heap.size, 0, none⟩ = some (.int .i64 y0) := (HB.out.cell (p := ⟨w.heap.size, 0, none⟩) (by simp)).trans (by simp)
  have b1 : w1.cell? ⟨w.heap.size, 1, none⟩ = some (.int .i64 y1) := (HB.out.cell (p := ⟨w.heap.size, 1, none⟩) (by simp)).trans (by simp)
  have b2 : w1.cell? ⟨w.heap.size, 2, none⟩ = some (.int .i64 y2) := (HB.out.cell (p := ⟨w.heap.size, 2, none⟩) (by simp)).trans (by simp)
  have b3 : w1.cell? ⟨w.heap.size, 3, none⟩ = some (.int .i64 y3) := (HB.out.cell (p := ⟨w.heap.size, 3, none⟩) (by simp)).trans (by simp)
  have b4 : w1.cell? ⟨w.heap.size, 4, none⟩ = some (.int .u32 y4) := (HB.out.cell (p := ⟨w.heap.size, 4, none⟩) (by simp)).trans (by simp)
  clear HB
  go_still_tail 9, (by kernel_rfl)
  change wpList _ _ _ _ _ w1.drew
  go_wp2_with fail
  go_ret
  exact ⟨rfl, HS2.out.1.below ((Below.refl _ _).drew), ((PBelow.of_below HD.out).trans (PBelow.of HS2.out.2 (.inr rfl))).trans (PBelow.of_below ((Below.refl _ _).drew))⟩
end Go.Proofs.YtdcdfaeokbdalaaDoor
namespace Go.Proofs.YtdcdfaeokbdalaaDoor
open Go.ChangeShapes Go.WideShapes Go.ChangeAt Go.RowKit
set_option linter.unusedVariables false
/-- A key lies in a slot. -/
def KAt (f : Nat → Value) (j : Nat) (y0 y1 y2 y3 y4 : Int) : Prop := f (j * 5) = .int .i64 y0 ∧ f (j * 5 + 1) = .int .i64 y1 ∧ f (j * 5 + 2) = .int .i64 y2 ∧ f (j * 5 + 3) = .int .i64 y3 ∧ f (j * 5 + 4) = .int .u32 y4
theorem freshV_q (W : Nat → Nat → Value) (i : Nat) (kk : Nat → Nat → Int) (m j q : Nat) (hj : j < m) (hq : q < 5) : freshV W i (kcs kk m) i (j * 5 + q) = kval q (kk j q) := by
  have h1 := freshV_in W i (kcs kk m) (j * 5 + q) (by rw [kcs_len]; omega)
  rw [kcs_at kk m j q hj hq] at h1
  exact Option.some.inj h1
theorem updV_q (W : Nat → Nat → Value) (i s : Nat) (y0 y1 y2 y3 y4 : Int) (q : Nat) (hq : q < 5) : some (updV W i (s * 5) (k5 y0 y1 y2 y3 y4) i (s * 5 + q)) = (k5 y0 y1 y2 y3 y4)[q]? := by
  have hl : (k5 y0 y1 y2 y3 y4).length = 5 := rfl
  unfold updV
  rw [if_pos ⟨rfl, by omega, by rw [hl]; omega⟩, show s * 5 + q - s * 5 = q by omega]
  rcases five q hq with rfl | rfl | rfl | rfl | rfl <;> rfl
theorem KAt.one {f : Nat → Value} (h : ∀ j, j < 16 → ∃ y0 y1 y2 y3 y4, KAt f j y0 y1 y2 y3 y4) : ∀ b, b < 80 → (f b).oneCell' = true := by
  intro b hb
  obtain ⟨y0, y1, y2, y3, y4, h0, h1, h2, h3, h4⟩ := h (b / 5) (by omega)
  have e : b = b / 5 * 5 + b % 5 := by omega
  rcases five (b % 5) (by omega) with hq | hq | hq | hq | hq
  · rw [e, hq, Nat.add_zero, h0]; rfl
  · rw [e, hq, h1]; rfl
  · rw [e, hq, h2]; rfl
  · rw [e, hq, h3]; rfl
  · rw [e, hq, h4]; rfl
end Go.Proofs.YtdcdfaeokbdalaaDoor
namespace Go.Proofs.YtdcdfaeokbdalaaDoor
open Go.ChangeShapes Go.WideShapes Go.ChangeAt Go.RowKit
set_option linter.unusedVariables false
/-- The cells of n meters: parent, ticks. -/
def mtc (th : Nat → Int) (vr : Nat → Int) : Nat → List Value
  | 0 => []
  | n + 1 => mtc th vr n ++ [.int .i64 (th n), .int .i64 (vr n)]
section
variable {w w' : World} {base P p B G n c : Nat} {th th' : Nat → Bool} {vr vr' pr pr' tk tk' : Nat → Int}
end
/-- j, j - 1, .. : m of them. -/
def dn (j m : Nat) : List Int := (List.range m).map fun q : Nat => (j : Int) - q
end Go.Proofs.YtdcdfaeokbdalaaDoor
namespace Go.Proofs.YtdcdfaeokbdalaaDoor
open Go.ChangeShapes Go.WideShapes Go.ChangeAt Go.RowKit
set_option linter.unusedVariables false
/-- q of the chain charged. -/
def decq (tk : Nat → Int) (j q : Nat) : Nat → Int := fun i => if j < i + q ∧ i ≤ j then tk i - 1 else tk i
end Go.Proofs.YtdcdfaeokbdalaaDoor
namespace Go.Proofs.YtdcdfaeokbdalaaDoor
open Go.ChangeShapes Go.WideShapes Go.ChangeAt Go.RowKit
set_option linter.unusedVariables false
section
variable {W0 w w' : World} {base P p B G n c : Nat} {th th' : Nat → Bool} {vr vr' pr pr' tk tk' : Nat → Int}
end
def t0 (zs : List Int) (i : Nat) : Int := zs.getD i 0 % 40
theorem t0_hi (zs : List Int) (i : Nat) : t0 zs i < 40 := Int.emod_lt_of_pos _ (by decide)
def prK (k : Nat) (i : Nat) : Int := if i < k then (i : Int) - 1 else 0
def tkK (zs : List Int) (k : Nat) (i : Nat) : Int := if i < k then t0 zs i else 0
def tkT (zs : List Int) (len : Nat) (m : Int) (i : Nat) : Int := if i < len then t0 zs i - m else 0
def LA (zs : List Int) (k : Nat) (L A : Int) : Prop := 0 ≤ L ∧ L ≤ 1073741824 ∧ (k = 0 ∧ L = 1073741824 ∧ A = -1 ∨ ∃ m : Nat, m < k ∧ A = m ∧ t0 zs m = L ∧ (∀ i, i < k → L ≤ t0 zs i) ∧ ∀ i, m < i → i < k → L < t0 zs i)
theorem LA.no {zs : List Int} {k : Nat} {L A : Int} (h : LA zs k L A) (hx : ¬ t0 zs k ≤ L) : LA zs (k + 1) L A := by
  have h2 := t0_hi zs k
  refine ⟨h.1, h.2.1, .inr ?_⟩
  rcases h.2.2 with ⟨rfl, e, _⟩ | ⟨m, h3, h4, h5, h6, h7⟩
  · omega
  · refine ⟨m, by omega, h4, h5, fun i hi => ?_, fun i h8 h9 => ?_⟩
    · by_cases e : i = k
      · subst e; omega
      · exact h6 i (by omega)
    · by_cases e : i = k
      · subst e; omega
      · exact h7 i h8 (by omega)
end Go.Proofs.YtdcdfaeokbdalaaDoor
namespace Go.Proofs.YtdcdfaeokbdalaaDoor
open Go.ChangeShapes Go.WideShapes Go.ChangeAt Go.RowKit
set_option linter.unusedVariables false
/-- What the law lays first. -/
def dN (i j : Nat) : Int := if j < 2 then ((i + j : Nat) : Int) else 0
def kN (j : Nat) : Int := if j < 2 then 1 else 0
def WN (W : Nat → Nat → Value) (k : Nat) : Prop := ∀ i, i < k → ∀ j, j < 16 → KAt (W i) j (kN j) 0 0 0 (dN i j)
def kk2 (x y : Int) (i q : Nat) : Int := if q = 0 then 1 else if q = 4 then (if i = 0 then x else y) else 0
/-- What the law lays then. -/
def kF (at_ s : Nat) (i j : Nat) : Int := if i = at_ ∧ j = s then 1 else kN j
def dF (at_ s : Nat) (v : Int) (i j : Nat) : Int := if i = at_ ∧ j = s then v else dN i j
def WF (W : Nat → Nat → Value) (n at_ s : Nat) (v : Int) : Prop := ∀ i, i < n → ∀ j, j < 16 → KAt (W i) j (kF at_ s i j) 0 0 0 (dF at_ s v i j)
/-- A key in a block of its own. -/
structure WantAt (w : World) (b : Nat) (y0 y1 y2 y3 y4 : Int) : Prop where
  lt : b < w.heap.size
  c0 : w.cell? ⟨b, 0, none⟩ = some (.int .i64 y0)
  c1 : w.cell? ⟨b, 1, none⟩ = some (.int .i64 y1)
  c2 : w.cell? ⟨b, 2, none⟩ = some (.int .i64 y2)
  c3 : w.cell? ⟨b, 3, none⟩ = some (.int .i64 y3)
  c4 : w.cell? ⟨b, 4, none⟩ = some (.int .u32 y4)
  fr : ∀ j, w.frozen? ⟨b, j, none⟩ = false
theorem WantAt.new (w : World) (T : TypeId) (y0 y1 y2 y3 y4 : Int) : WantAt (w.alloc (.cells #[.int .i64 y0, .int .i64 y1, .int .i64 y2, .int .i64 y3, .int .u32 y4] T (0, 0))) w.heap.size y0 y1 y2 y3 y4 :=
  ⟨by simp, by simp, by simp, by simp, by simp, by simp, fun j => by simp⟩
theorem WantAt.below {w w' : World} {b : Nat} {y0 y1 y2 y3 y4 : Int} (h : WantAt w b y0 y1 y2 y3 y4) (hb : Below w.heap.size w w') : WantAt w' b y0 y1 y2 y3 y4 :=
  ⟨Nat.lt_of_lt_of_le h.lt hb.size, (hb.cell (p := ⟨b, 0, none⟩) h.lt).trans h.c0, (hb.cell (p := ⟨b, 1, none⟩) h.lt).trans h.c1, (hb.cell (p := ⟨b, 2, none⟩) h.lt).trans h.c2, (hb.cell (p := ⟨b, 3, none⟩) h.lt).trans h.c3, (hb.cell (p := ⟨b, 4, none⟩) h.lt).trans h.c4, fun j => (hb.frozen (p := ⟨b, j, none⟩) h.lt).trans (h.fr j)⟩
theorem WantAt.set {w : World} {b : Nat} {y0 y1 y2 y3 y4 : Int} (h : WantAt w b y0 y1 y2 y3 y4) (z0 z1 z2 z3 z4 : Int) :
    WantAt (((((w.setCell ⟨b, 0, none⟩ (.int .i64 z0)).setCell ⟨b, 1, none⟩ (.int .i64 z1)).setCell ⟨b, 2, none⟩ (.int .i64 z2)).setCell ⟨b, 3, none⟩ (.int .i64 z3)).setCell ⟨b, 4, none⟩ (.int .u32 z4)) b z0 z1 z2 z3 z4 := by
  have hs : ∀ j, j < (k5 z0 z1 z2 z3 z4).length → (w.cell? ⟨b, 0 + j, none⟩).isSome = true := by
    intro j hj
    rw [Nat.zero_add]
    rcases five j hj with rfl | rfl | rfl | rfl | rfl
    · rw [h.c0]; rfl
    · rw [h.c1]; rfl
    · rw [h.c2]; rfl
    · rw [h.c3]; rfl
    · rw [h.c4]; rfl
  have all := World.cell?_setCells_in b (k5 z0 z1 z2 z3 z4) 0 w hs
  have hz : (w.setCells b 0 (k5 z0 z1 z2 z3 z4)).heap.size = w.heap.size := by simp [k5, World.setCells]
  exact ⟨Nat.lt_of_lt_of_le h.lt (Nat.le_of_eq hz.symm), all 0 (by simp [k5]), all 1 (by simp [k5]), all 2 (by simp [k5]), all 3 (by simp [k5]), all 4 (by simp [k5]), fun j => (World.frozen?_setCells b (k5 z0 z1 z2 z3 z4) 0 w ⟨b, j, none⟩).trans (h.fr j)⟩
end Go.Proofs.YtdcdfaeokbdalaaDoor
namespace Go.Proofs.YtdcdfaeokbdalaaDoor
open Go.ChangeShapes Go.WideShapes Go.ChangeAt Go.RowKit
set_option linter.unusedVariables false
/-- Pages over a law's start. -/
structure PV (W0 w : World) (base P p B G n c : Nat) (th : Nat → Bool) (vr : Nat → Int) (W : Nat → Nat → Int) : Prop where
  bel : Below W0.heap.size W0 w
  wb : W0.heap.size ≤ base
  pg : PgAt w base P p B G n c th vr W
section
variable {W0 w w' : World} {base P p B G n c : Nat} {th th' : Nat → Bool} {vr vr' : Nat → Int} {W W' : Nat → Nat → Int}
theorem PV.ar (h : PV W0 w base P p B G n c th vr W) : ArAt w base p B n c th vr := h.pg.ar
theorem PV.lo (h : PV W0 w base P p B G n c th vr W) : W0.heap.size ≤ B ∧ W0.heap.size ≤ G := ⟨Nat.le_trans h.wb h.pg.ar.lt.1, Nat.le_trans h.wb (h.pg.row.lt G rfl).1⟩
theorem PV.step (h : PV W0 w base P p B G n c th vr W) (hb : Below w.heap.size w w') : PV W0 w' base P p B G n c th vr W := ⟨h.bel.trans (hb.mono h.bel.size), h.wb, h.pg.below hb⟩
theorem PV.turn (h : PV W0 w base P p B G n c th vr W) (hA : ArAt w' base p B n c th' vr') (hg : w.grownBy w' (some B)) : PV W0 w' base P p B G n c th' vr' W := ⟨below_grown h.bel hg h.lo.1, h.wb, h.pg.turn hA hg⟩
theorem PV.made (h : PV W0 w base P p B G n c th vr W) (hP : PgAt w' base P p B G n c th' vr' W') (hb : PBelow w w' B G) : PV W0 w' base P p B G n c th' vr' W' := ⟨h.bel.trans (hb.below h.lo.1 h.lo.2 h.bel.size), h.wb, hP⟩
theorem PV.congr (h : PV W0 w base P p B G n c th vr W) (h1 : ∀ i, i < n → th i = th' i) (h2 : ∀ i, i < n → vr i = vr' i) : PV W0 w base P p B G n c th' vr' W := ⟨h.bel, h.wb, h.pg.congr h1 h2⟩
end
/-- Words that are read there. -/
def RU (w : World) (a : Option Addr) (xs : List Int) : Prop := ∀ j, j < xs.length → ∃ ad, a = some ad ∧ ad.block < w.heap.size ∧ w.cell? (ad.add j) = some (.int .u32 (xs.getD j 0))
theorem RU.below {w w' : World} {a : Option Addr} {xs : List Int} (h : RU w a xs) (hb : Below w.heap.size w w') : RU w' a xs := by
  intro i hi
  obtain ⟨ad, h1, h2, h3⟩ := h i hi
  exact ⟨ad, h1, Nat.lt_of_lt_of_le h2 hb.size, (hb.cell (p := ad.add i) (by rw [add_block']; exact h2)).trans h3⟩
end Go.Proofs.YtdcdfaeokbdalaaDoor
namespace Go.Proofs.YtdcdfaeokbdalaaDoor
open Go.ChangeShapes Go.WideShapes Go.ChangeAt Go.RowKit
set_option linter.unusedVariables false
/-- One word anew. -/
def updA (W : Nat → Nat → Int) (i j : Nat) (x : Int) : Nat → Nat → Int := fun a b => if a = i ∧ b = j then x else W a b
theorem flat_set (W : Nat → Nat → Int) (n i j : Nat) (x : Int) (hi : i < n) (hj : j < 32) : (flat W n).set (i * 32 + j) (.int .u32 x) = flat (updA W i j x) n := by
  apply List.ext_getElem?
  intro q
  by_cases hq : q < n * 32
  · by_cases e : q = i * 32 + j
    · subst e
      rw [List.getElem?_set_self (by rw [flat_len]; exact hq), flat_at _ n i j hi hj]
      simp [updA]
    · rw [List.getElem?_set_ne (by omega)]
      have : ¬ (q / 32 = i ∧ q % 32 = j) := by omega
      simp only [flat, List.getElem?_map, List.getElem?_range hq, Option.map_some, updA, if_neg this]
  · rw [List.getElem?_eq_none (by rw [List.length_set, flat_len]; omega), List.getElem?_eq_none (by rw [flat_len]; omega)]
section
variable {w w' : World} {base P p B G n c : Nat} {th : Nat → Bool} {vr : Nat → Int} {W : Nat → Nat → Int}
theorem PgAt.put (h : PgAt w base P p B G n c th vr W) (i j : Nat) (hi : i < n) (hj : j < 32) (x : Int) : PgAt (w.setCell ⟨G, i * 32 + j, none⟩ (.int .u32 x)) base P p B G n c th vr (updA W i j x) ∧ PBelow w (w.setCell ⟨G, i * 32 + j, none⟩ (.int .u32 x)) B G := by
  have hs := h.row.stored (i * 32 + j) (.int .u32 x)
  rw [flat_set W n i j x hi hj] at hs
  exact ⟨⟨Nat.lt_of_lt_of_le h.pl hs.2.size, h.pb, (World.cell?_of_block (a := ⟨P, 0, none⟩) (hs.2.block P h.pl (fun e => h.n2 (by injection e)))).trans h.f0, (World.cell?_of_block (a := ⟨P, 1, none⟩) (hs.2.block P h.pl (fun e => h.n2 (by injection e)))).trans h.f1, h.ar.kept hs.2 (Ne.symm h.n4) (Ne.symm h.n3), hs.1, h.n1, h.n2, h.n3, h.n4⟩, PBelow.of hs.2 (.inr rfl)⟩
theorem PgAt.kept {F : Nat} (h : PgAt w base P p B G n c th vr W) (hg : w.grownBy w' (some F)) (h1 : F ≠ P) (h2 : F ≠ p) (h3 : F ≠ B) (h4 : F ≠ G) : PgAt w' base P p B G n c th vr W :=
  ⟨Nat.lt_of_lt_of_le h.pl hg.size, h.pb, (World.cell?_of_block (a := ⟨P, 0, none⟩) (hg.block P h.pl (fun e => h1 (by injection e with e; exact e.symm)))).trans h.f0, (World.cell?_of_block (a := ⟨P, 1, none⟩) (hg.block P h.pl (fun e => h1 (by injection e with e; exact e.symm)))).trans h.f1, h.ar.kept hg (Ne.symm h2) (Ne.symm h3), h.row.kept hg (.inr (fun e => h4 (by simpa [Value.ownBlock] using e.symm))), h.n1, h.n2, h.n3, h.n4⟩
end
end Go.Proofs.YtdcdfaeokbdalaaDoor
namespace Go.Proofs.YtdcdfaeokbdalaaDoor
open Go.ChangeShapes Go.WideShapes Go.ChangeAt Go.RowKit
set_option linter.unusedVariables false
/-- The words while the pages are made. -/
def wk (k : Nat) : Nat → Nat → Int := fun a b => if a < k ∧ b < 2 then (a : Int) else 0
theorem flat_congr {W W' : Nat → Nat → Int} (n : Nat) (h : ∀ i j, j < 32 → W i j = W' i j) : flat W n = flat W' n := by
  unfold flat
  apply List.map_congr_left
  intro q _
  rw [h _ _ (Nat.mod_lt _ (by decide))]
theorem PV.words {W0 w : World} {base P p B G n c : Nat} {th : Nat → Bool} {vr : Nat → Int} {W W' : Nat → Nat → Int} (h : PV W0 w base P p B G n c th vr W) (h1 : ∀ i j, j < 32 → W i j = W' i j) : PV W0 w base P p B G n c th vr W' :=
  ⟨h.bel, h.wb, ⟨h.pg.pl, h.pg.pb, h.pg.f0, h.pg.f1, h.pg.ar, by rw [← flat_congr n h1]; exact h.pg.row, h.pg.n1, h.pg.n2, h.pg.n3, h.pg.n4⟩⟩
/-- The pages, and what was handed out of one. -/
structure LR (W0 w : World) (base P p B G n c : Nat) (th : Nat → Bool) (vr : Nat → Int) (W : Nat → Nat → Int) (g c' : Nat) : Prop where
  pv : PV W0 w base P p B G n c th vr W
  row : ∃ ys : List Int, ys.length = 32 ∧ w.ownsRow W0.heap.size 23 1 (.slice (some ⟨g, 0, none⟩) 32 c') 32 (ys.map (Value.int .u32))
  n1 : g ≠ P
  n2 : g ≠ p
  n3 : g ≠ B
  n4 : g ≠ G
section
variable {W0 w w' : World} {base P p B G n c g c' : Nat} {th : Nat → Bool} {vr : Nat → Int} {W : Nat → Nat → Int}
theorem LR.at (h : LR W0 w base P p B G n c th vr W g c') (k : Nat) (hk : k < 32) : ∃ x, w.cell? ⟨g, k, none⟩ = some (.int .u32 x) ∧ w.frozen? ⟨g, k, none⟩ = false := by
  obtain ⟨ys, hy, hr⟩ := h.row
  refine ⟨ys.getD k 0, ?_, hr.frozenAt k⟩
  rw [hr.cellAt k (by omega)]
  have : k < ys.length := by omega
  simp [List.getD, this]
theorem LR.put (h : LR W0 w base P p B G n c th vr W g c') (k : Nat) (x : Int) : LR W0 (w.setCell ⟨g, k, none⟩ (.int .u32 x)) base P p B G n c th vr W g c' := by
  obtain ⟨ys, hy, hr⟩ := h.row
  have hs := hr.stored k (.int .u32 x)
  refine ⟨⟨h.pv.bel.grown hs.2 h.pv.bel.size (fun j hj => by injection hj with e; have := (hr.lt g rfl).1; omega), h.pv.wb, h.pv.pg.kept hs.2 h.n1 h.n2 h.n3 h.n4⟩, ⟨ys.set k x, by simpa using hy, by rw [List.map_set]; exact hs.1⟩, h.n1, h.n2, h.n3, h.n4⟩
theorem LR.start (h : PV W0 w base P p B G n c th vr W) (xs : List Int) (hx : xs.length = 32) (hr : w'.ownsRow w.heap.size 23 1 (.slice (some ⟨g, 0, none⟩) 32 c') 32 (xs.map (Value.int .u32))) (hb : Below w.heap.size w w') : LR W0 w' base P p B G n c th vr W g c' := by
  have hg := (hr.lt g rfl).1
  have h1 := h.pg.pl
  have h2 := h.pg.ar.pl
  have h3 := h.pg.ar.lt.2
  have h4 := (h.pg.row.lt G rfl).2
  refine ⟨h.step hb, ⟨xs, hx, hr.1, ?_⟩, by omega, by omega, by omega, by omega⟩
  rcases hr.2 with h0 | ⟨g, cap, cur, hv, hB, rest⟩
  · exact .inl h0
  · exact .inr ⟨g, cap, cur, hv, Nat.le_trans h.bel.size hB, rest⟩
end
end Go.Proofs.YtdcdfaeokbdalaaDoor
namespace Go.Proofs.YtdcdfaeokbdalaaDoor
open Go.ChangeShapes Go.WideShapes Go.ChangeAt Go.RowKit
set_option linter.unusedVariables false
theorem plc_cells (th : Nat → Bool) (vr : Nat → Int) (n : Nat) : ∀ u ∈ plc th vr n, u.oneCell' = true := by
  induction n with
  | zero => intro u hu; simp [plc] at hu
  | succ n ih =>
    intro u hu
    rcases List.mem_append.1 hu with h | h
    · exact ih u h
    · simp at h
      rcases h with rfl | rfl <;> rfl
set_option maxRecDepth 100000 in
theorem aclone_is {base p B n c : Nat} {th : Nat → Bool} {vr : Nat → Int} (w : World) (hA : ArAt w base p B n c th vr) :
    Calls Tryd.prog 125 #[.slice (some ⟨B, 0, none⟩) n c] w fun e w' => ∃ v, e = .returned v ∧ w'.ownsRow w.heap.size 196 2 v n (plc th vr n) ∧ Below w.heap.size w w' := by
  obtain ⟨i0, hi, hz0, hz1, hz2⟩ := info_parts infoPlace
  have HI := Lib.hid (⟨hi, hz0, hz1, hz2⟩ : Tryd.prog.info? 196 = some i0 ∧ i0.zero = some (.agg #[.bool false, .int .i64 0]) ∧ i0.size = 2 ∧ i0.bytes = 16)
  clear hi hz0 hz1 hz2
  have HA := Lib.hid hA
  have hn := hA.le
  clear hA
  have hq := fun W : World => Lib.run_eql_slice_nil W 197 196 (some ⟨B, 0, none⟩) n c 0 0 Tryd.underlying197
  go_enter Tryd.func125, Tryd.ntmps125
  have HOwn : Hid ((w.alloc (.cells #[] 196)).ownsRow w.heap.size 196 2 (.slice (some ⟨w.heap.size, 0, none⟩) 0 0) 0 []) := Lib.hid ⟨rfl, .inr ⟨w.heap.size, 0, #[], rfl, Nat.le_refl _, heap_alloc_new _ _, by decide, by decide, by rfl, by rfl⟩⟩
  have HA1 := Lib.hid (HA.out.below ((Below.refl _ _).alloc (Nat.le_refl _) _ : Below w.heap.size w (w.alloc (.cells #[] 196))))
  go_wp2_with (first | (at_builtin; refine wpList_append_own _ rfl _ _ 197 rfl w.heap.size 196 i0 (.agg #[.bool false, .int .i64 0]) 2 16 Tryd.underlying197 HI.out.1 HI.out.2.1 HI.out.2.2.1 HI.out.2.2.2 rfl (by decide) _ _ _ rfl HOwn.out ⟨B, 0, none⟩ n c (plc th vr n) rfl ?c0 ?c1 ?c2 ?c3 ?c4 ?c5 ?_))
  case c0 => exact plc_len th vr n
  case c1 => exact HA1.out.own.cells rfl
  case c2 => exact plc_cells th vr n
  case c3 => unfold maxLen; omega
  case c4 => omega
  case c5 => simp
  intro v' w1 hown hgrow hne
  have HO : Hid (w1.ownsRow w.heap.size 196 2 v' n (plc th vr n)) := Lib.hid hown
  have HB : Hid (Below w.heap.size w w1) := Lib.hid (((Below.refl _ _).alloc (Nat.le_refl _) _ : Below w.heap.size w (w.alloc (.cells #[] 196))).grown hgrow (by simp) (fun k hk => by simp [Value.ownBlock] at hk; omega))
  clear hown hgrow hne
  go_wp2_with fail
  go_ret
  exact ⟨_, rfl, HO.out, HB.out⟩
theorem aclone_sl {base p B n c : Nat} {th : Nat → Bool} {vr : Nat → Int} (hn1 : 1 ≤ n) (w : World) (hA : ArAt w base p B n c th vr) :
    Calls Tryd.prog 125 #[.slice (some ⟨B, 0, none⟩) n c] w fun e w' => ∃ g c', e = .returned (.slice (some ⟨g, 0, none⟩) n c') ∧ w'.ownsRow w.heap.size 196 2 (.slice (some ⟨g, 0, none⟩) n c') n (plc th vr n) ∧ Below w.heap.size w w' := by
  refine (aclone_is w hA).mono fun e w' ⟨v, he, hown, hb⟩ => ?_
  rcases hown.2 with ⟨rfl, h0, _⟩ | ⟨g, cap, cur, rfl, hB, hg, rest⟩
  · omega
  · exact ⟨g, cap, he, hown, hb⟩
set_option maxRecDepth 100000 in
theorem acopy_is {base p B n c : Nat} {th : Nat → Bool} {vr : Nat → Int} (hn1 : 1 ≤ n) (w : World) (hA : ArAt w base p B n c th vr) :
    Calls Tryd.prog 80 #[.pointer (some ⟨p, 0, none⟩)] w fun e w' => ∃ p' B' c', e = .returned (.pointer (some ⟨p', 0, none⟩)) ∧ ArAt w' w.heap.size p' B' n c' th vr ∧ Below w.heap.size w w' := by
  have HA := Lib.hid hA
  have hf := hA.fld
  have hn := hA.le
  clear hA
  go_enter Tryd.func80, Tryd.ntmps80
  go_wp2_with (first | (go_at_call 125; refine (aclone_sl hn1 _ HA.out).mono ?_; rintro e w1 ⟨g, c', rfl, hown, hb⟩; have HO := Lib.hid hown; have HB := Lib.hid hb; clear hown hb))
  go_ret
  have hlt := (HO.out.lt g rfl).2
  exact ⟨_, g, c', rfl, ⟨by simp, HB.out.size, by simp, HO.out.alloc _, by omega, hn⟩, HB.out.alloc HB.out.size _⟩
end Go.Proofs.YtdcdfaeokbdalaaDoor
namespace Go.Proofs.YtdcdfaeokbdalaaDoor
open Go.ChangeShapes Go.WideShapes Go.ChangeAt Go.RowKit
set_option linter.unusedVariables false
section
variable {W w w' : World} {base p B n c F : Nat} {vr : Nat → Int}
/-- A row of numbers of the law's own. -/
def IR (w : World) (base F n : Nat) (vr : Nat → Int) : Prop := w.ownsRow base 3 1 (.slice (some ⟨F, 0, none⟩) n n) n ((List.range n).map fun i => Value.int .i64 (vr i))
theorem IR.at (h : IR w base F n vr) (k : Nat) (hk : k < n) : w.cell? ⟨F, k, none⟩ = some (.int .i64 (vr k)) := by
  have := World.ownsRow.cellAt h k (by omega)
  rw [this]
  simp [hk]
theorem IR.lt (h : IR w base F n vr) : base ≤ F ∧ F < w.heap.size := World.ownsRow.lt h F rfl
theorem IR.free (h : IR w base F n vr) (k : Nat) : w.frozen? ⟨F, k, none⟩ = false := World.ownsRow.frozenAt h k
theorem IR.below (h : IR w base F n vr) (hb : Below w.heap.size w w') : IR w' base F n vr := own_below h hb
theorem IR.kept (h : IR w base F n vr) (hg : w.grownBy w' (some B)) (hB : F ≠ B) : IR w' base F n vr := World.ownsRow.kept h hg (.inr (by simpa [Value.ownBlock] using hB))
theorem IR.set (h : IR w base F n vr) (k : Nat) (hk : k < n) (x : Int) : IR (w.setCell ⟨F, k, none⟩ (.int .i64 x)) base F n (upd vr k x) ∧ w.grownBy (w.setCell ⟨F, k, none⟩ (.int .i64 x)) (some F) := by
  have hs := World.ownsRow.stored h k (.int .i64 x)
  refine ⟨?_, hs.2⟩
  unfold IR
  have e : ((List.range n).map fun i => Value.int .i64 (upd vr k x i)) = ((List.range n).map fun i => Value.int .i64 (vr i)).set k (.int .i64 x) := by
    apply List.ext_getElem?
    intro j
    by_cases hj : j < n
    · by_cases e : j = k
      · subst e
        simp [upd, hj]
      · rw [List.getElem?_set_ne (by omega)]
        simp [upd, e, hj]
    · rw [List.getElem?_eq_none (by simp; omega), List.getElem?_eq_none (by simp; omega)]
  rw [e]
  exact hs.1
end
/-- The law's state: who is there, the versions, in the arena and in the law's own rows alike. -/
structure PS (W w : World) (base p B n c L V : Nat) (th lv : Nat → Bool) (va vr : Nat → Int) : Prop where
  vv : VV W w base p B n c th va
  lv : FR w W.heap.size L n lv
  vr : IR w W.heap.size V n vr
  lb : L ≠ B
  lp : L ≠ p
  vb : V ≠ B
  vp : V ≠ p
  lvn : L ≠ V
section
variable {W w w' : World} {base p B n c L V : Nat} {th th' lv lv' : Nat → Bool} {va va' vr vr' : Nat → Int}
theorem PS.step (h : PS W w base p B n c L V th lv va vr) (hb : Below w.heap.size w w') : PS W w' base p B n c L V th lv va vr := ⟨h.vv.step hb, h.lv.below hb, h.vr.below hb, h.lb, h.lp, h.vb, h.vp, h.lvn⟩
theorem PS.turn (h : PS W w base p B n c L V th lv va vr) (hA : ArAt w' base p B n c th' va') (hg : w.grownBy w' (some B)) : PS W w' base p B n c L V th' lv va' vr := ⟨h.vv.turn hA hg, h.lv.kept hg h.lb, h.vr.kept hg h.vb, h.lb, h.lp, h.vb, h.vp, h.lvn⟩
end
end Go.Proofs.YtdcdfaeokbdalaaDoor
namespace Go.Proofs.YtdcdfaeokbdalaaDoor
open Go.ChangeShapes Go.WideShapes Go.ChangeAt Go.RowKit
set_option linter.unusedVariables false
/-- A copy of pages: as pages, but its row may have room to spare. -/
structure PcAt (w : World) (base P p B G n c q : Nat) (th : Nat → Bool) (vr : Nat → Int) (W : Nat → Nat → Int) : Prop where
  pl : P < w.heap.size
  pb : base ≤ P
  f0 : w.cell? ⟨P, 0, none⟩ = some (.pointer (some ⟨p, 0, none⟩))
  f1 : w.cell? ⟨P, 1, none⟩ = some (.slice (some ⟨G, 0, none⟩) n q)
  ar : ArAt w base p B n c th vr
  row : w.ownsRow base 203 32 (.slice (some ⟨G, 0, none⟩) n q) n (flat W n)
theorem base_up {w : World} {B B' e s n : Nat} {v : Value} {xs : List Value} (h : w.ownsRow B e s v n xs) (hb : B' ≤ B) : w.ownsRow B' e s v n xs := by
  refine ⟨h.1, ?_⟩
  rcases h.2 with h0 | ⟨g, cap, cur, hv, hB, rest⟩
  · exact .inl h0
  · exact .inr ⟨g, cap, cur, hv, Nat.le_trans hb hB, rest⟩
section
variable {w X Y : World} {base P p B G n c : Nat} {th : Nat → Bool} {vr : Nat → Int} {W : Nat → Nat → Int}
end
end Go.Proofs.YtdcdfaeokbdalaaDoor
namespace Go.Proofs.YtdcdfaeokbdalaaDoor
open Go.Joins Go.ChangeShapes Go.WideShapes Go.ChangeAt Go.RowKit Go.Deep
set_option linter.unusedVariables false
/-- These cells are read as a value of this type. -/
def Reads (P : Program) (w : World) (t : TypeId) (cs : List Value) : Prop := ∃ (H : Type) (enc : TypeId × Value → H) (base fuel : Nat) (held : Bool) (x : DataW H × List MemPlace), DataW.trod enc P w base (fun _ => true) held fuel t cs = some x
section
variable {P : Program} {w : World} {t e : TypeId} {cs : List Value}
theorem Reads.of {H : Type} {enc : TypeId × Value → H} {base : Nat} {held : Bool} {v : Value} {d : DataW H} {p : List MemPlace} (h : DataW.Trod enc P w base (fun _ => true) held t v d p) : Reads P w t v.cells.toList := by
  obtain ⟨fuel, hf⟩ := h
  exact ⟨H, enc, base, fuel, held, _, hf⟩
theorem Reads.int {k : IntKind} (ht : P.underlying t = some (.int k)) (h : Reads P w t cs) : ∃ n : Int, cs = [.int k n] ∧ (Lit.int k n).wf = true := by
  obtain ⟨H, enc, base, fuel, held, x, hf⟩ := h
  obtain ⟨n, e1, _, e2⟩ := DataW.trod_int ht hf
  exact ⟨n, e1, e2⟩
theorem Reads.bool (ht : P.underlying t = some .bool) (h : Reads P w t cs) : ∃ b : Bool, cs = [.bool b] := by
  obtain ⟨H, enc, base, fuel, held, x, hf⟩ := h
  obtain ⟨b, e1, _⟩ := DataW.trod_bool ht hf
  exact ⟨b, e1⟩
theorem Reads.string (ht : P.underlying t = some .string) (h : Reads P w t cs) : ∃ s : ByteArray, cs = [.string s] ∧ s.size ≤ maxLen := by
  obtain ⟨H, enc, base, fuel, held, x, hf⟩ := h
  obtain ⟨s, e1, _, e2⟩ := DataW.trod_string ht hf
  exact ⟨s, e1, e2⟩
theorem Reads.struct {fs : Array Field} (ht : P.underlying t = some (.struct fs)) (h : Reads P w t cs) : cs.length = P.cellsOf t ∧ ∀ (i : Nat) (f : Field), fs[i]? = some f → Reads P w f.type ((cs.drop f.offset).take (P.cellsOf f.type)) := by
  obtain ⟨H, enc, base, fuel, held, x, hf⟩ := h
  obtain ⟨xs, n, _, _, hl, hxl, hg⟩ := DataW.trod_struct ht hf
  refine ⟨hl, fun i f hi => ?_⟩
  have hlt : i < xs.length := by
    have := (Array.getElem?_eq_some_iff.1 hi).1
    omega
  exact ⟨H, enc, base, n, held, _, (hg i f hi).trans (List.getElem?_eq_getElem hlt)⟩
/-- A slice: nil, or each of its elements is read. -/
theorem Reads.slice {a : Option Addr} {len cap : Nat} (ht : P.underlying t = some (.slice e)) (h : Reads P w t [.slice a len cap]) :
    (a = none ∧ len = 0 ∧ cap = 0) ∨ ∃ x, a = some x ∧ len ≤ cap ∧ cap ≤ maxLen ∧ ∀ i, i < cap → ∃ cs', cs'.length = P.cellsOf e ∧ (∀ j v, cs'[j]? = some v → w.cell? (x.add (i * P.cellsOf e + j)) = some v) ∧ Reads P w e cs' := by
  obtain ⟨H, enc, base, fuel, held, x, hf⟩ := h
  rcases open_slice ht hf with ⟨h0, _⟩ | ⟨y, l, c, m, n, D, Pl, hcs, hb, hl, hm, hmm, hx, hi⟩
  · simp at h0
    exact .inl h0
  · simp at hcs
    obtain ⟨rfl, rfl, rfl⟩ := hcs
    have hmc : m = cap := by simpa using hmm
    refine .inr ⟨_, rfl, hl, hm, fun i hic => ?_⟩
    obtain ⟨cs', hc, ht'⟩ := hi i (by omega)
    obtain ⟨_, hcl, hat⟩ := World.cells?_some hc
    refine ⟨cs', hcl, fun j v hj => ?_, H, enc, base, n, held, _, ht'⟩
    have hjl : j < cs'.length := (List.getElem?_eq_some_iff.1 hj).1
    rw [← Go.Deep.add_add, hat j (by omega), hj]
theorem Reads.slice' {v : Value} (ht : P.underlying t = some (.slice e)) (h : Reads P w t [v]) : ∃ a len cap, v = .slice a len cap := by
  obtain ⟨H, enc, base, fuel, held, x, hf⟩ := h
  rcases open_slice ht hf with ⟨h0, _⟩ | ⟨y, l, c, m, n, D, Pl, hcs, hb, hl, hm, hmm, hx, hi⟩
  · simp at h0; exact ⟨_, _, _, h0⟩
  · simp at hcs; exact ⟨_, _, _, hcs⟩
theorem Reads.rows {fs : Array Field} {a : Option Addr} {len cap : Nat} {ks : List IntKind} (ht : P.underlying t = some (.slice e)) (he : P.underlying e = some (.struct fs))
    (hone : oneCellFields P fs = true) (hC : P.cellsOf e = ks.length) (hfk : fs.size = ks.length) (hk : ∀ (j : Nat) (f : Field), fs[j]? = some f → ∃ k, ks[j]? = some k ∧ P.underlying f.type = some (.int k)) (h : Reads P w t [.slice a len cap]) : ∃ zs, IsRows ks w a len cap zs := by
  obtain ⟨H, enc, base, fuel, held, x, hf⟩ := h
  exact open_rows ht he hone hC hfk hk hf
/-- A field of one cell. -/
theorem Reads.cell {fs : Array Field} (ht : P.underlying t = some (.struct fs)) (h : Reads P w t cs) (i : Nat) (f : Field) (hf : fs[i]? = some f) (h1 : P.cellsOf f.type = 1) (ho : f.offset < P.cellsOf t) : ∃ v, cs[f.offset]? = some v ∧ Reads P w f.type [v] := by
  obtain ⟨hl, hg⟩ := h.struct ht
  have h2 := hg i f hf
  rw [h1] at h2
  have hlt : f.offset < cs.length := by omega
  refine ⟨cs[f.offset], List.getElem?_eq_getElem hlt, ?_⟩
  have e : (cs.drop f.offset).take 1 = [cs[f.offset]] := by
    rw [List.drop_eq_getElem_cons hlt]
    rfl
  rwa [e] at h2
end
end Go.Proofs.YtdcdfaeokbdalaaDoor
namespace Go.Proofs.YtdcdfaeokbdalaaDoor
open Go.ChangeShapes Go.WideShapes Go.ChangeAt Go.RowKit
set_option linter.unusedVariables false
theorem cell_in {w : World} {a : Addr} {v : Value} (h : w.cell? a = some v) : a.block < w.heap.size := by
  rcases Nat.lt_or_ge a.block w.heap.size with h' | h'
  · exact h'
  · simp [World.cell?, Array.getElem?_eq_none h'] at h
theorem add_more' (ad : Addr) (i j : Nat) : ad.add (i + (j + 1)) = ⟨(ad.add i).block, (ad.add i).off + (j + 1), none⟩ := by
  rw [← Go.Deep.add_add]
  rfl
/-- One thing that pages are told. -/
structure PDo (w : World) (ad : Addr) (kd id at_ x : Int) (a : Option Addr) (m c : Nat) (zs : List Int) : Prop where
  c0 : w.cell? ad = some (.int .i64 kd)
  c1 : w.cell? ⟨ad.block, ad.off + 1, none⟩ = some (.int .i64 id)
  c2 : w.cell? ⟨ad.block, ad.off + 2, none⟩ = some (.int .i64 at_)
  c3 : w.cell? ⟨ad.block, ad.off + 3, none⟩ = some (.int .u32 x)
  c4 : w.cell? ⟨ad.block, ad.off + 4, none⟩ = some (.slice a m c)
  ln : zs.length = m
  ru : RU w a zs
  mm : m ≤ 9223372036854775807
theorem PDo.below {w w' : World} {ad : Addr} {kd id at_ x : Int} {a : Option Addr} {m c : Nat} {zs : List Int} (h : PDo w ad kd id at_ x a m c zs) (hb : Below w.heap.size w w') : PDo w' ad kd id at_ x a m c zs := by
  have hl : ad.block < w.heap.size := cell_in h.c0
  exact ⟨(hb.cell (p := ad) hl).trans h.c0, (hb.cell (p := ⟨ad.block, ad.off + 1, none⟩) hl).trans h.c1, (hb.cell (p := ⟨ad.block, ad.off + 2, none⟩) hl).trans h.c2, (hb.cell (p := ⟨ad.block, ad.off + 3, none⟩) hl).trans h.c3, (hb.cell (p := ⟨ad.block, ad.off + 4, none⟩) hl).trans h.c4, h.ln, h.ru.below hb, h.mm⟩
/-- .. in a block of its own. -/
structure PDk (w : World) (dk : Nat) (kd id at_ x : Int) (da : Option Addr) (m c : Nat) : Prop where
  lt : dk < w.heap.size
  c0 : w.cell? ⟨dk, 0, none⟩ = some (.int .i64 kd)
  c1 : w.cell? ⟨dk, 1, none⟩ = some (.int .i64 id)
  c2 : w.cell? ⟨dk, 2, none⟩ = some (.int .i64 at_)
  c3 : w.cell? ⟨dk, 3, none⟩ = some (.int .u32 x)
  c4 : w.cell? ⟨dk, 4, none⟩ = some (.slice da m c)
theorem PDk.same {w w' : World} {dk m c : Nat} {kd id at_ x : Int} {da : Option Addr} (h : PDk w dk kd id at_ x da m c) (hb : w'.heap[dk]? = w.heap[dk]?) (hs : w.heap.size ≤ w'.heap.size) : PDk w' dk kd id at_ x da m c :=
  ⟨Nat.lt_of_lt_of_le h.lt hs, (World.cell?_of_block (a := ⟨dk, 0, none⟩) hb).trans h.c0, (World.cell?_of_block (a := ⟨dk, 1, none⟩) hb).trans h.c1, (World.cell?_of_block (a := ⟨dk, 2, none⟩) hb).trans h.c2, (World.cell?_of_block (a := ⟨dk, 3, none⟩) hb).trans h.c3, (World.cell?_of_block (a := ⟨dk, 4, none⟩) hb).trans h.c4⟩
theorem PDk.new (w : World) (kd id at_ x : Int) (da : Option Addr) (m c : Nat) (T : TypeId) : PDk (w.alloc (.cells #[.int .i64 kd, .int .i64 id, .int .i64 at_, .int .u32 x, .slice da m c] T)) w.heap.size kd id at_ x da m c := ⟨by simp, by simp, by simp, by simp, by simp, by simp⟩
/-- The blocks from N to M are as they were. -/
structure Mid (N M : Nat) (w w' : World) : Prop where
  size : M ≤ w'.heap.size
  block : ∀ k, N ≤ k → k < M → w'.heap[k]? = w.heap[k]?
theorem Mid.refl (N : Nat) (w : World) : Mid N w.heap.size w w := ⟨Nat.le_refl _, fun _ _ _ => rfl⟩
theorem Mid.step {N M : Nat} {w X Y : World} (h : Mid N M w X) (hb : Below X.heap.size X Y) : Mid N M w Y := ⟨Nat.le_trans h.size hb.size, fun k h1 h2 => (hb.block k (Nat.lt_of_lt_of_le h2 h.size)).trans (h.block k h1 h2)⟩
theorem Mid.made {N M B G : Nat} {w X Y : World} (h : Mid N M w X) (hb : PBelow X Y B G) (hB : B < N) (hG : G < N) : Mid N M w Y := ⟨Nat.le_trans h.size hb.2.2.2.1, fun k h1 h2 => (hb.2.2.2.2 k (Nat.lt_of_lt_of_le h2 h.size) (by omega) (by omega)).trans (h.block k h1 h2)⟩
theorem Mid.grown {N M g : Nat} {w X Y : World} (h : Mid N M w X) (hg : X.grownBy Y (some g)) (hN : g < N) : Mid N M w Y := ⟨Nat.le_trans h.size hg.size, fun k h1 h2 => (hg.block k (Nat.lt_of_lt_of_le h2 h.size) (fun e => by injection e with e; omega)).trans (h.block k h1 h2)⟩
theorem PDk.mid {N : Nat} {w w' : World} {dk m c : Nat} {kd id at_ x : Int} {da : Option Addr} (h : PDk w dk kd id at_ x da m c) (hN : N ≤ dk) (hm : Mid N w.heap.size w w') : PDk w' dk kd id at_ x da m c := h.same (hm.block dk hN h.lt) hm.size
theorem row_same {w w' : World} {B e s n : Nat} {v : Value} {xs : List Value} (h : w.ownsRow B e s v n xs) (hb : ∀ g, v.ownBlock = some g → w'.heap[g]? = w.heap[g]?) : w'.ownsRow B e s v n xs := by
  refine ⟨h.1, ?_⟩
  rcases h.2 with hn | ⟨g, cap, cur, rfl, hB, hg, rest⟩
  · exact .inl hn
  · exact .inr ⟨g, cap, cur, rfl, hB, (hb g rfl).trans hg, rest⟩
theorem row_mid {w w' : World} {N B e s n : Nat} {v : Value} {xs : List Value} (h : w.ownsRow B e s v n xs) (hN : N ≤ B) (hm : Mid N w.heap.size w w') : w'.ownsRow B e s v n xs :=
  row_same h fun g hg => hm.block g (Nat.le_trans hN (h.lt g hg).1) (h.lt g hg).2
theorem PcAt.mid {N base P p B G n c q : Nat} {w w' : World} {th : Nat → Bool} {vr : Nat → Int} {W : Nat → Nat → Int} (h : PcAt w base P p B G n c q th vr W) (hN : N ≤ base) (hm : Mid N w.heap.size w w') : PcAt w' base P p B G n c q th vr W := by
  have hP := hm.block P (Nat.le_trans hN h.pb) h.pl
  have hp := hm.block p (Nat.le_trans hN h.ar.pb) h.ar.pl
  exact ⟨Nat.lt_of_lt_of_le h.pl hm.size, h.pb, (World.cell?_of_block (a := ⟨P, 0, none⟩) hP).trans h.f0, (World.cell?_of_block (a := ⟨P, 1, none⟩) hP).trans h.f1,
    ⟨Nat.lt_of_lt_of_le h.ar.pl hm.size, h.ar.pb, (World.cell?_of_block (a := ⟨p, 0, none⟩) hp).trans h.ar.fld, row_mid h.ar.own hN hm, h.ar.ne, h.ar.le⟩, row_mid h.row hN hm⟩
/-- Words above N. -/
structure RN2 (w : World) (N : Nat) (a : Option Addr) (xs : List Int) : Prop where
  ru : RU w a xs
  lo : ∀ ad, a = some ad → N ≤ ad.block
theorem RN2.mid {N : Nat} {w w' : World} {a : Option Addr} {xs : List Int} (h : RN2 w N a xs) (hm : Mid N w.heap.size w w') : RU w' a xs := fun j hj => by
  obtain ⟨ad, h1, h2, h3⟩ := h.ru j hj
  exact ⟨ad, h1, Nat.lt_of_lt_of_le h2 hm.size, (World.cell?_of_block (a := ad.add j) (by rw [add_block']; exact hm.block _ (h.lo ad h1) h2)).trans h3⟩
/-- A page's words, if it is there. -/
def wlist (n : Nat) (th : Nat → Bool) (W : Nat → Nat → Int) (id : Int) : List Int := if thereB n th id = true then (List.range 32).map (fun j => W id.toNat j) else []
theorem there_nat {n : Nat} {th : Nat → Bool} {id : Int} (h : thereB n th id = true) : ∃ k : Nat, id = k ∧ k < n ∧ th k = true := by
  unfold thereB at h
  simp only [Bool.and_eq_true, decide_eq_true_eq] at h
  exact ⟨id.toNat, by omega, by omega, h.2⟩
/-- The word there, if any. -/
def wordB (n : Nat) (th : Nat → Bool) (id at_ : Int) : Bool := thereB n th id && decide (0 ≤ at_ ∧ at_ < 32)
section
variable {W0 w w' : World} {base P p B G c L H : Nat} {th th' tl : Nat → Bool} {vr vr' : Nat → Int} {W W' Wh : Nat → Nat → Int}
theorem PV.far {n F : Nat} (h : PV W0 w base P p B G n c th vr W) (hg : w.grownBy w' (some F)) (h0 : W0.heap.size ≤ F) (h1 : F ≠ P) (h2 : F ≠ p) (h3 : F ≠ B) (h4 : F ≠ G) : PV W0 w' base P p B G n c th vr W :=
  ⟨h.bel.grown hg h.bel.size (fun k hk => by injection hk with e; omega), h.wb, h.pg.kept hg h1 h2 h3 h4⟩
end
end Go.Proofs.YtdcdfaeokbdalaaDoor
namespace Go.Proofs.YtdcdfaeokbdalaaDoor
open Go.ChangeShapes Go.WideShapes Go.ChangeAt Go.RowKit
set_option linter.unusedVariables false
def manyOf (k : Int) : Int := if k = 2 ∨ k = 3 then 256 else if k = 8 then 64 else if k = 4 ∨ k = 5 ∨ k = 6 ∨ k = 7 ∨ k = 9 ∨ k = 10 then 32 else 1
theorem many_any (k : Int) (w : World) : Calls Tryd.prog 99 #[.int .i64 k] w fun e w' => e = .returned (.int .i64 (manyOf k)) ∧ w = w' := by
  by_cases h : k = 2 ∨ k = 3 ∨ k = 4 ∨ k = 5 ∨ k = 6 ∨ k = 7 ∨ k = 8 ∨ k = 9 ∨ k = 10
  · rcases h with rfl | rfl | rfl | rfl | rfl | rfl | rfl | rfl | rfl
    all_goals
      go_enter Tryd.func99, Tryd.ntmps99
      go_wp2
      go_ret
      exact ⟨rfl, rfl⟩
  · have h2 : ¬ k = 2 := by omega
    have h3 : ¬ k = 3 := by omega
    have h4 : ¬ k = 4 := by omega
    have h5 : ¬ k = 5 := by omega
    have h6 : ¬ k = 6 := by omega
    have h7 : ¬ k = 7 := by omega
    have h8 : ¬ k = 8 := by omega
    have h9 : ¬ k = 9 := by omega
    have h10 : ¬ k = 10 := by omega
    have e : manyOf k = 1 := by simp [manyOf, h2, h3, h4, h5, h6, h7, h8, h9, h10]
    rw [e]
    clear h e
    go_enter Tryd.func99, Tryd.ntmps99
    go_wp2
    go_ret
    exact ⟨rfl, rfl⟩
theorem many_is (k m : Int) (h : Hid (manyOf k = m)) (w : World) : Calls Tryd.prog 99 #[.int .i64 k] w fun e w' => e = .returned (.int .i64 m) ∧ w = w' := by
  rw [← h.out]; exact many_any k w
theorem quiet_left {P : Program} {f : FuncId} {args : Array Value} {w : World} {n : Nat} {v : Value}
    (h : Calls P f args (w.drewN n) fun e w' => e = .returned v ∧ w.drewN n = w') : Calls P f args (w.drewN n) fun e w'' => e = .returned v ∧ ∃ m, w'' = w.drewN m :=
  h.mono fun _ _ ⟨he, hm⟩ => ⟨he, n, hm.symm⟩

theorem valid_kind0 (k0 k1 k2 k3 k4 : Int) (h : k0 < 0) (w : World) :
    Calls Tryd.prog 37 #[(Value.agg #[.int .i64 k0, .int .i64 k1, .int .i64 k2, .int .i64 k3, .int .u32 k4])] w fun e w' => e = .returned (.int .i64 102) ∧ Below w.heap.size w w' := by
  go_enter Tryd.func37, Tryd.ntmps37
  go_wp2
  go_ret
  exact ⟨rfl, (Below.refl _ _).alloc (Nat.le_refl _) _⟩
theorem valid_kind1 (k0 k1 k2 k3 k4 : Int) (h : 14 < k0) (w : World) :
    Calls Tryd.prog 37 #[(Value.agg #[.int .i64 k0, .int .i64 k1, .int .i64 k2, .int .i64 k3, .int .u32 k4])] w fun e w' => e = .returned (.int .i64 102) ∧ Below w.heap.size w w' := by
  have e0 : decide (k0 < 0) = false := by rw [decide_eq_false_iff_not]; omega
  go_enter Tryd.func37, Tryd.ntmps37
  go_wp2
  go_ret
  exact ⟨rfl, (Below.refl _ _).alloc (Nat.le_refl _) _⟩
end Go.Proofs.YtdcdfaeokbdalaaDoor
namespace Go.Proofs.YtdcdfaeokbdalaaDoor
open Go.ChangeShapes Go.WideShapes Go.ChangeAt Go.RowKit
set_option linter.unusedVariables false
set_option maxHeartbeats 1000000 in
theorem valid_1_ok (k1 k2 k3 k4 : Int) (hm : Hid (manyOf 1 = 1)) (g1 : 0 ≤ k1) (g2 : k1 < 1) (g3 : 0 ≤ k2) (g4 : k2 ≤ 0) (g5 : 0 ≤ k3) (g6 : k3 ≤ 0) (g7 : k4 ≤ 4294967295) (w : World) :
    Calls Tryd.prog 37 #[Value.agg #[.int .i64 1, .int .i64 k1, .int .i64 k2, .int .i64 k3, .int .u32 k4]] w fun e w' => e = .returned (.int .i64 0) ∧ Below w.heap.size w w' := by
  have d0 : decide (k1 < 0) = false := by rw [decide_eq_false_iff_not]; omega
  have d1 : decide (1 ≤ k1) = false := by rw [decide_eq_false_iff_not]; omega
  have d2 : decide (k2 < 0) = false := by rw [decide_eq_false_iff_not]; omega
  have d3 : decide (0 < k2) = false := by rw [decide_eq_false_iff_not]; omega
  have d4 : decide (k3 < 0) = false := by rw [decide_eq_false_iff_not]; omega
  have d5 : decide (0 < k3) = false := by rw [decide_eq_false_iff_not]; omega
  have d6 : decide (4294967295 < k4) = false := by rw [decide_eq_false_iff_not]; omega
  go_enter Tryd.func37, Tryd.ntmps37
  go_wp2_with (first | (go_at_call 99; refine (many_is _ _ hm _).mono ?_; rintro e w' ⟨rfl, rfl⟩))
  go_quiet ((go_at_call 99; exact quiet_left (many_is _ _ hm _)))
  go_wp2
  go_ret
  exact ⟨rfl, below_drewN ((Below.refl _ _).alloc (Nat.le_refl _) _) _⟩
set_option maxHeartbeats 1000000 in
theorem valid_1_b0 (k1 k2 k3 k4 : Int) (hm : Hid (manyOf 1 = 1))  (g : ¬ 0 ≤ k1) (w : World) :
    Calls Tryd.prog 37 #[Value.agg #[.int .i64 1, .int .i64 k1, .int .i64 k2, .int .i64 k3, .int .u32 k4]] w fun e w' => e = .returned (.int .i64 103) ∧ Below w.heap.size w w' := by
  have d0 : decide (k1 < 0) = true := by rw [decide_eq_true_iff]; omega
  go_enter Tryd.func37, Tryd.ntmps37
  go_wp2_with (first | (go_at_call 99; refine (many_is _ _ hm _).mono ?_; rintro e w' ⟨rfl, rfl⟩))
  go_quiet ((go_at_call 99; exact quiet_left (many_is _ _ hm _)))
  go_wp2
  go_ret
  exact ⟨rfl, below_drewN ((Below.refl _ _).alloc (Nat.le_refl _) _) _⟩
set_option maxHeartbeats 1000000 in
theorem valid_1_b1 (k1 k2 k3 k4 : Int) (hm : Hid (manyOf 1 = 1)) (g0 : 0 ≤ k1) (g : ¬ k1 < 1) (w : World) :
    Calls Tryd.prog 37 #[Value.agg #[.int .i64 1, .int .i64 k1, .int .i64 k2, .int .i64 k3, .int .u32 k4]] w fun e w' => e = .returned (.int .i64 103) ∧ Below w.heap.size w w' := by
  have d0 : decide (k1 < 0) = false := by rw [decide_eq_false_iff_not]; omega
  have d1 : decide (1 ≤ k1) = true := by rw [decide_eq_true_iff]; omega
  go_enter Tryd.func37, Tryd.ntmps37
  go_wp2_with (first | (go_at_call 99; refine (many_is _ _ hm _).mono ?_; rintro e w' ⟨rfl, rfl⟩))
  go_quiet ((go_at_call 99; exact quiet_left (many_is _ _ hm _)))
  go_wp2
  go_ret
  exact ⟨rfl, below_drewN ((Below.refl _ _).alloc (Nat.le_refl _) _) _⟩
set_option maxHeartbeats 1000000 in
theorem valid_1_b2 (k1 k2 k3 k4 : Int) (hm : Hid (manyOf 1 = 1)) (g0 : 0 ≤ k1) (g1 : k1 < 1) (g : ¬ 0 ≤ k2) (w : World) :
    Calls Tryd.prog 37 #[Value.agg #[.int .i64 1, .int .i64 k1, .int .i64 k2, .int .i64 k3, .int .u32 k4]] w fun e w' => e = .returned (.int .i64 103) ∧ Below w.heap.size w w' := by
  have d0 : decide (k1 < 0) = false := by rw [decide_eq_false_iff_not]; omega
  have d1 : decide (1 ≤ k1) = false := by rw [decide_eq_false_iff_not]; omega
  have d2 : decide (k2 < 0) = true := by rw [decide_eq_true_iff]; omega
  go_enter Tryd.func37, Tryd.ntmps37
  go_wp2_with (first | (go_at_call 99; refine (many_is _ _ hm _).mono ?_; rintro e w' ⟨rfl, rfl⟩))
  go_quiet ((go_at_call 99; exact quiet_left (many_is _ _ hm _)))
  go_wp2
  go_ret
  exact ⟨rfl, below_drewN ((Below.refl _ _).alloc (Nat.le_refl _) _) _⟩
set_option maxHeartbeats 1000000 in
theorem valid_1_b3 (k1 k2 k3 k4 : Int) (hm : Hid (manyOf 1 = 1)) (g0 : 0 ≤ k1) (g1 : k1 < 1) (g2 : 0 ≤ k2) (g : ¬ k2 ≤ 0) (w : World) :
    Calls Tryd.prog 37 #[Value.agg #[.int .i64 1, .int .i64 k1, .int .i64 k2, .int .i64 k3, .int .u32 k4]] w fun e w' => e = .returned (.int .i64 103) ∧ Below w.heap.size w w' := by
  have d0 : decide (k1 < 0) = false := by rw [decide_eq_false_iff_not]; omega
  have d1 : decide (1 ≤ k1) = false := by rw [decide_eq_false_iff_not]; omega
  have d2 : decide (k2 < 0) = false := by rw [decide_eq_false_iff_not]; omega
  have d3 : decide (0 < k2) = true := by rw [decide_eq_true_iff]; omega
  go_enter Tryd.func37, Tryd.ntmps37
  go_wp2_with (first | (go_at_call 99; refine (many_is _ _ hm _).mono ?_; rintro e w' ⟨rfl, rfl⟩))
  go_quiet ((go_at_call 99; exact quiet_left (many_is _ _ hm _)))
  go_wp2
  go_ret
  exact ⟨rfl, below_drewN ((Below.refl _ _).alloc (Nat.le_refl _) _) _⟩
set_option maxHeartbeats 1000000 in
theorem valid_1_b4 (k1 k2 k3 k4 : Int) (hm : Hid (manyOf 1 = 1)) (g0 : 0 ≤ k1) (g1 : k1 < 1) (g2 : 0 ≤ k2) (g3 : k2 ≤ 0) (g : ¬ 0 ≤ k3) (w : World) :
    Calls Tryd.prog 37 #[Value.agg #[.int .i64 1, .int .i64 k1, .int .i64 k2, .int .i64 k3, .int .u32 k4]] w fun e w' => e = .returned (.int .i64 103) ∧ Below w.heap.size w w' := by
  have d0 : decide (k1 < 0) = false := by rw [decide_eq_false_iff_not]; omega
  have d1 : decide (1 ≤ k1) = false := by rw [decide_eq_false_iff_not]; omega
  have d2 : decide (k2 < 0) = false := by rw [decide_eq_false_iff_not]; omega
  have d3 : decide (0 < k2) = false := by rw [decide_eq_false_iff_not]; omega
  have d4 : decide (k3 < 0) = true := by rw [decide_eq_true_iff]; omega
  go_enter Tryd.func37, Tryd.ntmps37
  go_wp2_with (first | (go_at_call 99; refine (many_is _ _ hm _).mono ?_; rintro e w' ⟨rfl, rfl⟩))
  go_quiet ((go_at_call 99; exact quiet_left (many_is _ _ hm _)))
  go_wp2
  go_ret
  exact ⟨rfl, below_drewN ((Below.refl _ _).alloc (Nat.le_refl _) _) _⟩
set_option maxHeartbeats 1000000 in
theorem valid_1_b5 (k1 k2 k3 k4 : Int) (hm : Hid (manyOf 1 = 1)) (g0 : 0 ≤ k1) (g1 : k1 < 1) (g2 : 0 ≤ k2) (g3 : k2 ≤ 0) (g4 : 0 ≤ k3) (g : ¬ k3 ≤ 0) (w : World) :
    Calls Tryd.prog 37 #[Value.agg #[.int .i64 1, .int .i64 k1, .int .i64 k2, .int .i64 k3, .int .u32 k4]] w fun e w' => e = .returned (.int .i64 103) ∧ Below w.heap.size w w' := by
  have d0 : decide (k1 < 0) = false := by rw [decide_eq_false_iff_not]; omega
  have d1 : decide (1 ≤ k1) = false := by rw [decide_eq_false_iff_not]; omega
  have d2 : decide (k2 < 0) = false := by rw [decide_eq_false_iff_not]; omega
  have d3 : decide (0 < k2) = false := by rw [decide_eq_false_iff_not]; omega
  have d4 : decide (k3 < 0) = false := by rw [decide_eq_false_iff_not]; omega
  have d5 : decide (0 < k3) = true := by rw [decide_eq_true_iff]; omega
  go_enter Tryd.func37, Tryd.ntmps37
  go_wp2_with (first | (go_at_call 99; refine (many_is _ _ hm _).mono ?_; rintro e w' ⟨rfl, rfl⟩))
  go_quiet ((go_at_call 99; exact quiet_left (many_is _ _ hm _)))
  go_wp2
  go_ret
  exact ⟨rfl, below_drewN ((Below.refl _ _).alloc (Nat.le_refl _) _) _⟩
set_option maxHeartbeats 1000000 in
theorem valid_1_b6 (k1 k2 k3 k4 : Int) (hm : Hid (manyOf 1 = 1)) (g0 : 0 ≤ k1) (g1 : k1 < 1) (g2 : 0 ≤ k2) (g3 : k2 ≤ 0) (g4 : 0 ≤ k3) (g5 : k3 ≤ 0) (g : ¬ k4 ≤ 4294967295) (gu : k4 ≤ 4294967295) (w : World) :
    Calls Tryd.prog 37 #[Value.agg #[.int .i64 1, .int .i64 k1, .int .i64 k2, .int .i64 k3, .int .u32 k4]] w fun e w' => e = .returned (.int .i64 103) ∧ Below w.heap.size w w' := by
  omega
set_option maxHeartbeats 1000000 in
theorem valid_2_ok (k1 k2 k3 k4 : Int) (hm : Hid (manyOf 2 = 256)) (g1 : 0 ≤ k1) (g2 : k1 < 256) (g3 : 0 ≤ k2) (g4 : k2 ≤ 1048575) (g5 : 0 ≤ k3) (g6 : k3 ≤ 7) (g7 : k4 ≤ 4) (w : World) :
    Calls Tryd.prog 37 #[Value.agg #[.int .i64 2, .int .i64 k1, .int .i64 k2, .int .i64 k3, .int .u32 k4]] w fun e w' => e = .returned (.int .i64 0) ∧ Below w.heap.size w w' := by
  have d0 : decide (k1 < 0) = false := by rw [decide_eq_false_iff_not]; omega
  have d1 : decide (256 ≤ k1) = false := by rw [decide_eq_false_iff_not]; omega
  have d2 : decide (k2 < 0) = false := by rw [decide_eq_false_iff_not]; omega
  have d3 : decide (1048575 < k2) = false := by rw [decide_eq_false_iff_not]; omega
  have d4 : decide (k3 < 0) = false := by rw [decide_eq_false_iff_not]; omega
  have d5 : decide (7 < k3) = false := by rw [decide_eq_false_iff_not]; omega
  have d6 : decide (4 < k4) = false := by rw [decide_eq_false_iff_not]; omega
  go_enter Tryd.func37, Tryd.ntmps37
  go_wp2_with (first | (go_at_call 99; refine (many_is _ _ hm _).mono ?_; rintro e w' ⟨rfl, rfl⟩))
  go_quiet ((go_at_call 99; exact quiet_left (many_is _ _ hm _)))
  go_wp2
  go_ret
  exact ⟨rfl, below_drewN ((Below.refl _ _).alloc (Nat.le_refl _) _) _⟩
set_option maxHeartbeats 1000000 in
theorem valid_2_b0 (k1 k2 k3 k4 : Int) (hm : Hid (manyOf 2 = 256))  (g : ¬ 0 ≤ k1) (w : World) :
    Calls Tryd.prog 37 #[Value.agg #[.int .i64 2, .int .i64 k1, .int .i64 k2, .int .i64 k3, .int .u32 k4]] w fun e w' => e = .returned (.int .i64 103) ∧ Below w.heap.size w w' := by
  have d0 : decide (k1 < 0) = true := by rw [decide_eq_true_iff]; omega
  go_enter Tryd.func37, Tryd.ntmps37
  go_wp2_with (first | (go_at_call 99; refine (many_is _ _ hm _).mono ?_; rintro e w' ⟨rfl, rfl⟩))
  go_quiet ((go_at_call 99; exact quiet_left (many_is _ _ hm _)))
  go_wp2
  go_ret
  exact ⟨rfl, below_drewN ((Below.refl _ _).alloc (Nat.le_refl _) _) _⟩
set_option maxHeartbeats 1000000 in
theorem valid_2_b1 (k1 k2 k3 k4 : Int) (hm : Hid (manyOf 2 = 256)) (g0 : 0 ≤ k1) (g : ¬ k1 < 256) (w : World) :
    Calls Tryd.prog 37 #[Value.agg #[.int .i64 2, .int .i64 k1, .int .i64 k2, .int .i64 k3, .int .u32 k4]] w fun e w' => e = .returned (.int .i64 103) ∧ Below w.heap.size w w' := by
  have d0 : decide (k1 < 0) = false := by rw [decide_eq_false_iff_not]; omega
  have d1 : decide (256 ≤ k1) = true := by rw [decide_eq_true_iff]; omega
  go_enter Tryd.func37, Tryd.ntmps37
  go_wp2_with (first | (go_at_call 99; refine (many_is _ _ hm _).mono ?_; rintro e w' ⟨rfl, rfl⟩))
  go_quiet ((go_at_call 99; exact quiet_left (many_is _ _ hm _)))
  go_wp2
  go_ret
  exact ⟨rfl, below_drewN ((Below.refl _ _).alloc (Nat.le_refl _) _) _⟩
set_option maxHeartbeats 1000000 in
theorem valid_2_b2 (k1 k2 k3 k4 : Int) (hm : Hid (manyOf 2 = 256)) (g0 : 0 ≤ k1) (g1 : k1 < 256) (g : ¬ 0 ≤ k2) (w : World) :
    Calls Tryd.prog 37 #[Value.agg #[.int .i64 2, .int .i64 k1, .int .i64 k2, .int .i64 k3, .int .u32 k4]] w fun e w' => e = .returned (.int .i64 103) ∧ Below w.heap.size w w' := by
  have d0 : decide (k1 < 0) = false := by rw [decide_eq_false_iff_not]; omega
  have d1 : decide (256 ≤ k1) = false := by rw [decide_eq_false_iff_not]; omega
  have d2 : decide (k2 < 0) = true := by rw [decide_eq_true_iff]; omega
  go_enter Tryd.func37, Tryd.ntmps37
  go_wp2_with (first | (go_at_call 99; refine (many_is _ _ hm _).mono ?_; rintro e w' ⟨rfl, rfl⟩))
  go_quiet ((go_at_call 99; exact quiet_left (many_is _ _ hm _)))
  go_wp2
  go_ret
  exact ⟨rfl, below_drewN ((Below.refl _ _).alloc (Nat.le_refl _) _) _⟩
set_option maxHeartbeats 1000000 in
theorem valid_2_b3 (k1 k2 k3 k4 : Int) (hm : Hid (manyOf 2 = 256)) (g0 : 0 ≤ k1) (g1 : k1 < 256) (g2 : 0 ≤ k2) (g : ¬ k2 ≤ 1048575) (w : World) :
    Calls Tryd.prog 37 #[Value.agg #[.int .i64 2, .int .i64 k1, .int .i64 k2, .int .i64 k3, .int .u32 k4]] w fun e w' => e = .returned (.int .i64 103) ∧ Below w.heap.size w w' := by
  have d0 : decide (k1 < 0) = false := by rw [decide_eq_false_iff_not]; omega
  have d1 : decide (256 ≤ k1) = false := by rw [decide_eq_false_iff_not]; omega
  have d2 : decide (k2 < 0) = false := by rw [decide_eq_false_iff_not]; omega
  have d3 : decide (1048575 < k2) = true := by rw [decide_eq_true_iff]; omega
  go_enter Tryd.func37, Tryd.ntmps37
  go_wp2_with (first | (go_at_call 99; refine (many_is _ _ hm _).mono ?_; rintro e w' ⟨rfl, rfl⟩))
  go_quiet ((go_at_call 99; exact quiet_left (many_is _ _ hm _)))
  go_wp2
  go_ret
  exact ⟨rfl, below_drewN ((Below.refl _ _).alloc (Nat.le_refl _) _) _⟩
set_option maxHeartbeats 1000000 in
theorem valid_2_b4 (k1 k2 k3 k4 : Int) (hm : Hid (manyOf 2 = 256)) (g0 : 0 ≤ k1) (g1 : k1 < 256) (g2 : 0 ≤ k2) (g3 : k2 ≤ 1048575) (g : ¬ 0 ≤ k3) (w : World) :
    Calls Tryd.prog 37 #[Value.agg #[.int .i64 2, .int .i64 k1, .int .i64 k2, .int .i64 k3, .int .u32 k4]] w fun e w' => e = .returned (.int .i64 103) ∧ Below w.heap.size w w' := by
  have d0 : decide (k1 < 0) = false := by rw [decide_eq_false_iff_not]; omega
  have d1 : decide (256 ≤ k1) = false := by rw [decide_eq_false_iff_not]; omega
  have d2 : decide (k2 < 0) = false := by rw [decide_eq_false_iff_not]; omega
  have d3 : decide (1048575 < k2) = false := by rw [decide_eq_false_iff_not]; omega
  have d4 : decide (k3 < 0) = true := by rw [decide_eq_true_iff]; omega
  go_enter Tryd.func37, Tryd.ntmps37
  go_wp2_with (first | (go_at_call 99; refine (many_is _ _ hm _).mono ?_; rintro e w' ⟨rfl, rfl⟩))
  go_quiet ((go_at_call 99; exact quiet_left (many_is _ _ hm _)))
  go_wp2
  go_ret
  exact ⟨rfl, below_drewN ((Below.refl _ _).alloc (Nat.le_refl _) _) _⟩
set_option maxHeartbeats 1000000 in
theorem valid_2_b5 (k1 k2 k3 k4 : Int) (hm : Hid (manyOf 2 = 256)) (g0 : 0 ≤ k1) (g1 : k1 < 256) (g2 : 0 ≤ k2) (g3 : k2 ≤ 1048575) (g4 : 0 ≤ k3) (g : ¬ k3 ≤ 7) (w : World) :
    Calls Tryd.prog 37 #[Value.agg #[.int .i64 2, .int .i64 k1, .int .i64 k2, .int .i64 k3, .int .u32 k4]] w fun e w' => e = .returned (.int .i64 103) ∧ Below w.heap.size w w' := by
  have d0 : decide (k1 < 0) = false := by rw [decide_eq_false_iff_not]; omega
  have d1 : decide (256 ≤ k1) = false := by rw [decide_eq_false_iff_not]; omega
  have d2 : decide (k2 < 0) = false := by rw [decide_eq_false_iff_not]; omega
  have d3 : decide (1048575 < k2) = false := by rw [decide_eq_false_iff_not]; omega
  have d4 : decide (k3 < 0) = false := by rw [decide_eq_false_iff_not]; omega
  have d5 : decide (7 < k3) = true := by rw [decide_eq_true_iff]; omega
  go_enter Tryd.func37, Tryd.ntmps37
  go_wp2_with (first | (go_at_call 99; refine (many_is _ _ hm _).mono ?_; rintro e w' ⟨rfl, rfl⟩))
  go_quiet ((go_at_call 99; exact quiet_left (many_is _ _ hm _)))
  go_wp2
  go_ret
  exact ⟨rfl, below_drewN ((Below.refl _ _).alloc (Nat.le_refl _) _) _⟩
set_option maxHeartbeats 1000000 in
theorem valid_2_b6 (k1 k2 k3 k4 : Int) (hm : Hid (manyOf 2 = 256)) (g0 : 0 ≤ k1) (g1 : k1 < 256) (g2 : 0 ≤ k2) (g3 : k2 ≤ 1048575) (g4 : 0 ≤ k3) (g5 : k3 ≤ 7) (g : ¬ k4 ≤ 4) (w : World) :
    Calls Tryd.prog 37 #[Value.agg #[.int .i64 2, .int .i64 k1, .int .i64 k2, .int .i64 k3, .int .u32 k4]] w fun e w' => e = .returned (.int .i64 103) ∧ Below w.heap.size w w' := by
  have d0 : decide (k1 < 0) = false := by rw [decide_eq_false_iff_not]; omega
  have d1 : decide (256 ≤ k1) = false := by rw [decide_eq_false_iff_not]; omega
  have d2 : decide (k2 < 0) = false := by rw [decide_eq_false_iff_not]; omega
  have d3 : decide (1048575 < k2) = false := by rw [decide_eq_false_iff_not]; omega
  have d4 : decide (k3 < 0) = false := by rw [decide_eq_false_iff_not]; omega
  have d5 : decide (7 < k3) = false := by rw [decide_eq_false_iff_not]; omega
  have d6 : decide (4 < k4) = true := by rw [decide_eq_true_iff]; omega
  go_enter Tryd.func37, Tryd.ntmps37
  go_wp2_with (first | (go_at_call 99; refine (many_is _ _ hm _).mono ?_; rintro e w' ⟨rfl, rfl⟩))
  go_quiet ((go_at_call 99; exact quiet_left (many_is _ _ hm _)))
  go_wp2
  go_ret
  exact ⟨rfl, below_drewN ((Below.refl _ _).alloc (Nat.le_refl _) _) _⟩
end Go.Proofs.YtdcdfaeokbdalaaDoor
namespace Go.Proofs.YtdcdfaeokbdalaaDoor
open Go.ChangeShapes Go.WideShapes Go.ChangeAt Go.RowKit
set_option linter.unusedVariables false
set_option maxHeartbeats 1000000 in
theorem valid_3_ok (k1 k2 k3 k4 : Int) (hm : Hid (manyOf 3 = 256)) (g1 : 0 ≤ k1) (g2 : k1 < 256) (g3 : 0 ≤ k2) (g4 : k2 ≤ 1048575) (g5 : 0 ≤ k3) (g6 : k3 ≤ 7) (g7 : k4 ≤ 0) (w : World) :
    Calls Tryd.prog 37 #[Value.agg #[.int .i64 3, .int .i64 k1, .int .i64 k2, .int .i64 k3, .int .u32 k4]] w fun e w' => e = .returned (.int .i64 0) ∧ Below w.heap.size w w' := by
  have d0 : decide (k1 < 0) = false := by rw [decide_eq_false_iff_not]; omega
  have d1 : decide (256 ≤ k1) = false := by rw [decide_eq_false_iff_not]; omega
  have d2 : decide (k2 < 0) = false := by rw [decide_eq_false_iff_not]; omega
  have d3 : decide (1048575 < k2) = false := by rw [decide_eq_false_iff_not]; omega
  have d4 : decide (k3 < 0) = false := by rw [decide_eq_false_iff_not]; omega
  have d5 : decide (7 < k3) = false := by rw [decide_eq_false_iff_not]; omega
  have d6 : decide (0 < k4) = false := by rw [decide_eq_false_iff_not]; omega
  go_enter Tryd.func37, Tryd.ntmps37
  go_wp2_with (first | (go_at_call 99; refine (many_is _ _ hm _).mono ?_; rintro e w' ⟨rfl, rfl⟩))
  go_quiet ((go_at_call 99; exact quiet_left (many_is _ _ hm _)))
  go_wp2
  go_ret
  exact ⟨rfl, below_drewN ((Below.refl _ _).alloc (Nat.le_refl _) _) _⟩
set_option maxHeartbeats 1000000 in
theorem valid_3_b0 (k1 k2 k3 k4 : Int) (hm : Hid (manyOf 3 = 256))  (g : ¬ 0 ≤ k1) (w : World) :
    Calls Tryd.prog 37 #[Value.agg #[.int .i64 3, .int .i64 k1, .int .i64 k2, .int .i64 k3, .int .u32 k4]] w fun e w' => e = .returned (.int .i64 103) ∧ Below w.heap.size w w' := by
  have d0 : decide (k1 < 0) = true := by rw [decide_eq_true_iff]; omega
  go_enter Tryd.func37, Tryd.ntmps37
  go_wp2_with (first | (go_at_call 99; refine (many_is _ _ hm _).mono ?_; rintro e w' ⟨rfl, rfl⟩))
  go_quiet ((go_at_call 99; exact quiet_left (many_is _ _ hm _)))
  go_wp2
  go_ret
  exact ⟨rfl, below_drewN ((Below.refl _ _).alloc (Nat.le_refl _) _) _⟩
set_option maxHeartbeats 1000000 in
theorem valid_3_b1 (k1 k2 k3 k4 : Int) (hm : Hid (manyOf 3 = 256)) (g0 : 0 ≤ k1) (g : ¬ k1 < 256) (w : World) :
    Calls Tryd.prog 37 #[Value.agg #[.int .i64 3, .int .i64 k1, .int .i64 k2, .int .i64 k3, .int .u32 k4]] w fun e w' => e = .returned (.int .i64 103) ∧ Below w.heap.size w w' := by
  have d0 : decide (k1 < 0) = false := by rw [decide_eq_false_iff_not]; omega
  have d1 : decide (256 ≤ k1) = true := by rw [decide_eq_true_iff]; omega
  go_enter Tryd.func37, Tryd.ntmps37
  go_wp2_with (first | (go_at_call 99; refine (many_is _ _ hm _).mono ?_; rintro e w' ⟨rfl, rfl⟩))
  go_quiet ((go_at_call 99; exact quiet_left (many_is _ _ hm _)))
  go_wp2
  go_ret
  exact ⟨rfl, below_drewN ((Below.refl _ _).alloc (Nat.le_refl _) _) _⟩
set_option maxHeartbeats 1000000 in
theorem valid_3_b2 (k1 k2 k3 k4 : Int) (hm : Hid (manyOf 3 = 256)) (g0 : 0 ≤ k1) (g1 : k1 < 256) (g : ¬ 0 ≤ k2) (w : World) :
    Calls Tryd.prog 37 #[Value.agg #[.int .i64 3, .int .i64 k1, .int .i64 k2, .int .i64 k3, .int .u32 k4]] w fun e w' => e = .returned (.int .i64 103) ∧ Below w.heap.size w w' := by
  have d0 : decide (k1 < 0) = false := by rw [decide_eq_false_iff_not]; omega
  have d1 : decide (256 ≤ k1) = false := by rw [decide_eq_false_iff_not]; omega
  have d2 : decide (k2 < 0) = true := by rw [decide_eq_true_iff]; omega
  go_enter Tryd.func37, Tryd.ntmps37
  go_wp2_with (first | (go_at_call 99; refine (many_is _ _ hm _).mono ?_; rintro e w' ⟨rfl, rfl⟩))
  go_quiet ((go_at_call 99; exact quiet_left (many_is _ _ hm _)))
  go_wp2
  go_ret
  exact ⟨rfl, below_drewN ((Below.refl _ _).alloc (Nat.le_refl _) _) _⟩
set_option maxHeartbeats 1000000 in
theorem valid_3_b3 (k1 k2 k3 k4 : Int) (hm : Hid (manyOf 3 = 256)) (g0 : 0 ≤ k1) (g1 : k1 < 256) (g2 : 0 ≤ k2) (g : ¬ k2 ≤ 1048575) (w : World) :
    Calls Tryd.prog 37 #[Value.agg #[.int .i64 3, .int .i64 k1, .int .i64 k2, .int .i64 k3, .int .u32 k4]] w fun e w' => e = .returned (.int .i64 103) ∧ Below w.heap.size w w' := by
  have d0 : decide (k1 < 0) = false := by rw [decide_eq_false_iff_not]; omega
  have d1 : decide (256 ≤ k1) = false := by rw [decide_eq_false_iff_not]; omega
  have d2 : decide (k2 < 0) = false := by rw [decide_eq_false_iff_not]; omega
  have d3 : decide (1048575 < k2) = true := by rw [decide_eq_true_iff]; omega
  go_enter Tryd.func37, Tryd.ntmps37
  go_wp2_with (first | (go_at_call 99; refine (many_is _ _ hm _).mono ?_; rintro e w' ⟨rfl, rfl⟩))
  go_quiet ((go_at_call 99; exact quiet_left (many_is _ _ hm _)))
  go_wp2
  go_ret
  exact ⟨rfl, below_drewN ((Below.refl _ _).alloc (Nat.le_refl _) _) _⟩
set_option maxHeartbeats 1000000 in
theorem valid_3_b4 (k1 k2 k3 k4 : Int) (hm : Hid (manyOf 3 = 256)) (g0 : 0 ≤ k1) (g1 : k1 < 256) (g2 : 0 ≤ k2) (g3 : k2 ≤ 1048575) (g : ¬ 0 ≤ k3) (w : World) :
    Calls Tryd.prog 37 #[Value.agg #[.int .i64 3, .int .i64 k1, .int .i64 k2, .int .i64 k3, .int .u32 k4]] w fun e w' => e = .returned (.int .i64 103) ∧ Below w.heap.size w w' := by
  have d0 : decide (k1 < 0) = false := by rw [decide_eq_false_iff_not]; omega
  have d1 : decide (256 ≤ k1) = false := by rw [decide_eq_false_iff_not]; omega
  have d2 : decide (k2 < 0) = false := by rw [decide_eq_false_iff_not]; omega
  have d3 : decide (1048575 < k2) = false := by rw [decide_eq_false_iff_not]; omega
  have d4 : decide (k3 < 0) = true := by rw [decide_eq_true_iff]; omega
  go_enter Tryd.func37, Tryd.ntmps37
  go_wp2_with (first | (go_at_call 99; refine (many_is _ _ hm _).mono ?_; rintro e w' ⟨rfl, rfl⟩))
  go_quiet ((go_at_call 99; exact quiet_left (many_is _ _ hm _)))
  go_wp2
  go_ret
  exact ⟨rfl, below_drewN ((Below.refl _ _).alloc (Nat.le_refl _) _) _⟩
set_option maxHeartbeats 1000000 in
theorem valid_3_b5 (k1 k2 k3 k4 : Int) (hm : Hid (manyOf 3 = 256)) (g0 : 0 ≤ k1) (g1 : k1 < 256) (g2 : 0 ≤ k2) (g3 : k2 ≤ 1048575) (g4 : 0 ≤ k3) (g : ¬ k3 ≤ 7) (w : World) :
    Calls Tryd.prog 37 #[Value.agg #[.int .i64 3, .int .i64 k1, .int .i64 k2, .int .i64 k3, .int .u32 k4]] w fun e w' => e = .returned (.int .i64 103) ∧ Below w.heap.size w w' := by
  have d0 : decide (k1 < 0) = false := by rw [decide_eq_false_iff_not]; omega
  have d1 : decide (256 ≤ k1) = false := by rw [decide_eq_false_iff_not]; omega
  have d2 : decide (k2 < 0) = false := by rw [decide_eq_false_iff_not]; omega
  have d3 : decide (1048575 < k2) = false := by rw [decide_eq_false_iff_not]; omega
  have d4 : decide (k3 < 0) = false := by rw [decide_eq_false_iff_not]; omega
  have d5 : decide (7 < k3) = true := by rw [decide_eq_true_iff]; omega
  go_enter Tryd.func37, Tryd.ntmps37
  go_wp2_with (first | (go_at_call 99; refine (many_is _ _ hm _).mono ?_; rintro e w' ⟨rfl, rfl⟩))
  go_quiet ((go_at_call 99; exact quiet_left (many_is _ _ hm _)))
  go_wp2
  go_ret
  exact ⟨rfl, below_drewN ((Below.refl _ _).alloc (Nat.le_refl _) _) _⟩
set_option maxHeartbeats 1000000 in
theorem valid_3_b6 (k1 k2 k3 k4 : Int) (hm : Hid (manyOf 3 = 256)) (g0 : 0 ≤ k1) (g1 : k1 < 256) (g2 : 0 ≤ k2) (g3 : k2 ≤ 1048575) (g4 : 0 ≤ k3) (g5 : k3 ≤ 7) (g : ¬ k4 ≤ 0) (w : World) :
    Calls Tryd.prog 37 #[Value.agg #[.int .i64 3, .int .i64 k1, .int .i64 k2, .int .i64 k3, .int .u32 k4]] w fun e w' => e = .returned (.int .i64 103) ∧ Below w.heap.size w w' := by
  have d0 : decide (k1 < 0) = false := by rw [decide_eq_false_iff_not]; omega
  have d1 : decide (256 ≤ k1) = false := by rw [decide_eq_false_iff_not]; omega
  have d2 : decide (k2 < 0) = false := by rw [decide_eq_false_iff_not]; omega
  have d3 : decide (1048575 < k2) = false := by rw [decide_eq_false_iff_not]; omega
  have d4 : decide (k3 < 0) = false := by rw [decide_eq_false_iff_not]; omega
  have d5 : decide (7 < k3) = false := by rw [decide_eq_false_iff_not]; omega
  have d6 : decide (0 < k4) = true := by rw [decide_eq_true_iff]; omega
  go_enter Tryd.func37, Tryd.ntmps37
  go_wp2_with (first | (go_at_call 99; refine (many_is _ _ hm _).mono ?_; rintro e w' ⟨rfl, rfl⟩))
  go_quiet ((go_at_call 99; exact quiet_left (many_is _ _ hm _)))
  go_wp2
  go_ret
  exact ⟨rfl, below_drewN ((Below.refl _ _).alloc (Nat.le_refl _) _) _⟩
set_option maxHeartbeats 1000000 in
theorem valid_5_ok (k1 k2 k3 k4 : Int) (hm : Hid (manyOf 5 = 32)) (g1 : 0 ≤ k1) (g2 : k1 < 32) (g3 : 0 ≤ k2) (g4 : k2 ≤ 1048575) (g5 : 0 ≤ k3) (g6 : k3 ≤ 0) (g7 : k4 ≤ 536870911) (w : World) :
    Calls Tryd.prog 37 #[Value.agg #[.int .i64 5, .int .i64 k1, .int .i64 k2, .int .i64 k3, .int .u32 k4]] w fun e w' => e = .returned (.int .i64 0) ∧ Below w.heap.size w w' := by
  have d0 : decide (k1 < 0) = false := by rw [decide_eq_false_iff_not]; omega
  have d1 : decide (32 ≤ k1) = false := by rw [decide_eq_false_iff_not]; omega
  have d2 : decide (k2 < 0) = false := by rw [decide_eq_false_iff_not]; omega
  have d3 : decide (1048575 < k2) = false := by rw [decide_eq_false_iff_not]; omega
  have d4 : decide (k3 < 0) = false := by rw [decide_eq_false_iff_not]; omega
  have d5 : decide (0 < k3) = false := by rw [decide_eq_false_iff_not]; omega
  have d6 : decide (536870911 < k4) = false := by rw [decide_eq_false_iff_not]; omega
  go_enter Tryd.func37, Tryd.ntmps37
  go_wp2_with (first | (go_at_call 99; refine (many_is _ _ hm _).mono ?_; rintro e w' ⟨rfl, rfl⟩))
  go_quiet ((go_at_call 99; exact quiet_left (many_is _ _ hm _)))
  go_wp2
  go_ret
  exact ⟨rfl, below_drewN ((Below.refl _ _).alloc (Nat.le_refl _) _) _⟩
set_option maxHeartbeats 1000000 in
theorem valid_5_b0 (k1 k2 k3 k4 : Int) (hm : Hid (manyOf 5 = 32))  (g : ¬ 0 ≤ k1) (w : World) :
    Calls Tryd.prog 37 #[Value.agg #[.int .i64 5, .int .i64 k1, .int .i64 k2, .int .i64 k3, .int .u32 k4]] w fun e w' => e = .returned (.int .i64 103) ∧ Below w.heap.size w w' := by
  have d0 : decide (k1 < 0) = true := by rw [decide_eq_true_iff]; omega
  go_enter Tryd.func37, Tryd.ntmps37
  go_wp2_with (first | (go_at_call 99; refine (many_is _ _ hm _).mono ?_; rintro e w' ⟨rfl, rfl⟩))
  go_quiet ((go_at_call 99; exact quiet_left (many_is _ _ hm _)))
  go_wp2
  go_ret
  exact ⟨rfl, below_drewN ((Below.refl _ _).alloc (Nat.le_refl _) _) _⟩
set_option maxHeartbeats 1000000 in
theorem valid_5_b1 (k1 k2 k3 k4 : Int) (hm : Hid (manyOf 5 = 32)) (g0 : 0 ≤ k1) (g : ¬ k1 < 32) (w : World) :
    Calls Tryd.prog 37 #[Value.agg #[.int .i64 5, .int .i64 k1, .int .i64 k2, .int .i64 k3, .int .u32 k4]] w fun e w' => e = .returned (.int .i64 103) ∧ Below w.heap.size w w' := by
  have d0 : decide (k1 < 0) = false := by rw [decide_eq_false_iff_not]; omega
  have d1 : decide (32 ≤ k1) = true := by rw [decide_eq_true_iff]; omega
  go_enter Tryd.func37, Tryd.ntmps37
  go_wp2_with (first | (go_at_call 99; refine (many_is _ _ hm _).mono ?_; rintro e w' ⟨rfl, rfl⟩))
  go_quiet ((go_at_call 99; exact quiet_left (many_is _ _ hm _)))
  go_wp2
  go_ret
  exact ⟨rfl, below_drewN ((Below.refl _ _).alloc (Nat.le_refl _) _) _⟩
set_option maxHeartbeats 1000000 in
theorem valid_5_b2 (k1 k2 k3 k4 : Int) (hm : Hid (manyOf 5 = 32)) (g0 : 0 ≤ k1) (g1 : k1 < 32) (g : ¬ 0 ≤ k2) (w : World) :
    Calls Tryd.prog 37 #[Value.agg #[.int .i64 5, .int .i64 k1, .int .i64 k2, .int .i64 k3, .int .u32 k4]] w fun e w' => e = .returned (.int .i64 103) ∧ Below w.heap.size w w' := by
  have d0 : decide (k1 < 0) = false := by rw [decide_eq_false_iff_not]; omega
  have d1 : decide (32 ≤ k1) = false := by rw [decide_eq_false_iff_not]; omega
  have d2 : decide (k2 < 0) = true := by rw [decide_eq_true_iff]; omega
  go_enter Tryd.func37, Tryd.ntmps37
  go_wp2_with (first | (go_at_call 99; refine (many_is _ _ hm _).mono ?_; rintro e w' ⟨rfl, rfl⟩))
  go_quiet ((go_at_call 99; exact quiet_left (many_is _ _ hm _)))
  go_wp2
  go_ret
  exact ⟨rfl, below_drewN ((Below.refl _ _).alloc (Nat.le_refl _) _) _⟩
set_option maxHeartbeats 1000000 in
theorem valid_5_b3 (k1 k2 k3 k4 : Int) (hm : Hid (manyOf 5 = 32)) (g0 : 0 ≤ k1) (g1 : k1 < 32) (g2 : 0 ≤ k2) (g : ¬ k2 ≤ 1048575) (w : World) :
    Calls Tryd.prog 37 #[Value.agg #[.int .i64 5, .int .i64 k1, .int .i64 k2, .int .i64 k3, .int .u32 k4]] w fun e w' => e = .returned (.int .i64 103) ∧ Below w.heap.size w w' := by
  have d0 : decide (k1 < 0) = false := by rw [decide_eq_false_iff_not]; omega
  have d1 : decide (32 ≤ k1) = false := by rw [decide_eq_false_iff_not]; omega
  have d2 : decide (k2 < 0) = false := by rw [decide_eq_false_iff_not]; omega
  have d3 : decide (1048575 < k2) = true := by rw [decide_eq_true_iff]; omega
  go_enter Tryd.func37, Tryd.ntmps37
  go_wp2_with (first | (go_at_call 99; refine (many_is _ _ hm _).mono ?_; rintro e w' ⟨rfl, rfl⟩))
  go_quiet ((go_at_call 99; exact quiet_left (many_is _ _ hm _)))
  go_wp2
  go_ret
  exact ⟨rfl, below_drewN ((Below.refl _ _).alloc (Nat.le_refl _) _) _⟩
set_option maxHeartbeats 1000000 in
theorem valid_5_b4 (k1 k2 k3 k4 : Int) (hm : Hid (manyOf 5 = 32)) (g0 : 0 ≤ k1) (g1 : k1 < 32) (g2 : 0 ≤ k2) (g3 : k2 ≤ 1048575) (g : ¬ 0 ≤ k3) (w : World) :
    Calls Tryd.prog 37 #[Value.agg #[.int .i64 5, .int .i64 k1, .int .i64 k2, .int .i64 k3, .int .u32 k4]] w fun e w' => e = .returned (.int .i64 103) ∧ Below w.heap.size w w' := by
  have d0 : decide (k1 < 0) = false := by rw [decide_eq_false_iff_not]; omega
  have d1 : decide (32 ≤ k1) = false := by rw [decide_eq_false_iff_not]; omega
  have d2 : decide (k2 < 0) = false := by rw [decide_eq_false_iff_not]; omega
  have d3 : decide (1048575 < k2) = false := by rw [decide_eq_false_iff_not]; omega
  have d4 : decide (k3 < 0) = true := by rw [decide_eq_true_iff]; omega
  go_enter Tryd.func37, Tryd.ntmps37
  go_wp2_with (first | (go_at_call 99; refine (many_is _ _ hm _).mono ?_; rintro e w' ⟨rfl, rfl⟩))
  go_quiet ((go_at_call 99; exact quiet_left (many_is _ _ hm _)))
  go_wp2
  go_ret
  exact ⟨rfl, below_drewN ((Below.refl _ _).alloc (Nat.le_refl _) _) _⟩
set_option maxHeartbeats 1000000 in
theorem valid_5_b5 (k1 k2 k3 k4 : Int) (hm : Hid (manyOf 5 = 32)) (g0 : 0 ≤ k1) (g1 : k1 < 32) (g2 : 0 ≤ k2) (g3 : k2 ≤ 1048575) (g4 : 0 ≤ k3) (g : ¬ k3 ≤ 0) (w : World) :
    Calls Tryd.prog 37 #[Value.agg #[.int .i64 5, .int .i64 k1, .int .i64 k2, .int .i64 k3, .int .u32 k4]] w fun e w' => e = .returned (.int .i64 103) ∧ Below w.heap.size w w' := by
  have d0 : decide (k1 < 0) = false := by rw [decide_eq_false_iff_not]; omega
  have d1 : decide (32 ≤ k1) = false := by rw [decide_eq_false_iff_not]; omega
  have d2 : decide (k2 < 0) = false := by rw [decide_eq_false_iff_not]; omega
  have d3 : decide (1048575 < k2) = false := by rw [decide_eq_false_iff_not]; omega
  have d4 : decide (k3 < 0) = false := by rw [decide_eq_false_iff_not]; omega
  have d5 : decide (0 < k3) = true := by rw [decide_eq_true_iff]; omega
  go_enter Tryd.func37, Tryd.ntmps37
  go_wp2_with (first | (go_at_call 99; refine (many_is _ _ hm _).mono ?_; rintro e w' ⟨rfl, rfl⟩))
  go_quiet ((go_at_call 99; exact quiet_left (many_is _ _ hm _)))
  go_wp2
  go_ret
  exact ⟨rfl, below_drewN ((Below.refl _ _).alloc (Nat.le_refl _) _) _⟩
set_option maxHeartbeats 1000000 in
theorem valid_5_b6 (k1 k2 k3 k4 : Int) (hm : Hid (manyOf 5 = 32)) (g0 : 0 ≤ k1) (g1 : k1 < 32) (g2 : 0 ≤ k2) (g3 : k2 ≤ 1048575) (g4 : 0 ≤ k3) (g5 : k3 ≤ 0) (g : ¬ k4 ≤ 536870911) (w : World) :
    Calls Tryd.prog 37 #[Value.agg #[.int .i64 5, .int .i64 k1, .int .i64 k2, .int .i64 k3, .int .u32 k4]] w fun e w' => e = .returned (.int .i64 103) ∧ Below w.heap.size w w' := by
  have d0 : decide (k1 < 0) = false := by rw [decide_eq_false_iff_not]; omega
  have d1 : decide (32 ≤ k1) = false := by rw [decide_eq_false_iff_not]; omega
  have d2 : decide (k2 < 0) = false := by rw [decide_eq_false_iff_not]; omega
  have d3 : decide (1048575 < k2) = false := by rw [decide_eq_false_iff_not]; omega
  have d4 : decide (k3 < 0) = false := by rw [decide_eq_false_iff_not]; omega
  have d5 : decide (0 < k3) = false := by rw [decide_eq_false_iff_not]; omega
  have d6 : decide (536870911 < k4) = true := by rw [decide_eq_true_iff]; omega
  go_enter Tryd.func37, Tryd.ntmps37
  go_wp2_with (first | (go_at_call 99; refine (many_is _ _ hm _).mono ?_; rintro e w' ⟨rfl, rfl⟩))
  go_quiet ((go_at_call 99; exact quiet_left (many_is _ _ hm _)))
  go_wp2
  go_ret
  exact ⟨rfl, below_drewN ((Below.refl _ _).alloc (Nat.le_refl _) _) _⟩
end Go.Proofs.YtdcdfaeokbdalaaDoor
namespace Go.Proofs.YtdcdfaeokbdalaaDoor
open Go.ChangeShapes Go.WideShapes Go.ChangeAt Go.RowKit
set_option linter.unusedVariables false
set_option maxHeartbeats 1000000 in
theorem valid_6_ok (k1 k2 k3 k4 : Int) (hm : Hid (manyOf 6 = 32)) (g1 : 0 ≤ k1) (g2 : k1 < 32) (g3 : 0 ≤ k2) (g4 : k2 ≤ 1048575) (g5 : 0 ≤ k3) (g6 : k3 ≤ 0) (g7 : k4 ≤ 536870911) (w : World) :
    Calls Tryd.prog 37 #[Value.agg #[.int .i64 6, .int .i64 k1, .int .i64 k2, .int .i64 k3, .int .u32 k4]] w fun e w' => e = .returned (.int .i64 0) ∧ Below w.heap.size w w' := by
  have d0 : decide (k1 < 0) = false := by rw [decide_eq_false_iff_not]; omega
  have d1 : decide (32 ≤ k1) = false := by rw [decide_eq_false_iff_not]; omega
  have d2 : decide (k2 < 0) = false := by rw [decide_eq_false_iff_not]; omega
  have d3 : decide (1048575 < k2) = false := by rw [decide_eq_false_iff_not]; omega
  have d4 : decide (k3 < 0) = false := by rw [decide_eq_false_iff_not]; omega
  have d5 : decide (0 < k3) = false := by rw [decide_eq_false_iff_not]; omega
  have d6 : decide (536870911 < k4) = false := by rw [decide_eq_false_iff_not]; omega
  go_enter Tryd.func37, Tryd.ntmps37
  go_wp2_with (first | (go_at_call 99; refine (many_is _ _ hm _).mono ?_; rintro e w' ⟨rfl, rfl⟩))
  go_quiet ((go_at_call 99; exact quiet_left (many_is _ _ hm _)))
  go_wp2
  go_ret
  exact ⟨rfl, below_drewN ((Below.refl _ _).alloc (Nat.le_refl _) _) _⟩
set_option maxHeartbeats 1000000 in
theorem valid_6_b0 (k1 k2 k3 k4 : Int) (hm : Hid (manyOf 6 = 32))  (g : ¬ 0 ≤ k1) (w : World) :
    Calls Tryd.prog 37 #[Value.agg #[.int .i64 6, .int .i64 k1, .int .i64 k2, .int .i64 k3, .int .u32 k4]] w fun e w' => e = .returned (.int .i64 103) ∧ Below w.heap.size w w' := by
  have d0 : decide (k1 < 0) = true := by rw [decide_eq_true_iff]; omega
  go_enter Tryd.func37, Tryd.ntmps37
  go_wp2_with (first | (go_at_call 99; refine (many_is _ _ hm _).mono ?_; rintro e w' ⟨rfl, rfl⟩))
  go_quiet ((go_at_call 99; exact quiet_left (many_is _ _ hm _)))
  go_wp2
  go_ret
  exact ⟨rfl, below_drewN ((Below.refl _ _).alloc (Nat.le_refl _) _) _⟩
set_option maxHeartbeats 1000000 in
theorem valid_6_b1 (k1 k2 k3 k4 : Int) (hm : Hid (manyOf 6 = 32)) (g0 : 0 ≤ k1) (g : ¬ k1 < 32) (w : World) :
    Calls Tryd.prog 37 #[Value.agg #[.int .i64 6, .int .i64 k1, .int .i64 k2, .int .i64 k3, .int .u32 k4]] w fun e w' => e = .returned (.int .i64 103) ∧ Below w.heap.size w w' := by
  have d0 : decide (k1 < 0) = false := by rw [decide_eq_false_iff_not]; omega
  have d1 : decide (32 ≤ k1) = true := by rw [decide_eq_true_iff]; omega
  go_enter Tryd.func37, Tryd.ntmps37
  go_wp2_with (first | (go_at_call 99; refine (many_is _ _ hm _).mono ?_; rintro e w' ⟨rfl, rfl⟩))
  go_quiet ((go_at_call 99; exact quiet_left (many_is _ _ hm _)))
  go_wp2
  go_ret
  exact ⟨rfl, below_drewN ((Below.refl _ _).alloc (Nat.le_refl _) _) _⟩
set_option maxHeartbeats 1000000 in
theorem valid_6_b2 (k1 k2 k3 k4 : Int) (hm : Hid (manyOf 6 = 32)) (g0 : 0 ≤ k1) (g1 : k1 < 32) (g : ¬ 0 ≤ k2) (w : World) :
    Calls Tryd.prog 37 #[Value.agg #[.int .i64 6, .int .i64 k1, .int .i64 k2, .int .i64 k3, .int .u32 k4]] w fun e w' => e = .returned (.int .i64 103) ∧ Below w.heap.size w w' := by
  have d0 : decide (k1 < 0) = false := by rw [decide_eq_false_iff_not]; omega
  have d1 : decide (32 ≤ k1) = false := by rw [decide_eq_false_iff_not]; omega
  have d2 : decide (k2 < 0) = true := by rw [decide_eq_true_iff]; omega
  go_enter Tryd.func37, Tryd.ntmps37
  go_wp2_with (first | (go_at_call 99; refine (many_is _ _ hm _).mono ?_; rintro e w' ⟨rfl, rfl⟩))
  go_quiet ((go_at_call 99; exact quiet_left (many_is _ _ hm _)))
  go_wp2
  go_ret
  exact ⟨rfl, below_drewN ((Below.refl _ _).alloc (Nat.le_refl _) _) _⟩
set_option maxHeartbeats 1000000 in
theorem valid_6_b3 (k1 k2 k3 k4 : Int) (hm : Hid (manyOf 6 = 32)) (g0 : 0 ≤ k1) (g1 : k1 < 32) (g2 : 0 ≤ k2) (g : ¬ k2 ≤ 1048575) (w : World) :
    Calls Tryd.prog 37 #[Value.agg #[.int .i64 6, .int .i64 k1, .int .i64 k2, .int .i64 k3, .int .u32 k4]] w fun e w' => e = .returned (.int .i64 103) ∧ Below w.heap.size w w' := by
  have d0 : decide (k1 < 0) = false := by rw [decide_eq_false_iff_not]; omega
  have d1 : decide (32 ≤ k1) = false := by rw [decide_eq_false_iff_not]; omega
  have d2 : decide (k2 < 0) = false := by rw [decide_eq_false_iff_not]; omega
  have d3 : decide (1048575 < k2) = true := by rw [decide_eq_true_iff]; omega
  go_enter Tryd.func37, Tryd.ntmps37
  go_wp2_with (first | (go_at_call 99; refine (many_is _ _ hm _).mono ?_; rintro e w' ⟨rfl, rfl⟩))
  go_quiet ((go_at_call 99; exact quiet_left (many_is _ _ hm _)))
  go_wp2
  go_ret
  exact ⟨rfl, below_drewN ((Below.refl _ _).alloc (Nat.le_refl _) _) _⟩
set_option maxHeartbeats 1000000 in
theorem valid_6_b4 (k1 k2 k3 k4 : Int) (hm : Hid (manyOf 6 = 32)) (g0 : 0 ≤ k1) (g1 : k1 < 32) (g2 : 0 ≤ k2) (g3 : k2 ≤ 1048575) (g : ¬ 0 ≤ k3) (w : World) :
    Calls Tryd.prog 37 #[Value.agg #[.int .i64 6, .int .i64 k1, .int .i64 k2, .int .i64 k3, .int .u32 k4]] w fun e w' => e = .returned (.int .i64 103) ∧ Below w.heap.size w w' := by
  have d0 : decide (k1 < 0) = false := by rw [decide_eq_false_iff_not]; omega
  have d1 : decide (32 ≤ k1) = false := by rw [decide_eq_false_iff_not]; omega
  have d2 : decide (k2 < 0) = false := by rw [decide_eq_false_iff_not]; omega
  have d3 : decide (1048575 < k2) = false := by rw [decide_eq_false_iff_not]; omega
  have d4 : decide (k3 < 0) = true := by rw [decide_eq_true_iff]; omega
  go_enter Tryd.func37, Tryd.ntmps37
  go_wp2_with (first | (go_at_call 99; refine (many_is _ _ hm _).mono ?_; rintro e w' ⟨rfl, rfl⟩))
  go_quiet ((go_at_call 99; exact quiet_left (many_is _ _ hm _)))
  go_wp2
  go_ret
  exact ⟨rfl, below_drewN ((Below.refl _ _).alloc (Nat.le_refl _) _) _⟩
set_option maxHeartbeats 1000000 in
theorem valid_6_b5 (k1 k2 k3 k4 : Int) (hm : Hid (manyOf 6 = 32)) (g0 : 0 ≤ k1) (g1 : k1 < 32) (g2 : 0 ≤ k2) (g3 : k2 ≤ 1048575) (g4 : 0 ≤ k3) (g : ¬ k3 ≤ 0) (w : World) :
    Calls Tryd.prog 37 #[Value.agg #[.int .i64 6, .int .i64 k1, .int .i64 k2, .int .i64 k3, .int .u32 k4]] w fun e w' => e = .returned (.int .i64 103) ∧ Below w.heap.size w w' := by
  have d0 : decide (k1 < 0) = false := by rw [decide_eq_false_iff_not]; omega
  have d1 : decide (32 ≤ k1) = false := by rw [decide_eq_false_iff_not]; omega
  have d2 : decide (k2 < 0) = false := by rw [decide_eq_false_iff_not]; omega
  have d3 : decide (1048575 < k2) = false := by rw [decide_eq_false_iff_not]; omega
  have d4 : decide (k3 < 0) = false := by rw [decide_eq_false_iff_not]; omega
  have d5 : decide (0 < k3) = true := by rw [decide_eq_true_iff]; omega
  go_enter Tryd.func37, Tryd.ntmps37
  go_wp2_with (first | (go_at_call 99; refine (many_is _ _ hm _).mono ?_; rintro e w' ⟨rfl, rfl⟩))
  go_quiet ((go_at_call 99; exact quiet_left (many_is _ _ hm _)))
  go_wp2
  go_ret
  exact ⟨rfl, below_drewN ((Below.refl _ _).alloc (Nat.le_refl _) _) _⟩
set_option maxHeartbeats 1000000 in
theorem valid_6_b6 (k1 k2 k3 k4 : Int) (hm : Hid (manyOf 6 = 32)) (g0 : 0 ≤ k1) (g1 : k1 < 32) (g2 : 0 ≤ k2) (g3 : k2 ≤ 1048575) (g4 : 0 ≤ k3) (g5 : k3 ≤ 0) (g : ¬ k4 ≤ 536870911) (w : World) :
    Calls Tryd.prog 37 #[Value.agg #[.int .i64 6, .int .i64 k1, .int .i64 k2, .int .i64 k3, .int .u32 k4]] w fun e w' => e = .returned (.int .i64 103) ∧ Below w.heap.size w w' := by
  have d0 : decide (k1 < 0) = false := by rw [decide_eq_false_iff_not]; omega
  have d1 : decide (32 ≤ k1) = false := by rw [decide_eq_false_iff_not]; omega
  have d2 : decide (k2 < 0) = false := by rw [decide_eq_false_iff_not]; omega
  have d3 : decide (1048575 < k2) = false := by rw [decide_eq_false_iff_not]; omega
  have d4 : decide (k3 < 0) = false := by rw [decide_eq_false_iff_not]; omega
  have d5 : decide (0 < k3) = false := by rw [decide_eq_false_iff_not]; omega
  have d6 : decide (536870911 < k4) = true := by rw [decide_eq_true_iff]; omega
  go_enter Tryd.func37, Tryd.ntmps37
  go_wp2_with (first | (go_at_call 99; refine (many_is _ _ hm _).mono ?_; rintro e w' ⟨rfl, rfl⟩))
  go_quiet ((go_at_call 99; exact quiet_left (many_is _ _ hm _)))
  go_wp2
  go_ret
  exact ⟨rfl, below_drewN ((Below.refl _ _).alloc (Nat.le_refl _) _) _⟩
set_option maxHeartbeats 1000000 in
theorem valid_D_ok (k0 k1 k2 k3 k4 m : Int) (h0 : 0 ≤ k0) (h14 : k0 ≤ 14) (h1 : ¬ k0 = 1) (h2 : ¬ k0 = 2) (h3 : ¬ k0 = 3) (h5 : ¬ k0 = 5) (h6 : ¬ k0 = 6) (hm : Hid (manyOf k0 = m)) (hm1 : 1 < m) (g1 : 0 ≤ k1) (g2 : k1 < m) (g3 : 0 ≤ k2) (g4 : k2 ≤ 1048575) (g5 : 0 ≤ k3) (g6 : k3 ≤ 0) (g7 : k4 ≤ 0) (w : World) :
    Calls Tryd.prog 37 #[Value.agg #[.int .i64 k0, .int .i64 k1, .int .i64 k2, .int .i64 k3, .int .u32 k4]] w fun e w' => e = .returned (.int .i64 0) ∧ Below w.heap.size w w' := by
  have e1 : (k0 == 1) = false := by simpa using h1
  have e2 : (k0 == 2) = false := by simpa using h2
  have e3 : (k0 == 3) = false := by simpa using h3
  have e5 : (k0 == 5) = false := by simpa using h5
  have e6 : (k0 == 6) = false := by simpa using h6
  have e0 : decide (k0 < 0) = false := by rw [decide_eq_false_iff_not]; omega
  have e14 : decide (14 < k0) = false := by rw [decide_eq_false_iff_not]; omega
  have d0 : decide (k1 < 0) = false := by rw [decide_eq_false_iff_not]; omega
  have d1 : decide (m ≤ k1) = false := by rw [decide_eq_false_iff_not]; omega
  have d2 : decide (k2 < 0) = false := by rw [decide_eq_false_iff_not]; omega
  have d3 : decide (1048575 < k2) = false := by rw [decide_eq_false_iff_not]; omega
  have d4 : decide (k3 < 0) = false := by rw [decide_eq_false_iff_not]; omega
  have d5 : decide (0 < k3) = false := by rw [decide_eq_false_iff_not]; omega
  have d6 : decide (0 < k4) = false := by rw [decide_eq_false_iff_not]; omega
  go_enter Tryd.func37, Tryd.ntmps37
  go_wp2_with (first | (go_at_call 99; refine (many_is _ _ hm _).mono ?_; rintro e w' ⟨rfl, rfl⟩))
  go_quiet ((go_at_call 99; exact quiet_left (many_is _ _ hm _)))
  go_wp2
  go_ret
  exact ⟨rfl, below_drewN ((Below.refl _ _).alloc (Nat.le_refl _) _) _⟩
set_option maxHeartbeats 1000000 in
theorem valid_D_b0 (k0 k1 k2 k3 k4 m : Int) (h0 : 0 ≤ k0) (h14 : k0 ≤ 14) (h1 : ¬ k0 = 1) (h2 : ¬ k0 = 2) (h3 : ¬ k0 = 3) (h5 : ¬ k0 = 5) (h6 : ¬ k0 = 6) (hm : Hid (manyOf k0 = m)) (hm1 : 1 < m)  (g : ¬ 0 ≤ k1) (w : World) :
    Calls Tryd.prog 37 #[Value.agg #[.int .i64 k0, .int .i64 k1, .int .i64 k2, .int .i64 k3, .int .u32 k4]] w fun e w' => e = .returned (.int .i64 103) ∧ Below w.heap.size w w' := by
  have e1 : (k0 == 1) = false := by simpa using h1
  have e2 : (k0 == 2) = false := by simpa using h2
  have e3 : (k0 == 3) = false := by simpa using h3
  have e5 : (k0 == 5) = false := by simpa using h5
  have e6 : (k0 == 6) = false := by simpa using h6
  have e0 : decide (k0 < 0) = false := by rw [decide_eq_false_iff_not]; omega
  have e14 : decide (14 < k0) = false := by rw [decide_eq_false_iff_not]; omega
  have d0 : decide (k1 < 0) = true := by rw [decide_eq_true_iff]; omega
  go_enter Tryd.func37, Tryd.ntmps37
  go_wp2_with (first | (go_at_call 99; refine (many_is _ _ hm _).mono ?_; rintro e w' ⟨rfl, rfl⟩))
  go_quiet ((go_at_call 99; exact quiet_left (many_is _ _ hm _)))
  go_wp2
  go_ret
  exact ⟨rfl, below_drewN ((Below.refl _ _).alloc (Nat.le_refl _) _) _⟩
set_option maxHeartbeats 1000000 in
theorem valid_D_b1 (k0 k1 k2 k3 k4 m : Int) (h0 : 0 ≤ k0) (h14 : k0 ≤ 14) (h1 : ¬ k0 = 1) (h2 : ¬ k0 = 2) (h3 : ¬ k0 = 3) (h5 : ¬ k0 = 5) (h6 : ¬ k0 = 6) (hm : Hid (manyOf k0 = m)) (hm1 : 1 < m) (g0 : 0 ≤ k1) (g : ¬ k1 < m) (w : World) :
    Calls Tryd.prog 37 #[Value.agg #[.int .i64 k0, .int .i64 k1, .int .i64 k2, .int .i64 k3, .int .u32 k4]] w fun e w' => e = .returned (.int .i64 103) ∧ Below w.heap.size w w' := by
  have e1 : (k0 == 1) = false := by simpa using h1
  have e2 : (k0 == 2) = false := by simpa using h2
  have e3 : (k0 == 3) = false := by simpa using h3
  have e5 : (k0 == 5) = false := by simpa using h5
  have e6 : (k0 == 6) = false := by simpa using h6
  have e0 : decide (k0 < 0) = false := by rw [decide_eq_false_iff_not]; omega
  have e14 : decide (14 < k0) = false := by rw [decide_eq_false_iff_not]; omega
  have d0 : decide (k1 < 0) = false := by rw [decide_eq_false_iff_not]; omega
  have d1 : decide (m ≤ k1) = true := by rw [decide_eq_true_iff]; omega
  go_enter Tryd.func37, Tryd.ntmps37
  go_wp2_with (first | (go_at_call 99; refine (many_is _ _ hm _).mono ?_; rintro e w' ⟨rfl, rfl⟩))
  go_quiet ((go_at_call 99; exact quiet_left (many_is _ _ hm _)))
  go_wp2
  go_ret
  exact ⟨rfl, below_drewN ((Below.refl _ _).alloc (Nat.le_refl _) _) _⟩
set_option maxHeartbeats 1000000 in
theorem valid_D_b2 (k0 k1 k2 k3 k4 m : Int) (h0 : 0 ≤ k0) (h14 : k0 ≤ 14) (h1 : ¬ k0 = 1) (h2 : ¬ k0 = 2) (h3 : ¬ k0 = 3) (h5 : ¬ k0 = 5) (h6 : ¬ k0 = 6) (hm : Hid (manyOf k0 = m)) (hm1 : 1 < m) (g0 : 0 ≤ k1) (g1 : k1 < m) (g : ¬ 0 ≤ k2) (w : World) :
    Calls Tryd.prog 37 #[Value.agg #[.int .i64 k0, .int .i64 k1, .int .i64 k2, .int .i64 k3, .int .u32 k4]] w fun e w' => e = .returned (.int .i64 103) ∧ Below w.heap.size w w' := by
  have e1 : (k0 == 1) = false := by simpa using h1
  have e2 : (k0 == 2) = false := by simpa using h2
  have e3 : (k0 == 3) = false := by simpa using h3
  have e5 : (k0 == 5) = false := by simpa using h5
  have e6 : (k0 == 6) = false := by simpa using h6
  have e0 : decide (k0 < 0) = false := by rw [decide_eq_false_iff_not]; omega
  have e14 : decide (14 < k0) = false := by rw [decide_eq_false_iff_not]; omega
  have d0 : decide (k1 < 0) = false := by rw [decide_eq_false_iff_not]; omega
  have d1 : decide (m ≤ k1) = false := by rw [decide_eq_false_iff_not]; omega
  have d2 : decide (k2 < 0) = true := by rw [decide_eq_true_iff]; omega
  go_enter Tryd.func37, Tryd.ntmps37
  go_wp2_with (first | (go_at_call 99; refine (many_is _ _ hm _).mono ?_; rintro e w' ⟨rfl, rfl⟩))
  go_quiet ((go_at_call 99; exact quiet_left (many_is _ _ hm _)))
  go_wp2
  go_ret
  exact ⟨rfl, below_drewN ((Below.refl _ _).alloc (Nat.le_refl _) _) _⟩
set_option maxHeartbeats 1000000 in
theorem valid_D_b3 (k0 k1 k2 k3 k4 m : Int) (h0 : 0 ≤ k0) (h14 : k0 ≤ 14) (h1 : ¬ k0 = 1) (h2 : ¬ k0 = 2) (h3 : ¬ k0 = 3) (h5 : ¬ k0 = 5) (h6 : ¬ k0 = 6) (hm : Hid (manyOf k0 = m)) (hm1 : 1 < m) (g0 : 0 ≤ k1) (g1 : k1 < m) (g2 : 0 ≤ k2) (g : ¬ k2 ≤ 1048575) (w : World) :
    Calls Tryd.prog 37 #[Value.agg #[.int .i64 k0, .int .i64 k1, .int .i64 k2, .int .i64 k3, .int .u32 k4]] w fun e w' => e = .returned (.int .i64 103) ∧ Below w.heap.size w w' := by
  have e1 : (k0 == 1) = false := by simpa using h1
  have e2 : (k0 == 2) = false := by simpa using h2
  have e3 : (k0 == 3) = false := by simpa using h3
  have e5 : (k0 == 5) = false := by simpa using h5
  have e6 : (k0 == 6) = false := by simpa using h6
  have e0 : decide (k0 < 0) = false := by rw [decide_eq_false_iff_not]; omega
  have e14 : decide (14 < k0) = false := by rw [decide_eq_false_iff_not]; omega
  have d0 : decide (k1 < 0) = false := by rw [decide_eq_false_iff_not]; omega
  have d1 : decide (m ≤ k1) = false := by rw [decide_eq_false_iff_not]; omega
  have d2 : decide (k2 < 0) = false := by rw [decide_eq_false_iff_not]; omega
  have d3 : decide (1048575 < k2) = true := by rw [decide_eq_true_iff]; omega
  go_enter Tryd.func37, Tryd.ntmps37
  go_wp2_with (first | (go_at_call 99; refine (many_is _ _ hm _).mono ?_; rintro e w' ⟨rfl, rfl⟩))
  go_quiet ((go_at_call 99; exact quiet_left (many_is _ _ hm _)))
  go_wp2
  go_ret
  exact ⟨rfl, below_drewN ((Below.refl _ _).alloc (Nat.le_refl _) _) _⟩
set_option maxHeartbeats 1000000 in
theorem valid_D_b4 (k0 k1 k2 k3 k4 m : Int) (h0 : 0 ≤ k0) (h14 : k0 ≤ 14) (h1 : ¬ k0 = 1) (h2 : ¬ k0 = 2) (h3 : ¬ k0 = 3) (h5 : ¬ k0 = 5) (h6 : ¬ k0 = 6) (hm : Hid (manyOf k0 = m)) (hm1 : 1 < m) (g0 : 0 ≤ k1) (g1 : k1 < m) (g2 : 0 ≤ k2) (g3 : k2 ≤ 1048575) (g : ¬ 0 ≤ k3) (w : World) :
    Calls Tryd.prog 37 #[Value.agg #[.int .i64 k0, .int .i64 k1, .int .i64 k2, .int .i64 k3, .int .u32 k4]] w fun e w' => e = .returned (.int .i64 103) ∧ Below w.heap.size w w' := by
  have e1 : (k0 == 1) = false := by simpa using h1
  have e2 : (k0 == 2) = false := by simpa using h2
  have e3 : (k0 == 3) = false := by simpa using h3
  have e5 : (k0 == 5) = false := by simpa using h5
  have e6 : (k0 == 6) = false := by simpa using h6
  have e0 : decide (k0 < 0) = false := by rw [decide_eq_false_iff_not]; omega
  have e14 : decide (14 < k0) = false := by rw [decide_eq_false_iff_not]; omega
  have d0 : decide (k1 < 0) = false := by rw [decide_eq_false_iff_not]; omega
  have d1 : decide (m ≤ k1) = false := by rw [decide_eq_false_iff_not]; omega
  have d2 : decide (k2 < 0) = false := by rw [decide_eq_false_iff_not]; omega
  have d3 : decide (1048575 < k2) = false := by rw [decide_eq_false_iff_not]; omega
  have d4 : decide (k3 < 0) = true := by rw [decide_eq_true_iff]; omega
  go_enter Tryd.func37, Tryd.ntmps37
  go_wp2_with (first | (go_at_call 99; refine (many_is _ _ hm _).mono ?_; rintro e w' ⟨rfl, rfl⟩))
  go_quiet ((go_at_call 99; exact quiet_left (many_is _ _ hm _)))
  go_wp2
  go_ret
  exact ⟨rfl, below_drewN ((Below.refl _ _).alloc (Nat.le_refl _) _) _⟩
set_option maxHeartbeats 1000000 in
theorem valid_D_b5 (k0 k1 k2 k3 k4 m : Int) (h0 : 0 ≤ k0) (h14 : k0 ≤ 14) (h1 : ¬ k0 = 1) (h2 : ¬ k0 = 2) (h3 : ¬ k0 = 3) (h5 : ¬ k0 = 5) (h6 : ¬ k0 = 6) (hm : Hid (manyOf k0 = m)) (hm1 : 1 < m) (g0 : 0 ≤ k1) (g1 : k1 < m) (g2 : 0 ≤ k2) (g3 : k2 ≤ 1048575) (g4 : 0 ≤ k3) (g : ¬ k3 ≤ 0) (w : World) :
    Calls Tryd.prog 37 #[Value.agg #[.int .i64 k0, .int .i64 k1, .int .i64 k2, .int .i64 k3, .int .u32 k4]] w fun e w' => e = .returned (.int .i64 103) ∧ Below w.heap.size w w' := by
  have e1 : (k0 == 1) = false := by simpa using h1
  have e2 : (k0 == 2) = false := by simpa using h2
  have e3 : (k0 == 3) = false := by simpa using h3
  have e5 : (k0 == 5) = false := by simpa using h5
  have e6 : (k0 == 6) = false := by simpa using h6
  have e0 : decide (k0 < 0) = false := by rw [decide_eq_false_iff_not]; omega
  have e14 : decide (14 < k0) = false := by rw [decide_eq_false_iff_not]; omega
  have d0 : decide (k1 < 0) = false := by rw [decide_eq_false_iff_not]; omega
  have d1 : decide (m ≤ k1) = false := by rw [decide_eq_false_iff_not]; omega
  have d2 : decide (k2 < 0) = false := by rw [decide_eq_false_iff_not]; omega
  have d3 : decide (1048575 < k2) = false := by rw [decide_eq_false_iff_not]; omega
  have d4 : decide (k3 < 0) = false := by rw [decide_eq_false_iff_not]; omega
  have d5 : decide (0 < k3) = true := by rw [decide_eq_true_iff]; omega
  go_enter Tryd.func37, Tryd.ntmps37
  go_wp2_with (first | (go_at_call 99; refine (many_is _ _ hm _).mono ?_; rintro e w' ⟨rfl, rfl⟩))
  go_quiet ((go_at_call 99; exact quiet_left (many_is _ _ hm _)))
  go_wp2
  go_ret
  exact ⟨rfl, below_drewN ((Below.refl _ _).alloc (Nat.le_refl _) _) _⟩
set_option maxHeartbeats 1000000 in
theorem valid_D_b6 (k0 k1 k2 k3 k4 m : Int) (h0 : 0 ≤ k0) (h14 : k0 ≤ 14) (h1 : ¬ k0 = 1) (h2 : ¬ k0 = 2) (h3 : ¬ k0 = 3) (h5 : ¬ k0 = 5) (h6 : ¬ k0 = 6) (hm : Hid (manyOf k0 = m)) (hm1 : 1 < m) (g0 : 0 ≤ k1) (g1 : k1 < m) (g2 : 0 ≤ k2) (g3 : k2 ≤ 1048575) (g4 : 0 ≤ k3) (g5 : k3 ≤ 0) (g : ¬ k4 ≤ 0) (w : World) :
    Calls Tryd.prog 37 #[Value.agg #[.int .i64 k0, .int .i64 k1, .int .i64 k2, .int .i64 k3, .int .u32 k4]] w fun e w' => e = .returned (.int .i64 103) ∧ Below w.heap.size w w' := by
  have e1 : (k0 == 1) = false := by simpa using h1
  have e2 : (k0 == 2) = false := by simpa using h2
  have e3 : (k0 == 3) = false := by simpa using h3
  have e5 : (k0 == 5) = false := by simpa using h5
  have e6 : (k0 == 6) = false := by simpa using h6
  have e0 : decide (k0 < 0) = false := by rw [decide_eq_false_iff_not]; omega
  have e14 : decide (14 < k0) = false := by rw [decide_eq_false_iff_not]; omega
  have d0 : decide (k1 < 0) = false := by rw [decide_eq_false_iff_not]; omega
  have d1 : decide (m ≤ k1) = false := by rw [decide_eq_false_iff_not]; omega
  have d2 : decide (k2 < 0) = false := by rw [decide_eq_false_iff_not]; omega
  have d3 : decide (1048575 < k2) = false := by rw [decide_eq_false_iff_not]; omega
  have d4 : decide (k3 < 0) = false := by rw [decide_eq_false_iff_not]; omega
  have d5 : decide (0 < k3) = false := by rw [decide_eq_false_iff_not]; omega
  have d6 : decide (0 < k4) = true := by rw [decide_eq_true_iff]; omega
  go_enter Tryd.func37, Tryd.ntmps37
  go_wp2_with (first | (go_at_call 99; refine (many_is _ _ hm _).mono ?_; rintro e w' ⟨rfl, rfl⟩))
  go_quiet ((go_at_call 99; exact quiet_left (many_is _ _ hm _)))
  go_wp2
  go_ret
  exact ⟨rfl, below_drewN ((Below.refl _ _).alloc (Nat.le_refl _) _) _⟩
end Go.Proofs.YtdcdfaeokbdalaaDoor
