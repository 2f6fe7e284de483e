/-
  hole: factories in memory; the map of their names; what look keeps.
-/
import Derived.Test.YtahhnfhnlffmpaaHo
import Derived.Test.YtahhnfhnlffmpaaHl
import Derived.Maps.AppendAt
import Derived.OneCell
import Derived.OwnWalk
import Derived.Laws.OwnMore
import Derived.Laws.Cover3
import Derived.Deep.DeepCutAuto
import Derived.Deep.Cut
namespace Go.Proofs.Ytahhnfhnlffmpaa
open Go.ChangeShapes Go.WideShapes Go.ChangeAt Go.RowKit Go.Maps
set_option linter.unusedVariables false
def wfH (x : Int) : Prop := (Lit.int .i64 x).wf = true
theorem wfH.mk {a : Int} (h1 : -9223372036854775808 ≤ a) (h2 : a ≤ 9223372036854775807) : wfH a := WalkArith.wf_i64 ⟨h1, h2⟩
/-- Factories as they came in. -/
structure FD where
  n : Nat
  id : Nat → Int
  ver : Nat → Int
  sl : Nat → Bool
  pa : Nat → Option Addr
  ct : Nat → Nat
  cp : Nat → Nat
  key : Nat → Nat → Nat → Int
def InF (w : World) (e : Addr) (y0 y1 y2 y3 y4 : Int) : Prop := w.cell? e = some (.int .i64 y0) ∧ w.cell? ⟨e.block, e.off + 1, none⟩ = some (.int .i64 y1) ∧ w.cell? ⟨e.block, e.off + 2, none⟩ = some (.int .i64 y2) ∧ w.cell? ⟨e.block, e.off + 3, none⟩ = some (.int .i64 y3) ∧ w.cell? ⟨e.block, e.off + 4, none⟩ = some (.int .u32 y4)
def InR (w : World) (e : Addr) (x y : Int) (b : Bool) (v : Value) : Prop := w.cell? e = some (.int .i64 x) ∧ w.cell? ⟨e.block, e.off + 1, none⟩ = some (.int .i64 y) ∧ w.cell? ⟨e.block, e.off + 2, none⟩ = some (.bool b) ∧ w.cell? ⟨e.block, e.off + 3, none⟩ = some v
theorem InF.below {w w' : World} {e : Addr} {y0 y1 y2 y3 y4 : Int} (h : InF w e y0 y1 y2 y3 y4) (hb : Below w.heap.size w w') (hl : e.block < w.heap.size) : InF w' e y0 y1 y2 y3 y4 :=
  ⟨(hb.cell (p := e) hl).trans h.1, (hb.cell (p := ⟨e.block, e.off + 1, none⟩) hl).trans h.2.1, (hb.cell (p := ⟨e.block, e.off + 2, none⟩) hl).trans h.2.2.1, (hb.cell (p := ⟨e.block, e.off + 3, none⟩) hl).trans h.2.2.2.1, (hb.cell (p := ⟨e.block, e.off + 4, none⟩) hl).trans h.2.2.2.2⟩
theorem InR.below {w w' : World} {e : Addr} {x y : Int} {b : Bool} {v : Value} (h : InR w e x y b v) (hb : Below w.heap.size w w') (hl : e.block < w.heap.size) : InR w' e x y b v :=
  ⟨(hb.cell (p := e) hl).trans h.1, (hb.cell (p := ⟨e.block, e.off + 1, none⟩) hl).trans h.2.1, (hb.cell (p := ⟨e.block, e.off + 2, none⟩) hl).trans h.2.2.1, (hb.cell (p := ⟨e.block, e.off + 3, none⟩) hl).trans h.2.2.2⟩
/-- A row of keys. -/
def KysAt (w : World) (a : Option Addr) (n : Nat) (key : Nat → Nat → Int) : Prop := ∀ j, j < n → ∃ pd, a = some pd ∧ (pd.add (j * 5)).block < w.heap.size ∧ InF w (pd.add (j * 5)) (key j 0) (key j 1) (key j 2) (key j 3) (key j 4) ∧ wfH (key j 1) ∧ wfH (key j 2)
theorem KysAt.below {w w' : World} {a : Option Addr} {n : Nat} {key : Nat → Nat → Int} (h : KysAt w a n key) (hb : Below w.heap.size w w') : KysAt w' a n key := fun j hj => by
  obtain ⟨pd, h1, h2, h3, h4⟩ := h j hj
  exact ⟨pd, h1, Nat.lt_of_lt_of_le h2 hb.size, h3.below hb h2, h4⟩
structure FacAt (w : World) (a : Option Addr) (D : FD) : Prop where
  row : ∀ i, i < D.n → ∃ ad, a = some ad ∧ (ad.add (i * 4)).block < w.heap.size ∧ InR w (ad.add (i * 4)) (D.id i) (D.ver i) (D.sl i) (.slice (D.pa i) (D.ct i) (D.cp i)) ∧ wfH (D.id i) ∧ wfH (D.ver i)
  part : ∀ i, i < D.n → KysAt w (D.pa i) (D.ct i) (D.key i)
  few : D.n ≤ 256
  few2 : ∀ i, D.ct i ≤ 64
theorem FacAt.below {w w' : World} {a : Option Addr} {D : FD} (h : FacAt w a D) (hb : Below w.heap.size w w') : FacAt w' a D :=
  ⟨fun i hi => by
    obtain ⟨ad, h1, h2, h3, h4⟩ := h.row i hi
    exact ⟨ad, h1, Nat.lt_of_lt_of_le h2 hb.size, h3.below hb h2, h4⟩, fun i hi => (h.part i hi).below hb, h.few, h.few2⟩
/-- The place of the first of the first m that is named so. -/
def FD.fidx (D : FD) (a b : Int) : Nat → Option Nat
  | 0 => none
  | m + 1 => match D.fidx a b m with | some i => some i | none => if D.id m = a ∧ D.ver m = b then some m else none
theorem FD.fidx_lt (D : FD) (a b : Int) : ∀ m i, D.fidx a b m = some i → i < m
  | 0, i, h => by cases h
  | m + 1, i, h => by
    unfold fidx at h
    cases hq : D.fidx a b m with
    | some j => rw [hq] at h; simp at h; have := D.fidx_lt a b m j hq; omega
    | none => rw [hq] at h; simp at h; omega
def FD.tgt (D : FD) (k0 k1 k2 : Int) : Option Nat := if k0 = 9 then D.fidx k1 k2 D.n else none
theorem FD.tgt_lt {D : FD} {k0 k1 k2 : Int} {i : Nat} (h : D.tgt k0 k1 k2 = some i) : i < D.n := by
  unfold tgt at h
  split at h
  · exact D.fidx_lt _ _ _ _ h
  · cases h
def FD.fac (D : FD) (sn : Nat → Nat → Bool) : Fac := ⟨D.n, D.sl, D.ct, fun i j => D.tgt (D.key i j 0) (D.key i j 1) (D.key i j 2), sn⟩
/-- Each part is sensory or not. -/
def SnOk (D : FD) (sn : Nat → Nat → Bool) : Prop := ∀ i j, i < D.n → j < D.ct i → Sens (D.key i j 0) (D.key i j 1) (D.key i j 2) (D.key i j 3) (D.key i j 4) (sn i j)
theorem hlaidOut : laidOutB Try.prog = true := by kernel_rfl
theorem lawN : Keyed Try.prog 55 := Keyed.of_law (deep_law_laid hlaidOut (m := 2) (by decide) (of_decide_eq_true (by kernel_rfl)) (by kernel_rfl) (by kernel_rfl))
def kN (a b : Int) : Lit := .string (keyBytes [.int .i64 a, .int .i64 b])
theorem kN_key (a b : Int) : WideAt.IsKeyLit (kN a b) := by trivial
theorem zeroI (w : World) : (zeroValue 3).run Try.prog w = .ok (.int .i64 0) w := by kernel_rfl
theorem kN_is {a b : Int} (ha : wfH a) (hb : wfH b) : keyOf Try.prog 55 (.agg #[.int .i64 a, .int .i64 b]) = some (kN a b) := by
  have hkt : Try.prog.keyType 55 = true := by kernel_rfl
  have hc : Try.prog.cellsOf 55 = 2 := by kernel_rfl
  have hi : Try.prog.cellsOf 3 = 1 := by kernel_rfl
  obtain ⟨m, hm⟩ : ∃ m, Try.prog.types.size = m + 2 := ⟨Try.prog.types.size - 2, by have : 2 ≤ Try.prog.types.size := of_decide_eq_true (by kernel_rfl); omega⟩
  have hl : ∀ d, Try.prog.keyLits (d + 2) 55 [.int .i64 a, .int .i64 b] = some [.int .i64 a, .int .i64 b] := by
    intro d
    unfold wfH at ha hb
    have h1 : ∀ x, (Lit.int .i64 x).wf = true → Try.prog.keyLits (d + 1) 3 [.int .i64 x] = some [.int .i64 x] := by
      intro x hx
      simp [Program.keyLits, Try.underlying3, hx]
    unfold Program.keyLits
    simp only [Try.underlying55]
    rw [if_pos (by rw [hc]; exact ⟨rfl, by simp⟩)]
    simp [hi, h1 a ha, h1 b hb]
  unfold keyOf
  simp only [Try.underlying55]
  rw [if_pos (by simp [hkt, Value.formed, Try.underlying55, hc]), hm]
  show (Try.prog.keyLits (m + 1 + 2) 55 [.int .i64 a, .int .i64 b]).map _ = _
  rw [hl]
  rfl
theorem kN_inj {a b c d : Int} (ha : wfH a) (hb : wfH b) (hc : wfH c) (hd : wfH d) (h : kN a b = kN c d) : a = c ∧ b = d := by
  have h1 := kN_is ha hb
  have h2 := kN_is hc hd
  rw [← h] at h2
  have := lawN.inj h1 h2
  simpa using this
/-- What the map tells behind m factories. -/
structure MapIs (D : FD) (m : Nat) (M : DataW Unit) : Prop where
  has : ∀ a b, wfH a → wfH b → Maps.has M (kN a b) = (D.fidx a b m).isSome
  at_ : ∀ a b i, wfH a → wfH b → D.fidx a b m = some i → M.atKey (kN a b) (.lit (.int .i64 0)) = .lit (.int .i64 (i : Int))
theorem MapIs.start (D : FD) : MapIs D 0 (.map []) := ⟨fun a b _ _ => by simp [Maps.has, FD.fidx], fun a b i _ _ h => by cases h⟩
theorem MapIs.skip {D : FD} {m : Nat} {M : DataW Unit} (h : MapIs D m M) {i : Nat} (hi : D.fidx (D.id m) (D.ver m) m = some i) : MapIs D (m + 1) M := by
  have e : ∀ a b, D.fidx a b (m + 1) = D.fidx a b m := by
    intro a b
    show (match D.fidx a b m with | some i => some i | none => if D.id m = a ∧ D.ver m = b then some m else none) = _
    cases hq : D.fidx a b m with
    | some j => rfl
    | none =>
      simp only
      split
      · rename_i h2
        obtain ⟨rfl, rfl⟩ := h2
        rw [hi] at hq
        cases hq
      · rfl
  exact ⟨fun a b ha hb => by rw [e]; exact h.has a b ha hb, fun a b i ha hb hf => by rw [e] at hf; exact h.at_ a b i ha hb hf⟩
theorem MapIs.put {D : FD} {m : Nat} {M : DataW Unit} (h : MapIs D m M) (hM : IsMap M) (hi : D.fidx (D.id m) (D.ver m) m = none) (w1 : wfH (D.id m)) (w2 : wfH (D.ver m)) : MapIs D (m + 1) (M.put (kN (D.id m) (D.ver m)) (.lit (.int .i64 (m : Int)))) := by
  have e : ∀ a b, D.fidx a b (m + 1) = (match D.fidx a b m with | some i => some i | none => if D.id m = a ∧ D.ver m = b then some m else none) := fun a b => rfl
  have key : ∀ a b, wfH a → wfH b → (a = D.id m ∧ b = D.ver m) ∨ (kN a b ≠ kN (D.id m) (D.ver m) ∧ ¬ (D.id m = a ∧ D.ver m = b)) := by
    intro a b ha hb
    by_cases he : a = D.id m ∧ b = D.ver m
    · exact .inl he
    · exact .inr ⟨fun hk => he (kN_inj ha hb w1 w2 hk), fun h2 => he ⟨h2.1.symm, h2.2.symm⟩⟩
  refine ⟨fun a b ha hb => ?_, fun a b i ha hb hf => ?_⟩
  · rcases key a b ha hb with ⟨rfl, rfl⟩ | ⟨h1, h2⟩
    · rw [has_put_same hM (kN_key _ _), e, hi]
      simp
    · rw [has_put_other h1, h.has a b ha hb, e]
      cases hq : D.fidx a b m with
      | some j => rfl
      | none => simp [h2]
  · rcases key a b ha hb with ⟨rfl, rfl⟩ | ⟨h1, h2⟩
    · rw [e, hi] at hf
      simp at hf
      rw [atKey_put_same hM (kN_key _ _), ← hf]
    · rw [atKey_put_other h1]
      rw [e] at hf
      cases hq : D.fidx a b m with
      | some j =>
        rw [hq] at hf
        simp at hf
        rw [← hf]
        exact h.at_ a b j ha hb hq
      | none =>
        rw [hq] at hf
        simp [h2] at hf
def bools (R : Nat → Bool) (n : Nat) : List Value := (List.range n).map fun i => .bool (R i)
theorem bools_len (R : Nat → Bool) (n : Nat) : (bools R n).length = n := by simp [bools]
theorem bools_at (R : Nat → Bool) (n i : Nat) (hi : i < n) : (bools R n)[i]? = some (.bool (R i)) := by
  unfold bools
  rw [List.getElem?_map, List.getElem?_range hi]
  rfl
theorem bools_set (R : Nat → Bool) (n i : Nat) (hi : i < n) (b : Bool) : (bools R n).set i (.bool b) = bools (updB R i b) n := by
  apply List.ext_getElem?
  intro j
  by_cases hj : j < n
  · rw [bools_at _ _ _ hj, List.getElem?_set]
    by_cases e : i = j
    · subst e
      rw [if_pos rfl, if_pos (by rw [bools_len]; exact hi), updB_same]
    · rw [if_neg e, bools_at _ _ _ hj, updB_other _ _ _ _ (Ne.symm e)]
  · rw [List.getElem?_eq_none (by rw [List.length_set, bools_len]; omega), List.getElem?_eq_none (by rw [bools_len]; omega)]
/-- The row of what was told. -/
def OutAt (w : World) (bo n : Nat) (R : Nat → Bool) : Prop := w.ownsRow 0 4 1 (.slice (some ⟨bo, 0, none⟩) n n) n (bools R n)
theorem OutAt.lt {w : World} {bo n : Nat} {R : Nat → Bool} (h : OutAt w bo n R) : bo < w.heap.size := (World.ownsRow.lt h bo rfl).2
theorem OutAt.at_ {w : World} {bo n : Nat} {R : Nat → Bool} (h : OutAt w bo n R) (i : Nat) (hi : i < n) : w.cell? ⟨bo, i, none⟩ = some (.bool (R i)) ∧ w.frozen? ⟨bo, i, none⟩ = false := by
  refine ⟨?_, World.ownsRow.frozenAt h i⟩
  rw [World.ownsRow.cellAt h i (by omega), bools_at _ _ _ hi]
theorem OutAt.set {w : World} {bo n : Nat} {R : Nat → Bool} (h : OutAt w bo n R) (i : Nat) (hi : i < n) (b : Bool) : OutAt (w.setCell ⟨bo, i, none⟩ (.bool b)) bo n (updB R i b) ∧ w.grownBy (w.setCell ⟨bo, i, none⟩ (.bool b)) (some bo) := by
  have hs := World.ownsRow.stored h i (.bool b)
  rw [bools_set R n i hi b] at hs
  exact hs
theorem OutAt.kept {w w' : World} {bo n g : Nat} {R : Nat → Bool} (h : OutAt w bo n R) (hg : w.grownBy w' (some g)) (hne : bo ≠ g) : OutAt w' bo n R := World.ownsRow.kept h hg (.inr (by simp [Value.ownBlock]; exact hne))
theorem rowkeep {w w' : World} {B E s n : Nat} {v : Value} {xs : List Value} (h : w.ownsRow B E s v n xs) (hb : ∀ g, v.ownBlock = some g → w'.heap[g]? = w.heap[g]?) : w'.ownsRow B E s v n xs := by
  refine ⟨h.1, ?_⟩
  rcases h.2 with hn | ⟨g, cap, cur, rfl, hB, hg, rest⟩
  · exact .inl hn
  · exact .inr ⟨g, cap, cur, rfl, hB, (hb g rfl).trans hg, rest⟩
theorem rowbelow {w w' : World} {B E s n : Nat} {v : Value} {xs : List Value} (h : w.ownsRow B E s v n xs) (hb : Below w.heap.size w w') : w'.ownsRow B E s v n xs := rowkeep h fun g hg => hb.block g (h.lt g hg).2
theorem mapbelow {w w' : World} {b n : Nat} {M : DataW Unit} (h : w.ownsMap Try.prog 55 (plainElem (H := Unit) Try.prog 3) b n M) (hb : Below w.heap.size w w') : w'.ownsMap Try.prog 55 (plainElem (H := Unit) Try.prog 3) b n M := by
  have hl := h.lt
  obtain ⟨es, cl, hm, r⟩ := h
  exact ⟨es, cl, (hb.block b hl).trans hm, r⟩
/-- A survey as it is handed out. -/
structure SvAt (w : World) (D : FD) (bm bo m : Nat) (M : DataW Unit) (R : Nat → Bool) : Prop where
  mp : w.ownsMap Try.prog 55 (plainElem (H := Unit) Try.prog 3) bm m M
  mi : MapIs D D.n M
  ou : OutAt w bo D.n R
theorem SvAt.below {w w' : World} {D : FD} {bm bo m : Nat} {M : DataW Unit} {R : Nat → Bool} (h : SvAt w D bm bo m M R) (hb : Below w.heap.size w w') : SvAt w' D bm bo m M R := ⟨mapbelow h.mp hb, h.mi, rowbelow h.ou hb⟩
set_option maxRecDepth 100000 in
theorem hfactory_some (k0 k1 k2 k3 k4 : Int) (D : FD) (i bm bo cn cn2 m : Nat) (M : DataW Unit) (ht : Hid (D.tgt k0 k1 k2 = some i)) (h1 : wfH k1) (h2 : wfH k2) (w : World) (hM : w.ownsMap Try.prog 55 (plainElem (H := Unit) Try.prog 3) bm m M) (hI : MapIs D D.n M) :
    Calls Try.prog 23 #[(Value.agg #[.map (some bm), .slice (some ⟨bo, 0, none⟩) cn cn2]), (Value.agg #[.int .i64 k0, .int .i64 k1, .int .i64 k2, .int .i64 k3, .int .u32 k4])] w fun e w' => e = .returned (.tuple #[.int .i64 (i : Int), .bool true]) ∧ Below w.heap.size w w' := by
  have h9 : k0 = 9 := by
    have := ht.out
    unfold FD.tgt at this
    split at this
    · assumption
    · cases this
  subst h9
  have hf : D.fidx k1 k2 D.n = some i := by have := ht.out; simpa [FD.tgt] using this
  have HK := Lib.hid (kN_is h1 h2)
  have hh : Maps.has M (kN k1 k2) = true := by rw [hI.has k1 k2 h1 h2, hf]; rfl
  have HA := Lib.hid (hI.at_ k1 k2 i h1 h2 hf)
  have HM := Lib.hid hM
  clear hM hI h1 h2 hf ht
  go_enter Try.func23, Try.ntmps23
  go_wp2_with (first
    | (at_lookup; refine wpList_lookup_own_ok_int _ rfl _ _ 47 rfl 55 3 .i64 lawN Try.underlying47 Try.underlying3 (zeroI _) bm m M rfl ((HM.out.alloc _).alloc _) _ _ rfl HK.out ?_; intro c hat hwc; obtain rfl : c = (i : Int) := (by have e := hat.symm.trans HA.out; simpa using e); clear hat))
  go_ret2
  exact ⟨rfl, ((Below.refl _ _).alloc (Nat.le_refl _) _).alloc (by simp) _⟩
set_option maxRecDepth 100000 in
theorem hfactory_none (k0 k1 k2 k3 k4 : Int) (D : FD) (bm bo cn cn2 m : Nat) (M : DataW Unit) (ht : Hid (D.tgt k0 k1 k2 = none)) (h1 : wfH k1) (h2 : wfH k2) (w : World) (hM : w.ownsMap Try.prog 55 (plainElem (H := Unit) Try.prog 3) bm m M) (hI : MapIs D D.n M) :
    Calls Try.prog 23 #[(Value.agg #[.map (some bm), .slice (some ⟨bo, 0, none⟩) cn cn2]), (Value.agg #[.int .i64 k0, .int .i64 k1, .int .i64 k2, .int .i64 k3, .int .u32 k4])] w fun e w' => e = .returned (.tuple #[.int .i64 0, .bool false]) ∧ Below w.heap.size w w' := by
  by_cases h9 : k0 = 9
  · subst h9
    have hf : D.fidx k1 k2 D.n = none := by have := ht.out; simpa [FD.tgt] using this
    have HK := Lib.hid (kN_is h1 h2)
    have hh : Maps.has M (kN k1 k2) = false := by rw [hI.has k1 k2 h1 h2, hf]; rfl
    have HA := Lib.hid (Maps.atKey_of_not_has hh (.lit (.int .i64 0)))
    have HM := Lib.hid hM
    clear hM hI h1 h2 hf ht
    go_enter Try.func23, Try.ntmps23
    go_wp2_with (first
      | (at_lookup; refine wpList_lookup_own_ok_int _ rfl _ _ 47 rfl 55 3 .i64 lawN Try.underlying47 Try.underlying3 (zeroI _) bm m M rfl ((HM.out.alloc _).alloc _) _ _ rfl HK.out ?_; intro c hat hwc; obtain rfl : c = 0 := (by have e := hat.symm.trans HA.out; simpa using e); clear hat))
    go_ret2
    exact ⟨rfl, ((Below.refl _ _).alloc (Nat.le_refl _) _).alloc (by simp) _⟩
  · have e9 : (k0 == 9) = false := by simpa using h9
    clear hM
    go_enter Try.func23, Try.ntmps23
    go_wp2
    go_ret2
    exact ⟨rfl, ((Below.refl _ _).alloc (Nat.le_refl _) _).alloc (by simp) _⟩
/-- Is a key a hole? -/
def holeB (D : FD) (R : Nat → Bool) (s : Bool) (k0 k1 k2 : Int) : Bool := match D.tgt k0 k1 k2 with | some i => R i | none => !s
set_option maxRecDepth 100000 in
theorem hishole_any (k0 k1 k2 k3 k4 : Int) (D : FD) (bm bo m : Nat) (M : DataW Unit) (R : Nat → Bool) (s t : Bool) (ht : Hid (holeB D R s k0 k1 k2 = t)) (h1 : wfH k1) (h2 : wfH k2) (hS : Sens k0 k1 k2 k3 k4 s) (w : World) (h : SvAt w D bm bo m M R) :
    Calls Try.prog 20 #[.agg #[.map (some bm), .slice (some ⟨bo, 0, none⟩) D.n D.n], (Value.agg #[.int .i64 k0, .int .i64 k1, .int .i64 k2, .int .i64 k3, .int .u32 k4])] w fun e w' => e = .returned (.bool t) ∧ Below w.heap.size w w' := by
  have H : Hid (SvAt ((w.alloc (.cells #[.map (some bm), .slice (some ⟨bo, 0, none⟩) D.n D.n] 50)).alloc (.cells #[.int .i64 k0, .int .i64 k1, .int .i64 k2, .int .i64 k3, .int .u32 k4] 24)) D bm bo m M R) := Lib.hid (h.below (((Below.refl _ _).alloc (Nat.le_refl _) _).alloc (by simp) _))
  have HS := Lib.hid hS
  have HW := Lib.hid (⟨h1, h2⟩ : wfH k1 ∧ wfH k2)
  clear h hS h1 h2
  cases hq : D.tgt k0 k1 k2 with
  | none =>
    have HT : Hid (D.tgt k0 k1 k2 = none) := Lib.hid hq
    have ht2 : t = !s := by rw [← ht.out]; simp [holeB, hq]
    subst ht2
    clear hq ht
    go_enter Try.func20, Try.ntmps20
    go_wp2_with (first
      | (go_at_call 23; (with_reducible refine (hfactory_none k0 k1 k2 k3 k4 D bm bo D.n D.n m M HT HW.out.1 HW.out.2 _ H.out.mp H.out.mi).mono ?_); rintro e w1 ⟨rfl, hb⟩; obtain ⟨hc, hf⟩ := bcell hb; have HB := Lib.hid (Below.trans (((Below.refl _ _).alloc (Nat.le_refl _) _).alloc (by simp) _) (hb.mono (by simp; omega))); have hz : w.heap.size + 1 < w1.heap.size := by { have := hb.size; simp at this; omega }; clear hb)
      | (go_at_call 24; (with_reducible refine (HS.out.at _).mono ?_); rintro e w2 ⟨rfl, hb2⟩; have HB2 := Lib.hid (HB.out.trans (hb2.mono HB.out.size)); clear hb2))
    go_ret
    exact ⟨rfl, HB2.out⟩
  | some i =>
    have HT : Hid (D.tgt k0 k1 k2 = some i) := Lib.hid hq
    have hi := FD.tgt_lt hq
    have ht2 : t = R i := by rw [← ht.out]; simp [holeB, hq]
    have HR2 := Lib.hid ht2
    have i0 : (0 : Int) ≤ i := by omega
    have i1 : (i : Int) < D.n := by omega
    clear hq ht ht2
    go_enter Try.func20, Try.ntmps20
    go_wp2_with (first
      | (go_at_call 23; (with_reducible refine (hfactory_some k0 k1 k2 k3 k4 D i bm bo D.n D.n m M HT HW.out.1 HW.out.2 _ H.out.mp H.out.mi).mono ?_); rintro e w1 ⟨rfl, hb⟩; have hcell := ((H.out.below hb).ou.at_ i hi).1; rw [← HR2.out] at hcell; obtain ⟨hc, hf⟩ := bcell hb; have HB := Lib.hid (Below.trans (((Below.refl _ _).alloc (Nat.le_refl _) _).alloc (by simp) _) (hb.mono (by simp; omega))); clear hb))
    go_ret
    exact ⟨rfl, HB.out⟩
end Go.Proofs.Ytahhnfhnlffmpaa
