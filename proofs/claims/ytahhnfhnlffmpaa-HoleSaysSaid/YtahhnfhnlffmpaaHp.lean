/-
  HoleSays: the mathematics of the reference's Hole: what is to do, what was seen.
-/
import Derived.Test.YtahhnfhnlffmpaaHr
namespace Go.Proofs.Ytahhnfhnlffmpaa
open Go.ChangeShapes Go.WideShapes Go.ChangeAt Go.RowKit Go.Maps
set_option linter.unusedVariables false
def RSens (k0 k1 k2 k3 k4 : Int) (t : Bool) : Prop := ∀ W, Calls Try.prog 21 #[(Value.agg #[.int .i64 k0, .int .i64 k1, .int .i64 k2, .int .i64 k3, .int .u32 k4])] W fun e w' => e = .returned (.bool t) ∧ Below W.heap.size W w'
theorem RSens.at {k0 k1 k2 k3 k4 : Int} {t : Bool} (h : RSens k0 k1 k2 k3 k4 t) (W : World) : Calls Try.prog 21 #[(Value.agg #[.int .i64 k0, .int .i64 k1, .int .i64 k2, .int .i64 k3, .int .u32 k4])] W fun e w' => e = .returned (.bool t) ∧ Below W.heap.size W w' := h W
def cntB (s : Nat → Bool) : Nat → Nat
  | 0 => 0
  | n + 1 => cntB s n + if s n then 1 else 0
theorem cntB_le (s : Nat → Bool) : ∀ n, cntB s n ≤ n
  | 0 => Nat.le_refl _
  | n + 1 => by have := cntB_le s n; unfold cntB; split <;> omega
theorem cntB_upd_ge {s : Nat → Bool} {a : Nat} : ∀ {n}, n ≤ a → cntB (updB s a true) n = cntB s n
  | 0, _ => rfl
  | n + 1, h => by
    unfold cntB
    rw [cntB_upd_ge (by omega), updB_other _ _ _ _ (by omega)]
theorem cntB_upd {s : Nat → Bool} {a : Nat} (ha : s a = false) : ∀ {n}, a < n → cntB (updB s a true) n = cntB s n + 1
  | 0, h => by omega
  | n + 1, h => by
    unfold cntB
    by_cases e : a = n
    · subst e
      rw [cntB_upd_ge (Nat.le_refl _), updB_same, ha]
      simp
    · rw [cntB_upd ha (by omega), updB_other _ _ _ _ (fun e2 => e e2.symm)]
      omega
/-- A key with its flag is a hole. -/
def HoleP (D : FD) (sn : Nat → Nat → Bool) (s : Bool) (kk : Nat → Int) : Prop := (∃ i, D.tgt (kk 0) (kk 1) (kk 2) = some i ∧ (D.fac sn).Reach i) ∨ (D.tgt (kk 0) (kk 1) (kk 2) = none ∧ s = false)
theorem holeB_iff {D : FD} {sn : Nat → Nat → Bool} {R : Nat → Bool} (hR : RIs D sn R) (s : Bool) (kk : Nat → Int) : holeB D R s (kk 0) (kk 1) (kk 2) = true ↔ HoleP D sn s kk := by
  unfold holeB HoleP
  cases h : D.tgt (kk 0) (kk 1) (kk 2) with
  | none => simp
  | some i => simp; exact hR i (FD.tgt_lt h)
/-- What leads to a factory is not sensory. -/
def NineOk (D : FD) (s : Bool) (kk : Nat → Int) : Prop := ∀ i, D.tgt (kk 0) (kk 1) (kk 2) = some i → s = false
structure HInv (D : FD) (sn : Nat → Nat → Bool) (s : Bool) (k : Nat → Int) (tn : Nat) (tk : Nat → Nat → Int) (ts : Nat → Bool) (seen : Nat → Bool) (m : Nat) : Prop where
  fst : 0 < tn ∧ tk 0 = k ∧ ts 0 = s
  src : ∀ j, j < tn → j = 0 ∨ ∃ i p, i < D.n ∧ p < D.ct i ∧ tk j = D.key i p ∧ ts j = sn i p ∧ seen i = true
  all : ∀ i, i < D.n → seen i = true → D.sl i = true ∧ ∀ p, p < D.ct i → ∃ j, j < tn ∧ tk j = D.key i p ∧ ts j = sn i p
  done : ∀ j, j < m → ts j = true ∨ ∃ i, D.tgt (tk j 0) (tk j 1) (tk j 2) = some i ∧ seen i = true
  up : ∀ i, i < D.n → seen i = true → (D.fac sn).Reach i → HoleP D sn s k
  le : m ≤ tn
  few : tn ≤ 1 + 8 * cntB seen D.n
  rs : ∀ j, j < tn → RSens (tk j 0) (tk j 1) (tk j 2) (tk j 3) (tk j 4) (ts j)
section
variable {D : FD} {sn : Nat → Nat → Bool} {s : Bool} {k : Nat → Int} {tn m : Nat} {tk : Nat → Nat → Int} {ts seen : Nat → Bool}
theorem HInv.start (hk : RSens (k 0) (k 1) (k 2) (k 3) (k 4) s) : HInv D sn s k 1 (fun _ => k) (fun _ => s) (fun _ => false) 0 :=
  ⟨⟨by omega, rfl, rfl⟩, fun j hj => .inl (by omega), fun i _ h => by simp at h, fun j hj => by omega, fun i _ h => by simp at h, by omega, by omega, fun j _ => hk⟩
theorem HInv.sens (h : HInv D sn s k tn tk ts seen m) (hm : m < tn) (ht : ts m = true) : HInv D sn s k tn tk ts seen (m + 1) := by
  refine ⟨h.fst, h.src, h.all, fun j hj => ?_, h.up, hm, h.few, h.rs⟩
  by_cases e : j = m
  · subst e; exact .inl ht
  · exact h.done j (by omega)
theorem HInv.old (h : HInv D sn s k tn tk ts seen m) (hm : m < tn) {i : Nat} (ht : D.tgt (tk m 0) (tk m 1) (tk m 2) = some i) (hs : seen i = true) : HInv D sn s k tn tk ts seen (m + 1) := by
  refine ⟨h.fst, h.src, h.all, fun j hj => ?_, h.up, hm, h.few, h.rs⟩
  by_cases e : j = m
  · subst e; exact .inr ⟨i, ht, hs⟩
  · exact h.done j (by omega)
/-- What an item is, k is. -/
theorem HInv.lead (h : HInv D sn s k tn tk ts seen m) {j : Nat} (hj : j < tn) (hh : HoleP D sn (ts j) (tk j)) : HoleP D sn s k := by
  rcases h.src j hj with rfl | ⟨i, p, hi, hp, e1, e2, hs⟩
  · rw [← h.fst.2.1, ← h.fst.2.2]; exact hh
  · refine h.up i hi hs ?_
    rcases hh with ⟨a, ha, hr⟩ | ⟨ha, hf⟩
    · refine .part i p a hi hp ?_ hr
      rw [e1] at ha; exact ha
    · refine .self i hi ?_
      unfold Fac.base Fac.baseTo
      rw [Bool.or_eq_true, anyTo_iff]
      refine .inr ⟨p, hp, ?_⟩
      unfold Fac.own
      rw [e1] at ha
      rw [e2] at hf
      rw [show (D.fac sn).tg i p = none from ha, show (D.fac sn).sn i p = false from hf]
      rfl
/-- A new factory. -/
theorem HInv.new (h : HInv D sn s k tn tk ts seen m) (hm : m < tn) (hrs : ∀ i p, i < D.n → p < D.ct i → RSens (D.key i p 0) (D.key i p 1) (D.key i p 2) (D.key i p 3) (D.key i p 4) (sn i p)) (h8 : ∀ i, i < D.n → D.ct i ≤ 8) {a : Nat} (ht : D.tgt (tk m 0) (tk m 1) (tk m 2) = some a) (hsl : D.sl a = true) (hs : seen a = false) :
    HInv D sn s k (tn + D.ct a) (fun j => if j < tn then tk j else D.key a (j - tn)) (fun j => if j < tn then ts j else sn a (j - tn)) (updB seen a true) (m + 1) := by
  have ha := FD.tgt_lt ht
  have mono : ∀ i, seen i = true → updB seen a true i = true := fun i hi => by
    by_cases e : i = a
    · subst e; exact updB_same _ _ _
    · rw [updB_other _ _ _ _ e]; exact hi
  refine ⟨⟨by have := h.fst.1; omega, ?_, ?_⟩, fun j hj => ?_, fun i hi hsi => ?_, fun j hj => ?_, fun i hi hsi hr => ?_, by have := h.le; omega, ?_, fun j hj => ?_⟩
  · show (if 0 < tn then tk 0 else _) = k
    rw [if_pos h.fst.1]; exact h.fst.2.1
  · show (if 0 < tn then ts 0 else _) = s
    rw [if_pos h.fst.1]; exact h.fst.2.2
  · by_cases e : j < tn
    · simp only [if_pos e]
      rcases h.src j e with h0 | ⟨i, p, hi, hp, e1, e2, hs'⟩
      · exact .inl h0
      · exact .inr ⟨i, p, hi, hp, e1, e2, mono i hs'⟩
    · simp only [if_neg e]
      exact .inr ⟨a, j - tn, ha, by omega, rfl, rfl, updB_same _ _ _⟩
  · by_cases e : i = a
    · subst e
      refine ⟨hsl, fun p hp => ⟨tn + p, by omega, ?_, ?_⟩⟩
      · simp only [if_neg (show ¬ tn + p < tn by omega), Nat.add_sub_cancel_left]
      · simp only [if_neg (show ¬ tn + p < tn by omega), Nat.add_sub_cancel_left]
    · rw [updB_other _ _ _ _ e] at hsi
      refine ⟨(h.all i hi hsi).1, fun p hp => ?_⟩
      obtain ⟨j, hj, e1, e2⟩ := (h.all i hi hsi).2 p hp
      exact ⟨j, by omega, by simp only [if_pos hj]; exact e1, by simp only [if_pos hj]; exact e2⟩
  · have hjt : j < tn := by omega
    simp only [if_pos hjt]
    by_cases e : j = m
    · subst e; exact .inr ⟨a, ht, updB_same _ _ _⟩
    · rcases h.done j (by omega) with h1 | ⟨i, h1, h2⟩
      · exact .inl h1
      · exact .inr ⟨i, h1, mono i h2⟩
  · by_cases e : i = a
    · subst e
      exact h.lead hm (.inl ⟨i, ht, hr⟩)
    · rw [updB_other _ _ _ _ e] at hsi
      exact h.up i hi hsi hr
  · have h1 := h.few
    have h2 := cntB_upd hs ha
    have h3 := h8 a ha
    omega
  · by_cases e : j < tn
    · simp only [if_pos e]; exact h.rs j e
    · simp only [if_neg e]; exact hrs a (j - tn) ha (by omega)
/-- What the reference finds. -/
def FD.fnd (D : FD) (k1 k2 : Int) : Option Nat := match D.fidx k1 k2 D.n with | some i => if D.sl i then some i else none | none => none
theorem HInv.yes (h : HInv D sn s k tn tk ts seen m) (hm : m < tn) (hts : ts m = false) (hf : tk m 0 ≠ 9 ∨ D.fnd (tk m 1) (tk m 2) = none) : HoleP D sn s k := by
  refine h.lead hm ?_
  unfold HoleP
  cases ht : D.tgt (tk m 0) (tk m 1) (tk m 2) with
  | none => exact .inr ⟨rfl, hts⟩
  | some i =>
    refine .inl ⟨i, rfl, .self i (FD.tgt_lt ht) ?_⟩
    have hx : D.fidx (tk m 1) (tk m 2) D.n = some i ∧ tk m 0 = 9 := by
      unfold FD.tgt at ht
      split at ht
      · exact ⟨ht, by assumption⟩
      · cases ht
    rcases hf with hf | hf
    · exact absurd hx.2 hf
    · unfold FD.fnd at hf
      rw [hx.1] at hf
      have : D.sl i = false := by
        cases hsl : D.sl i with
        | false => rfl
        | true => simp [hsl] at hf
      unfold Fac.base Fac.baseTo
      rw [show (D.fac sn).sl i = false from this]
      rfl
theorem HInv.no (h : HInv D sn s k tn tk ts seen tn) (h9 : ∀ i p, i < D.n → p < D.ct i → NineOk D (sn i p) (D.key i p)) (hk9 : NineOk D s k) : ¬ HoleP D sn s k := by
  have un : ∀ i, (D.fac sn).Reach i → seen i = true → False := by
    intro i hr
    induction hr with
    | self i hi hb =>
      intro hs
      obtain ⟨h1, h2⟩ := h.all i hi hs
      unfold Fac.base Fac.baseTo at hb
      rw [Bool.or_eq_true, anyTo_iff] at hb
      rcases hb with hb | ⟨p, hp, hb⟩
      · rw [show (D.fac sn).sl i = true from h1] at hb; cases hb
      · obtain ⟨j, hj, e1, e2⟩ := h2 p hp
        unfold Fac.own at hb
        rw [Bool.and_eq_true] at hb
        rcases h.done j hj with hd | ⟨a, hd, _⟩
        · rw [e2] at hd
          rw [show (D.fac sn).sn i p = true from hd] at hb
          simp at hb
        · rw [e1] at hd
          rw [show (D.fac sn).tg i p = some a from hd] at hb
          simp at hb
    | part i p a hi hp htg _ ih =>
      intro hs
      obtain ⟨h1, h2⟩ := h.all i hi hs
      obtain ⟨j, hj, e1, e2⟩ := h2 p hp
      have htg' : D.tgt (D.key i p 0) (D.key i p 1) (D.key i p 2) = some a := htg
      rcases h.done j hj with hd | ⟨b, hd, hs'⟩
      · rw [e2, h9 i p hi hp a htg'] at hd
        cases hd
      · rw [e1, htg'] at hd
        injection hd with hd
        subst hd
        exact ih hs'
  rintro (⟨i, ht, hr⟩ | ⟨ht, hs⟩)
  · rcases h.done 0 h.fst.1 with hd | ⟨b, hd, hs'⟩
    · rw [h.fst.2.2, hk9 i ht] at hd; cases hd
    · rw [h.fst.2.1, ht] at hd
      injection hd with hd
      subst hd
      exact un _ hr hs'
  · rcases h.done 0 h.fst.1 with hd | ⟨b, hd, hs'⟩
    · rw [h.fst.2.2, hs] at hd; cases hd
    · rw [h.fst.2.1, ht] at hd; cases hd
end
end Go.Proofs.Ytahhnfhnlffmpaa
