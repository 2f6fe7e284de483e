/-
  HoleChains: the mathematics of chains.
-/
import Derived.Test.YtahhnfhnlffmpaaHg
namespace Go.Proofs.Ytahhnfhnlffmpaa
open Go.ChangeShapes Go.WideShapes Go.ChangeAt Go.RowKit Go.Maps
set_option linter.unusedVariables false
def ckey (n i j q : Nat) : Int := if j = 0 then 0 else if j = 1 then (if q = 0 then 14 else 0) else if j = 2 ∧ i + 1 < n then (if q = 0 then 9 else if q = 1 then ((i + 1 : Nat) : Int) else 0) else if q = 0 then 8 else 0
def cct (n at_ i : Nat) : Nat := 2 + (if i + 1 < n then 1 else 0) + (if i = at_ then 1 else 0)
/-- A chain of n, of which m are there. -/
def CD (b : Bool) (m n at_ : Nat) (pa : Nat → Option Addr) (cp : Nat → Nat) : FD :=
  ⟨m, fun i => i, fun _ => 0, fun i => !(b && decide (i = at_)), pa, cct n at_, cp, fun i => ckey n i⟩
def snC (i j : Nat) : Bool := decide (j < 2)
structure ChainOk (D : FD) (n at_ : Nat) : Prop where
  nn : D.n = n
  wf : ∀ i, i < D.n → wfH (D.id i) ∧ wfH (D.ver i) ∧ ∀ j, j < D.ct i → wfH (D.key i j 1) ∧ wfH (D.key i j 2)
  few : D.n ≤ 256
  few2 : ∀ i, D.ct i ≤ 64
  snk : SnOk D snC
  ris : RIs D snC (fun i => decide (i ≤ at_))
  fn : ∀ i, i < D.n → pickTo (fun j => holeB D (fun i => decide (i ≤ at_)) (snC i j) (D.key i j 0) (D.key i j 1) (D.key i j 2)) (D.ct i) = if i < at_ then [2] else if i = at_ then [D.ct i - 1] else []
  last : ∀ q, D.key at_ (D.ct at_ - 1) q = if q = 0 then 8 else 0
  is : ∀ i, i < D.n → holeB D (fun i => decide (i ≤ at_)) false 9 i 0 = decide (i ≤ at_)
theorem sens0 : Sens 0 0 0 0 0 true := fun W => sensory_yes 0 0 0 0 0 (Lib.hid (.inr (.inl ⟨by decide, rfl⟩))) W
theorem sens14 : Sens 14 0 0 0 0 true := fun W => sensory_yes 14 0 0 0 0 (Lib.hid (.inr (.inl ⟨by decide, rfl⟩))) W
theorem sens8 : Sens 8 0 0 0 0 false := fun W => sensory_no 8 0 0 0 0 0 0 0 0 0 (Lib.hid (.inr (.inr ⟨by decide, rfl⟩))) (.inl (by decide)) W
section
variable {b : Bool} {n at_ : Nat} {pa : Nat → Option Addr} {cp : Nat → Nat}
theorem CD.sens : SnOk (CD b n n at_ pa cp) snC := by
  intro i j hi hj
  by_cases h0 : j = 0
  · subst h0; simpa [CD, ckey, snC] using sens0
  · by_cases h1 : j = 1
    · subst h1; simpa [CD, ckey, snC] using sens14
    · have e : snC i j = false := by simp [snC]; omega
      rw [e]
      by_cases h2 : j = 2 ∧ i + 1 < n
      · simpa [CD, ckey, h0, h1, h2] using sens9 ((i + 1 : Nat) : Int) 0
      · simpa [CD, ckey, h0, h1, h2] using sens8
theorem CD.tgt9 (m : Nat) : (CD b n n at_ pa cp).tgt 9 (m : Int) 0 = if m < n then some m else none := by
  unfold FD.tgt
  rw [if_pos rfl]
  show (CD b n n at_ pa cp).fidx (m : Int) 0 n = _
  rw [fidx_id _ (fun i => rfl)]
  by_cases h : m < n
  · rw [if_pos h, if_pos ⟨h, rfl⟩]
  · rw [if_neg h, if_neg (fun h2 => h h2.1)]
theorem CD.tg (i j : Nat) : (CD b n n at_ pa cp).tgt ((CD b n n at_ pa cp).key i j 0) ((CD b n n at_ pa cp).key i j 1) ((CD b n n at_ pa cp).key i j 2) = if j = 2 ∧ i + 1 < n then some (i + 1) else none := by
  by_cases h : j = 2 ∧ i + 1 < n
  · have e0 : (CD b n n at_ pa cp).key i j 0 = 9 := by show ckey n i j 0 = 9; simp [ckey, h]
    have e1 : (CD b n n at_ pa cp).key i j 1 = ((i + 1 : Nat) : Int) := by show ckey n i j 1 = _; simp [ckey, h]
    have e2 : (CD b n n at_ pa cp).key i j 2 = 0 := by show ckey n i j 2 = _; simp [ckey, h]
    rw [e0, e1, e2, CD.tgt9, if_pos h, if_pos h.2]
  · have e0 : (CD b n n at_ pa cp).key i j 0 ≠ 9 := by
      show ckey n i j 0 ≠ 9
      unfold ckey
      rw [if_neg h]
      repeat' split
      all_goals simp
    unfold FD.tgt
    rw [if_neg e0, if_neg h]
theorem CD.hb (i j : Nat) : holeB (CD b n n at_ pa cp) (fun i => decide (i ≤ at_)) (snC i j) ((CD b n n at_ pa cp).key i j 0) ((CD b n n at_ pa cp).key i j 1) ((CD b n n at_ pa cp).key i j 2) = if j < 2 then false else if j = 2 ∧ i + 1 < n then decide (i + 1 ≤ at_) else true := by
  unfold holeB
  rw [CD.tg]
  by_cases h : j = 2 ∧ i + 1 < n
  · rw [if_pos h, if_neg (by omega), if_pos h]
  · rw [if_neg h]
    by_cases h2 : j < 2
    · rw [if_pos h2]; simp [snC, h2]
    · rw [if_neg h2, if_neg h]; simp [snC, h2]
theorem CD.ok (hn : n ≤ 12) (hat : at_ < n) : ChainOk (CD b n n at_ pa cp) n at_ := by
  have hc : ∀ i, (CD b n n at_ pa cp).ct i = cct n at_ i := fun i => rfl
  refine ⟨rfl, fun i hi => ?_, by show n ≤ 256; omega, fun i => ?_, CD.sens, fun x hx => ?_, fun i hi => ?_, fun q => ?_, fun i hi => ?_⟩
  · have hi : i < n := hi
    have hk : ∀ j q, 0 ≤ ckey n i j q ∧ ckey n i j q ≤ 100 := by
      intro j q
      unfold ckey
      repeat' split
      all_goals omega
    exact ⟨wfH.mk (a := (i : Int)) (by omega) (by omega), wfH.mk (a := 0) (by omega) (by omega), fun j hj => ⟨wfH.mk (a := ckey n i j 1) (by have := hk j 1; omega) (by have := hk j 1; omega), wfH.mk (a := ckey n i j 2) (by have := hk j 2; omega) (by have := hk j 2; omega)⟩⟩
  · rw [hc]; unfold cct; repeat' split
    all_goals omega
  · have hx : x < n := hx
    have htg : ∀ i j, ((CD b n n at_ pa cp).fac snC).tg i j = if j = 2 ∧ i + 1 < n then some (i + 1) else none := fun i j => CD.tg i j
    constructor
    · intro h
      have hle : x ≤ at_ := by simpa using h
      have up : ∀ d x, x + d = at_ → ((CD b n n at_ pa cp).fac snC).Reach x := by
        intro d
        induction d with
        | zero =>
          intro x hx
          obtain rfl : x = at_ := by omega
          refine .self x hat ?_
          unfold Fac.base Fac.baseTo
          rw [Bool.or_eq_true, anyTo_iff]
          refine .inr ⟨cct n x x - 1, ?_, ?_⟩
          · show cct n x x - 1 < cct n x x
            unfold cct; omega
          · unfold Fac.own
            have h2 : ¬ (cct n x x - 1 = 2 ∧ x + 1 < n) := by
              unfold cct
              rw [if_pos rfl]
              split <;> omega
            rw [htg, if_neg h2]
            have h3 : ¬ (cct n x x - 1 < 2) := by unfold cct; rw [if_pos rfl]; omega
            show (true && !snC x (cct n x x - 1)) = true
            simp [snC, h3]
        | succ d ih =>
          intro x hx
          refine .part x 2 (x + 1) (by show x < n; omega) ?_ ?_ (ih (x + 1) (by omega))
          · show 2 < cct n at_ x
            unfold cct
            rw [if_pos (by omega)]; omega
          · rw [htg, if_pos ⟨rfl, by omega⟩]
      exact up (at_ - x) x (by omega)
    · intro h
      have dn : ∀ y, ((CD b n n at_ pa cp).fac snC).Reach y → y ≤ at_ := by
        intro y h
        induction h with
        | self i hi h =>
          unfold Fac.base Fac.baseTo at h
          rw [Bool.or_eq_true, anyTo_iff] at h
          rcases h with h | ⟨j, hj, h⟩
          · have : ((CD b n n at_ pa cp).fac snC).sl i = !(b && decide (i = at_)) := rfl
            rw [this] at h
            simp at h
            omega
          · have hj : j < cct n at_ i := hj
            unfold Fac.own at h
            rw [htg] at h
            have hs : ((CD b n n at_ pa cp).fac snC).sn i j = decide (j < 2) := rfl
            rw [hs] at h
            by_cases h2 : j = 2 ∧ i + 1 < n
            · rw [if_pos h2] at h; simp at h
            · rw [if_neg h2] at h
              simp at h
              unfold cct at hj
              apply Classical.byContradiction
              intro hne
              rw [if_neg (show ¬ i = at_ by omega)] at hj
              split at hj <;> omega
        | part i j a hi hj htg2 _ ih =>
          rw [htg] at htg2
          split at htg2
          · simp at htg2; omega
          · cases htg2
      have := dn x h
      simpa using this
  · have hi : i < n := hi
    rw [show (fun j => holeB (CD b n n at_ pa cp) (fun i => decide (i ≤ at_)) (snC i j) ((CD b n n at_ pa cp).key i j 0) ((CD b n n at_ pa cp).key i j 1) ((CD b n n at_ pa cp).key i j 2)) = fun j => if j < 2 then false else if j = 2 ∧ i + 1 < n then decide (i + 1 ≤ at_) else true from funext fun j => CD.hb i j, hc]
    by_cases h1 : i < at_
    · have e : cct n at_ i = 3 := by unfold cct; rw [if_pos (by omega), if_neg (by omega)]
      have h2 : i + 1 < n := by omega
      have h3 : i + 1 ≤ at_ := by omega
      rw [if_pos h1, e]
      simp [pickTo, h2, h3]
    · rw [if_neg h1]
      have h3 : ¬ (i + 1 ≤ at_) := by omega
      by_cases h2 : i = at_
      · rw [if_pos h2]
        by_cases h4 : i + 1 < n
        · have e : cct n at_ i = 4 := by unfold cct; rw [if_pos h4, if_pos h2]
          rw [e]
          simp [pickTo, h4, h3]
        · have e : cct n at_ i = 3 := by unfold cct; rw [if_neg h4, if_pos h2]
          rw [e]
          simp [pickTo, h4]
      · rw [if_neg h2]
        by_cases h4 : i + 1 < n
        · have e : cct n at_ i = 3 := by unfold cct; rw [if_pos h4, if_neg h2]
          rw [e]
          simp [pickTo, h4, h3]
        · have e : cct n at_ i = 2 := by unfold cct; rw [if_neg h4, if_neg h2]
          rw [e]
          simp [pickTo]
  · show ckey n at_ (cct n at_ at_ - 1) q = _
    have e0 : cct n at_ at_ - 1 = 2 ∧ ¬ at_ + 1 < n ∨ cct n at_ at_ - 1 = 3 := by
      unfold cct
      rw [if_pos rfl]
      split <;> omega
    unfold ckey
    rcases e0 with ⟨e, h⟩ | e
    · rw [e]; simp [h]
    · rw [e]; simp
  · have hi : i < n := hi
    unfold holeB
    rw [CD.tgt9, if_pos hi]
end
end Go.Proofs.Ytahhnfhnlffmpaa
