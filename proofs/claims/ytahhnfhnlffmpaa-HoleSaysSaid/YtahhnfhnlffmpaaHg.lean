/-
  HoleRings: the mathematics of rings.
-/
import Derived.Test.YtahhnfhnlffmpaaHr
import Derived.Test.YtahhnfhnlffmpaaNum
namespace Go.Proofs.Ytahhnfhnlffmpaa
open Go.ChangeShapes Go.WideShapes Go.ChangeAt Go.RowKit Go.Maps
set_option linter.unusedVariables false
theorem fidx_id (D : FD) (hid : ∀ i, D.id i = (i : Int)) (a : Nat) (b : Int) : ∀ m, D.fidx a b m = if a < m ∧ D.ver a = b then some a else none
  | 0 => by simp [FD.fidx]
  | m + 1 => by
    unfold FD.fidx
    rw [fidx_id D hid a b m, hid m]
    by_cases h : a < m ∧ D.ver a = b
    · rw [if_pos h, if_pos (show a < m + 1 ∧ D.ver a = b from ⟨by omega, h.2⟩)]
    · rw [if_neg h]
      simp only
      by_cases h2 : a = m
      · subst h2
        by_cases h3 : D.ver a = b
        · rw [if_pos ⟨rfl, h3⟩, if_pos ⟨by omega, h3⟩]
        · rw [if_neg (fun h => h3 h.2), if_neg (fun h => h3 h.2)]
      · rw [if_neg (fun h => h2 (by omega))]
        rw [if_neg]
        intro h3
        exact h ⟨by omega, h3.2⟩
def nx (n i : Nat) : Nat := if i + 1 < n then i + 1 else 0
theorem nx_lt {n i : Nat} (h : i < n) : nx n i < n := by unfold nx; split <;> omega
theorem nx_mod {n i : Nat} (h : i < n) : (i + 1) % n = nx n i := by
  unfold nx
  by_cases h2 : i + 1 < n
  · rw [if_pos h2, Nat.mod_eq_of_lt h2]
  · rw [if_neg h2, show i + 1 = n by omega, Nat.mod_self]
theorem nx_prev {n a : Nat} (h : a < n) : nx n (if a = 0 then n - 1 else a - 1) = a := by
  unfold nx
  by_cases h0 : a = 0
  · rw [if_pos h0, if_neg (by omega)]; omega
  · rw [if_neg h0, if_pos (by omega)]; omega
def rkey (n i j q : Nat) : Int := if j = 0 then (if q = 0 then 1 else 0) else if q = 0 then 9 else if q = 1 then (nx n i : Int) else if q = 2 then 3 else 0
def xkey (c j q : Nat) : Int := if c = 1 then (if q = 0 then 13 else 0) else if j = 2 then (if q = 0 then 3 else if q = 3 then 5 else 0) else (if q = 0 then 12 else 0)
def xct (c : Nat) : Nat := if c = 1 then 1 else if c = 4 then 2 else 0
/-- A ring of n, of which m are there, turned at one place. -/
def RD (c m n at_ : Nat) (pa : Nat → Option Addr) (cp : Nat → Nat) : FD :=
  ⟨m, fun i => i, fun i => if c = 3 ∧ i = at_ then 4 else 3, fun i => !decide (c = 2 ∧ i = at_), pa, fun i => if i = at_ then 2 + xct c else 2, cp, fun i j q => if j < 2 then rkey n i j q else if i = at_ then xkey c j q else 0⟩
def snR (c : Nat) (i j : Nat) : Bool := if j = 0 then true else if j = 1 then false else decide (c = 4)
structure RingOk (D : FD) (n : Nat) (sn : Nat → Nat → Bool) (bad : Bool) : Prop where
  nn : D.n = n
  wf : ∀ i, i < D.n → wfH (D.id i) ∧ wfH (D.ver i) ∧ ∀ j, j < D.ct i → wfH (D.key i j 1) ∧ wfH (D.key i j 2)
  few : D.n ≤ 256
  few2 : ∀ i, D.ct i ≤ 64
  snk : SnOk D sn
  ris : RIs D sn (fun _ => bad)
  cl : ∀ i, i < D.n → decide ((pickTo (fun j => holeB D (fun _ => bad) (sn i j) (D.key i j 0) (D.key i j 1) (D.key i j 2)) (D.ct i)).length = 0) = !bad
theorem sens1 : Sens 1 0 0 0 0 true := fun W => sensory_yes 1 0 0 0 0 (Lib.hid (.inr (.inl ⟨by decide, rfl⟩))) W
theorem sens12 : Sens 12 0 0 0 0 true := fun W => sensory_yes 12 0 0 0 0 (Lib.hid (.inr (.inl ⟨by decide, rfl⟩))) W
theorem sens35 : Sens 3 0 0 5 0 true := fun W => sensory_yes 3 0 0 5 0 (Lib.hid (.inl ⟨by decide, by decide⟩)) W
theorem sens9 (a b : Int) : Sens 9 a b 0 0 false := fun W => sensory_no 9 a b 0 0 0 0 0 0 0 (Lib.hid (.inr (.inr ⟨by simp, rfl⟩))) (.inl (by decide)) W
theorem sens13 : Sens 13 0 0 0 0 false := fun W => sensory_no 13 0 0 0 0 0 0 0 0 0 (Lib.hid (.inr (.inr ⟨by decide, rfl⟩))) (.inl (by decide)) W
section
variable {c n at_ : Nat} {pa : Nat → Option Addr} {cp : Nat → Nat}
theorem RD.sens (hc : c < 5) : SnOk (RD c n n at_ pa cp) (snR c) := by
  intro i j hi hj
  have hj' : j < (if i = at_ then 2 + xct c else 2) := hj
  by_cases h0 : j = 0
  · subst h0
    simpa [RD, rkey, snR] using sens1
  · by_cases h1 : j = 1
    · subst h1
      simpa [RD, rkey, snR] using sens9 (nx n i) 3
    · have h2 : ¬ j < 2 := by omega
      have hx : xct c ≠ 0 := by
        intro e
        rw [e] at hj'
        split at hj' <;> omega
      have hia : i = at_ := by
        apply Classical.byContradiction
        intro e
        rw [if_neg e] at hj'
        omega
      have hcc : c = 1 ∨ c = 4 := by
        unfold xct at hx
        by_cases e1 : c = 1
        · exact .inl e1
        · by_cases e4 : c = 4
          · exact .inr e4
          · rw [if_neg e1, if_neg e4] at hx; exact absurd rfl hx
      rcases hcc with rfl | rfl
      · simpa [RD, xkey, snR, h0, h1, h2, hia] using sens13
      · by_cases e : j = 2
        · subst e
          simpa [RD, xkey, snR, hia] using sens35
        · simpa [RD, xkey, snR, h0, h1, h2, e, hia] using sens12
theorem RD.tg1 (i : Nat) (hi : i < n) : (RD c n n at_ pa cp).tgt ((RD c n n at_ pa cp).key i 1 0) ((RD c n n at_ pa cp).key i 1 1) ((RD c n n at_ pa cp).key i 1 2) = if c = 3 ∧ nx n i = at_ then none else some (nx n i) := by
  have e0 : (RD c n n at_ pa cp).key i 1 0 = 9 := by simp [RD, rkey]
  have e1 : (RD c n n at_ pa cp).key i 1 1 = (nx n i : Int) := by simp [RD, rkey]
  have e2 : (RD c n n at_ pa cp).key i 1 2 = 3 := by simp [RD, rkey]
  rw [e0, e1, e2]
  unfold FD.tgt
  rw [if_pos rfl]
  show (RD c n n at_ pa cp).fidx (nx n i : Int) 3 n = _
  rw [fidx_id _ (fun i => rfl)]
  have hv : (RD c n n at_ pa cp).ver (nx n i) = if c = 3 ∧ nx n i = at_ then 4 else 3 := rfl
  rw [hv]
  by_cases h : c = 3 ∧ nx n i = at_
  · rw [if_pos h, if_pos h, if_neg (by intro h2; omega)]
  · rw [if_neg h, if_neg h, if_pos ⟨nx_lt hi, rfl⟩]
theorem RD.tgn (i j : Nat) (hj : j ≠ 1) : (RD c n n at_ pa cp).tgt ((RD c n n at_ pa cp).key i j 0) ((RD c n n at_ pa cp).key i j 1) ((RD c n n at_ pa cp).key i j 2) = none := by
  have e0 : (RD c n n at_ pa cp).key i j 0 ≠ 9 := by
    by_cases h0 : j = 0
    · subst h0; simp [RD, rkey]
    · have h2 : ¬ j < 2 := by omega
      simp only [RD, if_neg h2]
      unfold xkey
      repeat' split
      all_goals simp
  unfold FD.tgt
  rw [if_neg e0]
theorem RD.wf (hn : n ≤ 12) (i : Nat) (hi : i < n) : wfH ((RD c n n at_ pa cp).id i) ∧ wfH ((RD c n n at_ pa cp).ver i) ∧ ∀ j, j < (RD c n n at_ pa cp).ct i → wfH ((RD c n n at_ pa cp).key i j 1) ∧ wfH ((RD c n n at_ pa cp).key i j 2) := by
  have hx := nx_lt hi
  have hk : ∀ j q, 0 ≤ (RD c n n at_ pa cp).key i j q ∧ (RD c n n at_ pa cp).key i j q ≤ 100 := by
    intro j q
    show 0 ≤ (if j < 2 then rkey n i j q else if i = at_ then xkey c j q else 0) ∧ (if j < 2 then rkey n i j q else if i = at_ then xkey c j q else 0) ≤ 100
    unfold rkey xkey
    repeat' split
    all_goals omega
  refine ⟨wfH.mk (a := (i : Int)) (by omega) (by omega), ?_, fun j hj => ⟨wfH.mk (by have := hk j 1; omega) (by have := hk j 1; omega), wfH.mk (by have := hk j 2; omega) (by have := hk j 2; omega)⟩⟩
  show wfH (if c = 3 ∧ i = at_ then 4 else 3)
  split
  · exact wfH.mk (by omega) (by omega)
  · exact wfH.mk (by omega) (by omega)
/-- All reach what reaches out by itself. -/
theorem ring_reach (F : Fac) (n t : Nat) (hF : F.n = n) (ht : t < n) (hb : F.base t = true) (hs : ∀ i, i < n → i ≠ t → ∃ j, j < F.ct i ∧ F.tg i j = some (nx n i)) : ∀ i, i < n → F.Reach i := by
  have up : ∀ d i, i < n → i + d = t ∨ i + d = t + n → F.Reach i := by
    intro d
    induction d with
    | zero => intro i hi h; have e : i = t := by omega
              subst e; exact .self i (by omega) hb
    | succ d ih =>
      intro i hi h
      by_cases e : i = t
      · subst e; exact .self i (by omega) hb
      · obtain ⟨j, hj, htg⟩ := hs i hi e
        refine .part i j (nx n i) (by omega) hj htg (ih _ (nx_lt hi) ?_)
        unfold nx
        split <;> omega
  intro i hi
  by_cases e : i ≤ t
  · exact up (t - i) i hi (.inl (by omega))
  · exact up (t + n - i) i hi (.inr (by omega))
theorem RD.bad (hc : c = 1 ∨ c = 2 ∨ c = 3) (hn0 : 0 < n) (hn : n ≤ 12) (hat : at_ < n) : RingOk (RD c n n at_ pa cp) n (snR c) true := by
  have hr : ∀ i, i < n → ((RD c n n at_ pa cp).fac (snR c)).Reach i := by
    obtain ⟨t, ht, hb, hs⟩ : ∃ t, t < n ∧ ((RD c n n at_ pa cp).fac (snR c)).base t = true ∧ ∀ i, i < n → i ≠ t → ¬ (c = 3 ∧ nx n i = at_) := by
      rcases hc with rfl | rfl | rfl
      · refine ⟨at_, hat, ?_, fun i hi he h => by omega⟩
        unfold Fac.base Fac.baseTo
        rw [Bool.or_eq_true, anyTo_iff]
        refine .inr ⟨2, ?_, ?_⟩
        · show 2 < (if at_ = at_ then 2 + xct 1 else 2)
          rw [if_pos rfl]; decide
        · unfold Fac.own
          have e := RD.tgn (c := 1) (n := n) (at_ := at_) (pa := pa) (cp := cp) at_ 2 (by decide)
          rw [show ((RD 1 n n at_ pa cp).fac (snR 1)).tg at_ 2 = none from e]; rfl
      · refine ⟨at_, hat, ?_, fun i hi he h => by omega⟩
        unfold Fac.base Fac.baseTo
        rw [Bool.or_eq_true]
        refine .inl ?_
        show (!(!decide (2 = 2 ∧ at_ = at_))) = true
        simp
      · refine ⟨if at_ = 0 then n - 1 else at_ - 1, by split <;> omega, ?_, fun i hi he h => he ?_⟩
        · unfold Fac.base Fac.baseTo
          rw [Bool.or_eq_true, anyTo_iff]
          refine .inr ⟨1, ?_, ?_⟩
          · show 1 < (if (if at_ = 0 then n - 1 else at_ - 1) = at_ then 2 + xct 3 else 2)
            repeat' split
            all_goals omega
          · unfold Fac.own
            have e := RD.tg1 (c := 3) (n := n) (at_ := at_) (pa := pa) (cp := cp) (if at_ = 0 then n - 1 else at_ - 1) (by split <;> omega)
            rw [show ((RD 3 n n at_ pa cp).fac (snR 3)).tg (if at_ = 0 then n - 1 else at_ - 1) 1 = none from e.trans (if_pos ⟨rfl, nx_prev hat⟩)]; rfl
        · have h2 := h.2
          unfold nx at h2
          repeat' split at h2
          all_goals (split <;> omega)
    refine ring_reach _ n t rfl ht hb fun i hi he => ⟨1, ?_, ?_⟩
    · show 1 < (if i = at_ then 2 + xct c else 2)
      split <;> omega
    · have e := RD.tg1 (c := c) (n := n) (at_ := at_) (pa := pa) (cp := cp) i hi
      rw [if_neg (hs i hi he)] at e
      exact e
  refine ⟨rfl, RD.wf hn, by show n ≤ 256; omega, fun i => ?_, RD.sens (by omega), fun x hx => ⟨fun _ => hr x hx, fun _ => rfl⟩, fun i hi => ?_⟩
  · show (if i = at_ then 2 + xct c else 2) ≤ 64
    unfold xct
    repeat' split
    all_goals omega
  · have hi : i < n := hi
    have hp : holeB (RD c n n at_ pa cp) (fun _ => true) (snR c i 1) ((RD c n n at_ pa cp).key i 1 0) ((RD c n n at_ pa cp).key i 1 1) ((RD c n n at_ pa cp).key i 1 2) = true := by
      unfold holeB
      rw [RD.tg1 i hi]
      split
      · rfl
      · rename_i h; split at h <;> rfl
    have h1 : 1 < (RD c n n at_ pa cp).ct i := by
      show 1 < (if i = at_ then 2 + xct c else 2)
      split <;> omega
    have := pickTo_pos (p := fun j => holeB (RD c n n at_ pa cp) (fun _ => true) (snR c i j) ((RD c n n at_ pa cp).key i j 0) ((RD c n n at_ pa cp).key i j 1) ((RD c n n at_ pa cp).key i j 2)) h1 hp
    simpa using this
theorem RD.good (hc : c = 0 ∨ c = 4) (hn0 : 0 < n) (hn : n ≤ 12) (hat : at_ < n) : RingOk (RD c n n at_ pa cp) n (snR c) false := by
  have hs1 : ∀ i j, i < n → j < (RD c n n at_ pa cp).ct i → j ≠ 1 → snR c i j = true := by
    intro i j hi hj h1
    have hj' : j < (if i = at_ then 2 + xct c else 2) := hj
    unfold snR
    by_cases h0 : j = 0
    · rw [if_pos h0]
    · rw [if_neg h0, if_neg h1]
      rcases hc with rfl | rfl
      · have : xct 0 = 0 := by decide
        rw [this] at hj'
        split at hj' <;> omega
      · rfl
  have ho : ∀ i j, i < n → j < (RD c n n at_ pa cp).ct i → ((RD c n n at_ pa cp).fac (snR c)).own i j = false := by
    intro i j hi hj
    unfold Fac.own
    by_cases h1 : j = 1
    · subst h1
      have e := RD.tg1 (c := c) (n := n) (at_ := at_) (pa := pa) (cp := cp) i hi
      rw [if_neg (by intro h; omega)] at e
      rw [show ((RD c n n at_ pa cp).fac (snR c)).tg i 1 = some (nx n i) from e]; rfl
    · rw [show ((RD c n n at_ pa cp).fac (snR c)).sn i j = true from hs1 i j hi hj h1]; simp
  have hb : ∀ i, i < n → ((RD c n n at_ pa cp).fac (snR c)).base i = false := by
    intro i hi
    cases h : ((RD c n n at_ pa cp).fac (snR c)).base i with
    | false => rfl
    | true =>
      unfold Fac.base Fac.baseTo at h
      rw [Bool.or_eq_true, anyTo_iff] at h
      rcases h with h | ⟨j, hj, h⟩
      · have : ((RD c n n at_ pa cp).fac (snR c)).sl i = !decide (c = 2 ∧ i = at_) := rfl
        rw [this] at h
        have hne : ¬ (c = 2 ∧ i = at_) := by omega
        simp [hne] at h
      · rw [ho i j hi hj] at h; cases h
  have hr : ∀ i, ((RD c n n at_ pa cp).fac (snR c)).Reach i → False := by
    intro i h
    induction h with
    | self i hi h => rw [hb i hi] at h; cases h
    | part i j a hi hj htg _ ih => exact ih
  refine ⟨rfl, RD.wf hn, by show n ≤ 256; omega, fun i => ?_, RD.sens (by omega), fun x hx => ⟨(fun h => by cases h), fun h => (hr x h).elim⟩, fun i hi => ?_⟩
  · show (if i = at_ then 2 + xct c else 2) ≤ 64
    unfold xct
    repeat' split
    all_goals omega
  · have hi : i < n := hi
    have hp : ∀ j, j < (RD c n n at_ pa cp).ct i → holeB (RD c n n at_ pa cp) (fun _ => false) (snR c i j) ((RD c n n at_ pa cp).key i j 0) ((RD c n n at_ pa cp).key i j 1) ((RD c n n at_ pa cp).key i j 2) = false := by
      intro j hj
      unfold holeB
      by_cases h1 : j = 1
      · subst h1
        rw [RD.tg1 i hi, if_neg (by intro h; omega)]
      · rw [RD.tgn i j h1, hs1 i j hi hj h1]
        rfl
    rw [pickTo_nil hp]
    rfl
end
end Go.Proofs.Ytahhnfhnlffmpaa
