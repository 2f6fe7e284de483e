/-
  ArenaLeast: the walk.
-/
import Derived.Test.YtncopdhhchmpeaaGreatDoorArL
import Derived.Deep.DeepCutAuto
import Derived.Deep.Cut
namespace Go.Proofs.YtncopdhhchmpeaaGreatDoor
open Go.ChangeShapes Go.WideShapes Go.ChangeAt Go.RowKit
set_option linter.unusedVariables false
/-- What the law is given: numbers in a row. -/
def Nums (w : World) (a : Option Addr) (len : Nat) (zs : List Int) : Prop := ∀ ad, a = some ad → 0 < len → ad.block < w.heap.size ∧ ∀ i, i < len → w.cell? (ad.add i) = some (.int .i64 (zs.getD i 0)) ∧ -9223372036854775808 ≤ zs.getD i 0 ∧ zs.getD i 0 ≤ 9223372036854775807
theorem add_block' (ad : Addr) (n : Nat) : (ad.add n).block = ad.block := by unfold Addr.add; split <;> rfl
theorem lgive_no {W w : World} {base p B n c F : Nat} {fr th : Nat → Bool} {vr : Nat → Int} (h : LS W w base p B n c F fr th vr) (k : Nat) (v : Value) (hE : Hid (W.cell? ⟨0, 0, none⟩ = some v)) (hEl : 0 < W.heap.size) (ht : Hid (thereB n th (k : Int) = false)) :
    Calls Tryz.prog 72 #[.pointer (some ⟨p, 0, none⟩), .int .i64 k] w fun e w' => e = .returned v ∧ Below w.heap.size w w' :=
  (agive_no (k : Int) w h.vv.ar ht v ((h.vv.bel.cell (p := ⟨0, 0, none⟩) hEl).trans hE.out)).mono fun e w' ⟨he, hw⟩ => ⟨he, by subst hw; exact Below.refl _ _⟩
theorem lkeep {W w w' : World} {base p B n c F k : Nat} {x : Value} {fr th : Nat → Bool} {vr : Nat → Int} (h : LS W w base p B n c F fr th vr ∧ w.cell? ⟨F, k, none⟩ = some x) (hb : Below w.heap.size w w') : LS W w' base p B n c F fr th vr ∧ w'.cell? ⟨F, k, none⟩ = some x := ⟨h.1.step hb, (hb.cell (p := ⟨F, k, none⟩) h.1.fr.lt.2).trans h.2⟩
theorem lgive_ok {W w : World} {base p B n c F : Nat} {fr : Nat → Bool} (h : LS W w base p B n c F fr (thF fr (-1)) (vrF fr)) (k : Nat) (hk : k < n) (hf : fr k = false) :
    Calls Tryz.prog 72 #[.pointer (some ⟨p, 0, none⟩), .int .i64 k] w fun e w' => e = .returned .nilIface ∧ LS W w' base p B n c F fr (upd (thF fr (-1)) k false) (upd (vrF fr) k 1) ∧ w'.cell? ⟨F, k, none⟩ = some (.bool false) := by
  refine (agive_at (k : Int) w h.vv.ar k (Lib.hid rfl) hk (Lib.hid (by simp [thF, hf])) 0 1 (Lib.hid (by simp [vrF, hf])) (by omega) (by omega) (Lib.hid (by decide))).mono fun e w' ⟨he, hA, hg⟩ => ⟨he, h.turn hA hg, ?_⟩
  rw [(h.turn hA hg).fr.at k hk, hf]
theorem th_put (fr : Nat → Bool) (k : Nat) : upd (thF fr (-1)) k false = thF (upd fr k true) (-1) := by
  funext i
  unfold upd thF
  by_cases e : i = k
  · subst e
    simp
    omega
  · simp [e]
theorem vr_put (fr : Nat → Bool) (k : Nat) : upd (vrF fr) k 1 = vrF (upd fr k true) := by
  funext i
  unfold upd vrF
  by_cases e : i = k <;> simp [e]
theorem fr_same (fr : Nat → Bool) (k : Nat) (h : fr k = true) : upd fr k true = fr := by
  funext i
  unfold upd
  by_cases e : i = k
  · subst e
    simp [h]
  · simp [e]
theorem free_last (fr : Nat → Bool) (l : Int) (i : Nat) : freeB (thF fr l) (vrF fr) i = (fr i && decide (l < (i : Int))) := by
  unfold freeB thF vrF
  cases h : fr i
  · simp
  · by_cases e : l < (i : Int)
    · have : ¬ (i : Int) ≤ l := by omega
      simp [e, this]
    · have : (i : Int) ≤ l := by omega
      simp [e, this]
theorem th_last (fr : Nat → Bool) (l : Int) (j : Nat) (hj : freeB (thF fr l) (vrF fr) j = true) (hno : ∀ i, i < j → freeB (thF fr l) (vrF fr) i = false) (i : Nat) : upd (thF fr l) j true i = thF fr (j : Int) i := by
  rw [free_last] at hj
  simp only [Bool.and_eq_true, decide_eq_true_eq] at hj
  unfold upd thF
  by_cases e : i = j
  · subst e
    simp
  · rw [if_neg e]
    by_cases hi : i < j
    · have h := hno i hi
      rw [free_last] at h
      have h2 : (i : Int) ≤ (j : Int) := by omega
      cases hf : fr i
      · simp
      · rw [hf] at h
        simp only [Bool.true_and, decide_eq_false_iff_not] at h
        have : (i : Int) ≤ l := by omega
        simp [this, h2]
    · have h1 : ¬ (i : Int) ≤ l := by omega
      have h2 : ¬ (i : Int) ≤ (j : Int) := by omega
      simp [h1, h2]
      try omega
theorem cnt_pos (P : Nat → Bool) (n j : Nat) (hj : j < n) (h : P j = true) : 0 < cntB P n := by
  induction n with
  | zero => omega
  | succ n ih =>
    unfold cntB
    by_cases e : j = n
    · subst e
      rw [if_pos h]
      omega
    · have := ih (by omega)
      omega
end Go.Proofs.YtncopdhhchmpeaaGreatDoor
