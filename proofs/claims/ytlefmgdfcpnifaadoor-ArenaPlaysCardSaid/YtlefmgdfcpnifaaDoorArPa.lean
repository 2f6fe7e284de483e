/-
  ArenaPlays: what the walk of the loop stands on.
-/
import Derived.Test.YtlefmgdfcpnifaaDoorArPv
namespace Go.Proofs.YtlefmgdfcpnifaaDoor
open Go.ChangeShapes Go.WideShapes Go.ChangeAt Go.RowKit
set_option linter.unusedVariables false
set_option linter.unusedSimpArgs false
/-- The search for the least free place. -/
def WantR (j : Nat) (wv kv : Value) : Prop := (∃ k : Nat, k ≤ j ∧ kv = .int .i64 k ∧ wv = .int .i64 (-1)) ∨ (kv = .int .i64 ((j : Int) + 1) ∧ wv = .int .i64 j)
/-- The round's state. -/
structure RR (W w : World) (base p B n L V m x : Nat) (th : Nat → Bool) (vr : Nat → Int) : Prop where
  ps : PS W w base p B n n L V th th vr vr
  vb : Vb vr n m
  cnt : cntB th n = x
  le : x ≤ n
/-- Behind the round's act. -/
structure RC (W w : World) (base p B n L V m x : Nat) (th : Nat → Bool) (vr : Nat → Int) (b2 p2 B2 c2 : Nat) (th0 : Nat → Bool) (vr0 : Nat → Int) : Prop where
  cp : CP W w base p B n n L V th th vr vr b2 p2 B2 c2 th0 vr0
  vb : Vb vr n m
  cnt : cntB th n = x
  le : x ≤ n
theorem cnt_up (th : Nat → Bool) (n j : Nat) (hj : j < n) (h : th j = false) : cntB (upd th j true) n = cntB th n + 1 := by
  have := cntB_upd th n j hj true
  simp [h] at this
  omega
theorem cnt_down (th : Nat → Bool) (n j : Nat) (hj : j < n) (h : th j = true) : cntB (upd th j false) n + 1 = cntB th n := by
  have := cntB_upd th n j hj false
  simp [h] at this
  omega
section
variable {W w w' : World} {base p B n c L V b2 p2 B2 c2 : Nat} {th2 th : Nat → Bool} {vr2 vr : Nat → Int}
theorem o_used (h : CP W w base p B n n L V th2 th2 vr2 vr2 b2 p2 B2 c2 th vr) (x : Nat) (hx : Hid (cntB th2 n = x)) : Calls Tryd.prog 18 #[.pointer (some ⟨p, 0, none⟩)] w fun e w' => e = .returned (.int .i64 x) ∧ Below w.heap.size w w' := aused_at (x : Int) w h.ar (Lib.hid (by rw [hx.out]))
theorem o_left (h : CP W w base p B n n L V th2 th2 vr2 vr2 b2 p2 B2 c2 th vr) (x : Int) (hx : Hid (((cntB (freeB th2 vr2) n : Nat) : Int) = x)) : Calls Tryd.prog 21 #[.pointer (some ⟨p, 0, none⟩)] w fun e w' => e = .returned (.int .i64 x) ∧ Below w.heap.size w w' := aleft_at x w h.ar hx
theorem o_cap (h : CP W w base p B n n L V th2 th2 vr2 vr2 b2 p2 B2 c2 th vr) : Calls Tryd.prog 22 #[.pointer (some ⟨p, 0, none⟩)] w fun e w' => e = .returned (.int .i64 n) ∧ Below w.heap.size w w' := (acap_is w h.ar).mono fun e w' ⟨he, hw⟩ => ⟨he, by subst hw; exact Below.refl _ _⟩
theorem o_there (h : CP W w base p B n n L V th2 th2 vr2 vr2 b2 p2 B2 c2 th vr) (id : Int) (t : Bool) (ht : Hid (thereB n th2 id = t)) : Calls Tryd.prog 23 #[.pointer (some ⟨p, 0, none⟩), .int .i64 id] w fun e w' => e = .returned (.bool t) ∧ Below w.heap.size w w' := (athere_is id t ht w h.ar).mono fun e w' ⟨he, hw⟩ => ⟨he, by subst hw; exact Below.refl _ _⟩
theorem o_ver (h : CP W w base p B n n L V th2 th2 vr2 vr2 b2 p2 B2 c2 th vr) (q : Nat) (hq : q < n) (v : Int) (hv : Hid (vr2 q = v)) : Calls Tryd.prog 24 #[.pointer (some ⟨p, 0, none⟩), .int .i64 q] w fun e w' => e = .returned (.int .i64 v) ∧ Below w.heap.size w w' := (aver_in q hq v hv w h.ar).mono fun e w' ⟨he, hw⟩ => ⟨he, by subst hw; exact Below.refl _ _⟩
theorem o_live (h : CP W w base p B n n L V th2 th2 vr2 vr2 b2 p2 B2 c2 th vr) (id v : Int) (t : Bool) (ht : Hid ((thereB n th2 id && (vr2 id.toNat == v)) = t)) : Calls Tryd.prog 25 #[.pointer (some ⟨p, 0, none⟩), .int .i64 id, .int .i64 v] w fun e w' => e = .returned (.bool t) ∧ Below w.heap.size w w' := (alive_is id v t ht w h.ar).mono fun e w' ⟨he, hw⟩ => ⟨he, by subst hw; exact Below.refl _ _⟩
theorem o_was (h : CP W w base p B n n L V th2 th2 vr2 vr2 b2 p2 B2 c2 th vr) (x : Nat) (hx : Hid (cntB th n = x)) : Calls Tryd.prog 18 #[.pointer (some ⟨p2, 0, none⟩)] w fun e w' => e = .returned (.int .i64 x) ∧ Below w.heap.size w w' := aused_at (x : Int) w h.cp (Lib.hid (by rw [hx.out]))
theorem qkeep {q : Nat} {x y : Value} (h : CP W w base p B n n L V th2 th2 vr2 vr2 b2 p2 B2 c2 th vr ∧ w.cell? ⟨L, q, none⟩ = some x ∧ w.cell? ⟨V, q, none⟩ = some y) (hb : Below w.heap.size w w') : CP W w' base p B n n L V th2 th2 vr2 vr2 b2 p2 B2 c2 th vr ∧ w'.cell? ⟨L, q, none⟩ = some x ∧ w'.cell? ⟨V, q, none⟩ = some y := ⟨h.1.step hb, (hb.cell (p := ⟨L, q, none⟩) h.1.ps.lv.lt.2).trans h.2.1, (hb.cell (p := ⟨V, q, none⟩) h.1.ps.vr.lt.2).trans h.2.2⟩
end
end Go.Proofs.YtlefmgdfcpnifaaDoor
