/-
  turnkeysee: errors as plain data: contracts of Alike, sentinels, sentinel, Fault, Same, Is.
-/
import Derived.Test.YtncopdhhchmpeaaDoorErrs
import Derived.Outline
import Derived.Deep.RegionHeld3
import Derived.Deep.RegionWith
import Derived.Deep.DrawnRows
import Derived.WalkLawsBesides
import Derived.WalkSpells
namespace Go.Proofs.YtncopdhhchmpeaaDoor
open Go.ChangeShapes Go.WideShapes Go.ChangeAt Go.RowKit
set_option linter.unusedVariables false
theorem bcell2 {W w1 : World} (hb : Below W.heap.size W w1) : (∀ b o, b < W.heap.size → w1.cell? ⟨b, o, none⟩ = W.cell? ⟨b, o, none⟩) ∧ (∀ b o, b < W.heap.size → w1.frozen? ⟨b, o, none⟩ = W.frozen? ⟨b, o, none⟩) :=
  ⟨fun b o h => hb.cell (p := ⟨b, o, none⟩) h, fun b o h => hb.frozen (p := ⟨b, o, none⟩) h⟩
abbrev eV (a : Addr) : Value := .iface 202 (.pointer (some a))
/-- The sentinels' variables, in the order in which turnkeysee numbers them. -/
def G12 : List Nat := [7, 6, 2, 3, 0, 5, 4, 1, 8, 9, 10, 11]
def Sen (A : Nat → Addr) (w : World) : Prop := Errs 202 G12 A w
theorem Sen.below {A : Nat → Addr} {w w' : World} (h : Sen A w) (hb : Below w.heap.size w w') : Sen A w' := Errs.below h hb
def sA (A : Nat → Addr) (j : Nat) : Addr := A (G12.getD j 0)
theorem g12_mem : ∀ j : Fin 12, G12.getD j.val 0 ∈ G12 := by decide
theorem Sen.cell {A : Nat → Addr} {w : World} (h : Sen A w) (j : Nat) (hj : j < 12) : w.cell? ⟨G12.getD j 0, 0, none⟩ = some (eV (sA A j)) ∧ ∃ c t, w.heap[(sA A j).block]? = some (.cells c t (0, 0)) := by
  have hm : G12.getD j 0 ∈ G12 := g12_mem ⟨j, hj⟩
  exact ⟨(h.1 _ hm).1, (h.1 _ hm).2.2⟩
theorem g12_nodup : ∀ i j : Fin 12, i ≠ j → G12.getD i.val 0 ≠ G12.getD j.val 0 := by decide
theorem Sen.other {A : Nat → Addr} {w : World} (h : Sen A w) (i j : Nat) (hi : i < 12) (hj : j < 12) (hne : i ≠ j) : sA A i ≠ sA A j := by
  exact h.2 _ (g12_mem ⟨i, hi⟩) _ (g12_mem ⟨j, hj⟩) (g12_nodup ⟨i, hi⟩ ⟨j, hj⟩ (by simpa using hne))
theorem infoErrPtr : ((Tryd.prog.info? 202).map (·.comparable)) = some true := by kernel_rfl
theorem infoErr : ((Tryd.prog.info? 236).map (·.size)) = some 1 := by kernel_rfl
theorem alike_same (a : Addr) (w : World) : Calls Tryd.prog 88 #[eV a, eV a] w fun e w' => e = .returned (.bool true) ∧ w = w' := by
  obtain ⟨i, hi, hc⟩ := Option.map_eq_some_iff.1 infoErrPtr
  obtain ⟨j, hj, hs⟩ := Option.map_eq_some_iff.1 infoErr
  have hq := run_eql_iface_ptr_same w a Tryd.underlying26 Tryd.underlying202 hi hc hj
  clear hi hc hj hs
  go_enter Tryd.func88, Tryd.ntmps88
  go_wp2
  go_ret
  exact ⟨rfl, rfl⟩
theorem alike_other (a b : Addr) (w : World) (hne : a ≠ b) (ha : ∃ c t, w.heap[a.block]? = some (.cells c t (0, 0))) (hb : ∃ c t, w.heap[b.block]? = some (.cells c t (0, 0))) :
    Calls Tryd.prog 88 #[eV a, eV b] w fun e w' => e = .returned (.bool false) ∧ w = w' := by
  obtain ⟨i, hi, hc⟩ := Option.map_eq_some_iff.1 infoErrPtr
  obtain ⟨j, hj, hs⟩ := Option.map_eq_some_iff.1 infoErr
  obtain ⟨c1, t1, ha⟩ := ha
  obtain ⟨c2, t2, hb⟩ := hb
  have hq := run_eql_iface_ptr_other w Tryd.underlying26 Tryd.underlying202 hi hc hj (by rw [hs]; decide) hne ha hb
  clear hi hc hj hs ha hb hne
  go_enter Tryd.func88, Tryd.ntmps88
  go_wp2
  go_ret
  exact ⟨rfl, rfl⟩
def SenRow (A : Nat → Addr) (w w' : World) : Prop := (∀ k, k < 12 → w'.cell? ⟨w.heap.size, k, none⟩ = some (eV (sA A k))) ∧ Below w.heap.size w w'
set_option maxRecDepth 100000 in
theorem sentinels_any (A : Nat → Addr) (w : World) (h : Sen A w) : Calls Tryd.prog 87 #[] w fun e w' => e = .returned (.slice (some ⟨w.heap.size, 0, none⟩) 12 12) ∧ SenRow A w w' := by
  have c0 : w.cell? ⟨7, 0, none⟩ = some (eV (sA A 0)) := (h.cell 0 (by decide)).1
  have c1 : w.cell? ⟨6, 0, none⟩ = some (eV (sA A 1)) := (h.cell 1 (by decide)).1
  have c2 : w.cell? ⟨2, 0, none⟩ = some (eV (sA A 2)) := (h.cell 2 (by decide)).1
  have c3 : w.cell? ⟨3, 0, none⟩ = some (eV (sA A 3)) := (h.cell 3 (by decide)).1
  have c4 : w.cell? ⟨0, 0, none⟩ = some (eV (sA A 4)) := (h.cell 4 (by decide)).1
  have c5 : w.cell? ⟨5, 0, none⟩ = some (eV (sA A 5)) := (h.cell 5 (by decide)).1
  have c6 : w.cell? ⟨4, 0, none⟩ = some (eV (sA A 6)) := (h.cell 6 (by decide)).1
  have c7 : w.cell? ⟨1, 0, none⟩ = some (eV (sA A 7)) := (h.cell 7 (by decide)).1
  have c8 : w.cell? ⟨8, 0, none⟩ = some (eV (sA A 8)) := (h.cell 8 (by decide)).1
  have c9 : w.cell? ⟨9, 0, none⟩ = some (eV (sA A 9)) := (h.cell 9 (by decide)).1
  have c10 : w.cell? ⟨10, 0, none⟩ = some (eV (sA A 10)) := (h.cell 10 (by decide)).1
  have c11 : w.cell? ⟨11, 0, none⟩ = some (eV (sA A 11)) := (h.cell 11 (by decide)).1
  clear h
  go_enter Tryd.func87, Tryd.ntmps87
  go_wp2
  go_ret
  refine ⟨rfl, fun k hk => ?_, (Below.refl _ _).alloc (Nat.le_refl _) _⟩
  clear c0 c1 c2 c3 c4 c5 c6 c7 c8 c9 c10 c11
  match k, hk with
  | 0, _ | 1, _ | 2, _ | 3, _ | 4, _ | 5, _ | 6, _ | 7, _ | 8, _ | 9, _ | 10, _ | 11, _ => simp
set_option maxRecDepth 100000 in
theorem sentinel_is (A : Nat → Addr) (j : Nat) (hj : j < 12) (w : World) (h : Sen A w) : Calls Tryd.prog 73 #[eV (sA A j)] w fun e w' => e = .returned (.int .i64 (101 + (j : Int))) ∧ Below w.heap.size w w' := by
  go_enter Tryd.func73, Tryd.ntmps73
  go_wp2_with (first | (go_at_call 87; refine (sentinels_any A _ h).mono ?_; rintro e w1 ⟨rfl, hR⟩))
  have HS : Sen A w1 := h.below hR.2
  go_loop [4] (fun i => ∃ k : Nat, k ≤ j ∧ i = .int .i64 k) (fun i => j - (intOf i).toNat)
  case atStart => exact ⟨0, Nat.zero_le _, rfl⟩
  case round =>
    obtain ⟨k, hk, rfl⟩ := hrel
    have hc := hR.1 k (by omega)
    have hz := hR.2.size
    by_cases hkj : k = j
    · subst hkj
      go_wp2_with (first | (go_at_call 88; (with_reducible refine (alike_same _ _).mono ?_); rintro e w2 ⟨rfl, rfl⟩))
      go_ret
      exact ⟨rfl, hR.2⟩
    · go_wp2_with (first | (go_at_call 88; (with_reducible refine (alike_other _ _ _ (HS.other j k hj (by omega) (Ne.symm hkj)) (HS.cell j hj).2 (HS.cell k (by omega)).2).mono ?_); rintro e w2 ⟨rfl, rfl⟩))
      go_round
      case rel => exact ⟨k + 1, by omega, by go_num⟩
      case measure => simp [intOf]; omega
theorem none_is (w : World) : Calls Tryd.prog 72 #[] w fun e w' => e = .returned (Value.agg #[.int .i64 0, .bool false, .int .i64 0]) ∧ Below w.heap.size w w' := by
  go_enter Tryd.func72, Tryd.ntmps72
  go_wp2
  refine bodyPost_ret (v := Value.agg #[.int .i64 0, .bool false, .int .i64 0]) (by simp [results, Tryd.results72, go_sem]) rfl ⟨rfl, ?_⟩
  exact (Below.refl _ _).alloc (Nat.le_refl _) _
theorem bare_is (c : Int) (w : World) : Calls Tryd.prog 27 #[.int .i64 c] w fun e w' => e = .returned (Value.agg #[.int .i64 c, .bool false, .int .i64 0]) ∧ Below w.heap.size w w' := by
  go_enter Tryd.func27, Tryd.ntmps27
  go_wp2
  refine bodyPost_ret (v := Value.agg #[.int .i64 c, .bool false, .int .i64 0]) (by simp [results, Tryd.results27, go_sem]) rfl ⟨rfl, ?_⟩
  exact (Below.refl _ _).alloc (Nat.le_refl _) _
theorem placed_is (c n : Int) (hc : (c == 0) = false) (w : World) : Calls Tryd.prog 74 #[.int .i64 c, .int .i64 n] w fun e w' => e = .returned (Value.agg #[.int .i64 c, .bool true, .int .i64 n]) ∧ Below w.heap.size w w' := by
  go_enter Tryd.func74, Tryd.ntmps74
  go_wp2
  refine bodyPost_ret (v := Value.agg #[.int .i64 c, .bool true, .int .i64 n]) (by simp [results, Tryd.results74, go_sem]) rfl ⟨rfl, ?_⟩
  exact (Below.refl _ _).alloc (Nat.le_refl _) _
/-- Are two faults the same? -/
def faultB (c n c' n' : Int) (p p' : Bool) : Bool := c == c' && (p == p' && n == n')
theorem samefault_any (c n c' n' : Int) (p p' : Bool) (w : World) : Calls Tryd.prog 54 #[Value.agg #[.int .i64 c, .bool p, .int .i64 n], Value.agg #[.int .i64 c', .bool p', .int .i64 n']] w fun e w' => e = .returned (.bool (faultB c n c' n' p p')) ∧ Below w.heap.size w w' := by
  go_enter Tryd.func54, Tryd.ntmps54
  go_wp2
  all_goals go_ret
  all_goals refine ⟨?_, ((Below.refl _ _).alloc (Nat.le_refl _) _).alloc (by simp) _⟩
  all_goals simp [faultB, *]
theorem set3 {w1 : World} {b : Nat} {u0 u1 u2 : Value} (v0 v1 v2 : Value) (h0 : w1.cell? ⟨b, 0, none⟩ = some u0) (h1 : w1.cell? ⟨b, 1, none⟩ = some u1) (h2 : w1.cell? ⟨b, 2, none⟩ = some u2) :
    (((w1.setCell ⟨b, 0, none⟩ v0).setCell ⟨b, 1, none⟩ v1).setCell ⟨b, 2, none⟩ v2).cell? ⟨b, 0, none⟩ = some v0 ∧ (((w1.setCell ⟨b, 0, none⟩ v0).setCell ⟨b, 1, none⟩ v1).setCell ⟨b, 2, none⟩ v2).cell? ⟨b, 1, none⟩ = some v1 ∧ (((w1.setCell ⟨b, 0, none⟩ v0).setCell ⟨b, 1, none⟩ v1).setCell ⟨b, 2, none⟩ v2).cell? ⟨b, 2, none⟩ = some v2 := by
  have all : ∀ (j : Nat) (hj : j < 3), (w1.setCells b 0 [v0, v1, v2]).cell? ⟨b, 0 + j, none⟩ = some ([v0, v1, v2][j]'hj) := fun j hj => World.cell?_setCells_in b [v0, v1, v2] 0 w1 (by
    intro i hi
    match i, hi with
    | 0, _ => simp [h0]
    | 1, _ => simp [h1]
    | 2, _ => simp [h2]) j (by simpa using hj)
  exact ⟨all 0 (by decide), all 1 (by decide), all 2 (by decide)⟩
theorem sentinel_c (A : Nat → Addr) (j : Nat) (c : Int) (hj : j < 12) (hc : Hid (101 + (j : Int) = c)) (w : World) (h : Sen A w) : Calls Tryd.prog 73 #[eV (sA A j)] w fun e w' => e = .returned (.int .i64 c) ∧ Below w.heap.size w w' := by
  rw [← hc.out]; exact sentinel_is A j hj w h
set_option maxRecDepth 100000 in
theorem fault_nil (w : World) : Calls Tryd.prog 55 #[.nilIface] w fun e w' => e = .returned (Value.agg #[.int .i64 0, .bool false, .int .i64 0]) ∧ Below w.heap.size w w' := by
  go_enter Tryd.func55, Tryd.ntmps55
  go_wp2_with (first | (go_at_call 72; refine (none_is _).mono ?_; rintro e w1 ⟨rfl, hb⟩; obtain ⟨hc, hf⟩ := bcell2 hb; have hz : w.heap.size < w1.heap.size := by { have := hb.size; simp at this; omega }))
  obtain ⟨q0, q1, q2⟩ := set3 (b := w.heap.size) (.int .i64 (0)) (.bool false) (.int .i64 (0)) ((hc w.heap.size 0 (by simp)).trans (by simp; rfl)) ((hc w.heap.size 1 (by simp)).trans (by simp; rfl)) ((hc w.heap.size 2 (by simp)).trans (by simp; rfl))
  refine bodyPost_ret (v := Value.agg #[.int .i64 0, .bool false, .int .i64 0]) (by simp [results, Tryd.results55, go_sem, q0, q1, q2]) rfl ⟨rfl, ?_⟩
  exact (((((Below.refl _ _).alloc (Nat.le_refl _) _).trans (hb.mono (by simp))).setCell (by simp) _).setCell (by simp) _).setCell (by simp) _
theorem assert_err (a : Addr) (w : World) : (Instr.typeAssert (eV a) 26 168 true).run Tryd.prog w = .ok (.tuple #[.pointer none, .bool false]) w := by kernel_rfl
theorem assert_at (a : Addr) (w : World) : (Instr.typeAssert (.iface 168 (.pointer (some a))) 26 168 true).run Tryd.prog w = .ok (.tuple #[.pointer (some a), .bool true]) w := by kernel_rfl
theorem Sen.alloc {A : Nat → Addr} {w : World} (h : Sen A w) (o : Obj) : Sen A (w.alloc o) := h.below ((Below.refl _ _).alloc (Nat.le_refl _) o)
set_option maxRecDepth 100000 in
theorem fault_err (A : Nat → Addr) (j : Nat) (c : Int) (hj : j < 12) (hjc : Hid (101 + (j : Int) = c)) (w : World) (h : Sen A w) : Calls Tryd.prog 55 #[eV (sA A j)] w fun e w' => e = .returned (Value.agg #[.int .i64 c, .bool false, .int .i64 0]) ∧ Below w.heap.size w w' := by
  have hta := assert_err (sA A j)
  go_enter Tryd.func55, Tryd.ntmps55
  go_wp2_with (first | (go_at_call 73; (with_reducible refine (sentinel_c A j c hj hjc _ (h.alloc _)).mono ?_); rintro e w1 ⟨rfl, hb⟩; obtain ⟨hc, hf⟩ := bcell2 hb; have hz : w.heap.size < w1.heap.size := by { have := hb.size; simp at this; omega }) | (go_at_call 27; refine (bare_is _ _).mono ?_; rintro e w2 ⟨rfl, hb2⟩; obtain ⟨hc2, hf2⟩ := bcell2 hb2; have hz2 : w.heap.size < w2.heap.size := by { have := hb2.size; omega }))
  obtain ⟨q0, q1, q2⟩ := set3 (b := w.heap.size) (.int .i64 c) (.bool false) (.int .i64 0) ((hc2 w.heap.size 0 hz).trans ((hc w.heap.size 0 (by simp)).trans (by simp; rfl))) ((hc2 w.heap.size 1 hz).trans ((hc w.heap.size 1 (by simp)).trans (by simp; rfl))) ((hc2 w.heap.size 2 hz).trans ((hc w.heap.size 2 (by simp)).trans (by simp; rfl)))
  refine bodyPost_ret (v := Value.agg #[.int .i64 c, .bool false, .int .i64 0]) (by simp [results, Tryd.results55, go_sem, q0, q1, q2]) rfl ⟨rfl, ?_⟩
  exact ((((((Below.refl _ _).alloc (Nat.le_refl _) _).trans (hb.mono (by simp))).trans (hb2.mono (by omega))).setCell (by simp) _).setCell (by simp) _).setCell (by simp) _
set_option maxRecDepth 100000 in
set_option maxHeartbeats 1000000 in
theorem fault_at (A : Nat → Addr) (j : Nat) (c n : Int) (p : Nat) (hj : j < 12) (hjc : Hid (101 + (j : Int) = c)) (hc0 : (c == 0) = false) (w : World) (h : Sen A w) (hp : p < w.heap.size ∧ w.cell? ⟨p, 0, none⟩ = some (.int .i64 (n)) ∧ w.cell? ⟨p, 1, none⟩ = some (eV (sA A j))) : Calls Tryd.prog 55 #[(Value.iface 168 (.pointer (some ⟨p, 0, none⟩)))] w fun e w' => e = .returned (Value.agg #[.int .i64 c, .bool true, .int .i64 n]) ∧ Below w.heap.size w w' := by
  have hta := assert_at ⟨p, 0, none⟩
  have hsz := hp.1
  have p0 : (w.alloc (.cells #[.int .i64 0, .bool false, .int .i64 0] 110)).cell? ⟨p, 0, none⟩ = some (.int .i64 n) := (World.cell?_alloc_lt w _ ⟨p, 0, none⟩ hsz).trans hp.2.1
  have p1 : (w.alloc (.cells #[.int .i64 0, .bool false, .int .i64 0] 110)).cell? ⟨p, 1, none⟩ = some (eV (sA A j)) := (World.cell?_alloc_lt w _ ⟨p, 1, none⟩ hsz).trans hp.2.2
  clear hp
  have HA := h.alloc (.cells #[.int .i64 0, .bool false, .int .i64 0] 110)
  go_enter Tryd.func55, Tryd.ntmps55
  go_wp2_with fail
  go_region_with (first | (go_at_call 73; refine (sentinel_c A j c hj hjc _ (by exact HA)).mono ?_; rintro e w1 ⟨rfl, hb⟩; obtain ⟨hc, hf⟩ := bcell2 hb; have hz : w.heap.size < w1.heap.size := by { have := hb.size; simp at this; omega }) | (go_at_call 74; refine (placed_is c n hc0 _).mono ?_; rintro e w2 ⟨rfl, hb2⟩; obtain ⟨hc2, hf2⟩ := bcell2 hb2; have hz2 : w.heap.size < w2.heap.size := by { have := hb2.size; omega }))
  all_goals
    go_wp2
    obtain ⟨q0, q1, q2⟩ := set3 (b := w.heap.size) (.int .i64 c) (.bool true) (.int .i64 n) ((hc2 w.heap.size 0 hz).trans ((hc w.heap.size 0 (by simp)).trans (by simp; rfl))) ((hc2 w.heap.size 1 hz).trans ((hc w.heap.size 1 (by simp)).trans (by simp; rfl))) ((hc2 w.heap.size 2 hz).trans ((hc w.heap.size 2 (by simp)).trans (by simp; rfl)))
    refine bodyPost_ret (v := Value.agg #[.int .i64 c, .bool true, .int .i64 n]) (by simp [results, Tryd.results55, go_sem, q0, q1, q2]) rfl ⟨rfl, ?_⟩
    exact (((((((Below.refl _ _).alloc (Nat.le_refl _) _).drew).trans (hb.mono (by simp))).trans (hb2.mono (by omega))).setCell (by simp) _).setCell (by simp) _).setCell (by simp) _
/-- What Fault says of an error, from a world on. -/
def FaultIs (e : Value) (c n : Int) (p : Bool) (w : World) : Prop := ∀ W, Below w.heap.size w W → Calls Tryd.prog 55 #[e] W fun e' w' => e' = .returned (Value.agg #[.int .i64 c, .bool p, .int .i64 n]) ∧ Below W.heap.size W w'
theorem FaultIs.nil (w : World) : FaultIs .nilIface 0 0 false w := fun W _ => fault_nil W
theorem FaultIs.err {A : Nat → Addr} {w : World} (h : Sen A w) (j : Nat) (hj : j < 12) : FaultIs (eV (sA A j)) (101 + (j : Int)) 0 false w := fun W hb => fault_err A j _ hj (Lib.hid rfl) W (h.below hb)
theorem FaultIs.at {A : Nat → Addr} {w : World} (h : Sen A w) (j : Nat) (hj : j < 12) (n : Int) (p : Nat) (hp : p < w.heap.size ∧ w.cell? ⟨p, 0, none⟩ = some (.int .i64 (n)) ∧ w.cell? ⟨p, 1, none⟩ = some (eV (sA A j))) : FaultIs (Value.iface 168 (.pointer (some ⟨p, 0, none⟩))) (101 + (j : Int)) n true w := fun W hb =>
  fault_at A j _ n p hj (Lib.hid rfl) (by simp; omega) W (h.below hb) ⟨Nat.lt_of_lt_of_le hp.1 hb.size, (hb.cell (p := ⟨p, 0, none⟩) hp.1).trans hp.2.1, (hb.cell (p := ⟨p, 1, none⟩) hp.1).trans hp.2.2⟩
theorem FaultIs.later {e : Value} {c n : Int} {p : Bool} {w w' : World} (h : FaultIs e c n p w) (hb : Below w.heap.size w w') : FaultIs e c n p w' := fun W hW => h W (hb.trans (hW.mono hb.size))
set_option maxRecDepth 100000 in
set_option maxHeartbeats 1000000 in
theorem same_any (e : Value) (c n c' n' : Int) (p p' : Bool) (w : World) (hF : FaultIs e c n p w) : Calls Tryd.prog 26 #[e, Value.agg #[.int .i64 c', .bool p', .int .i64 n']] w fun e' w' => e' = .returned (.bool (faultB c n c' n' p p')) ∧ Below w.heap.size w w' := by
  have hF' := hF.later ((((Below.refl _ _).alloc (Nat.le_refl _) (.cells #[.int .i64 c', .bool p', .int .i64 n'] 110)).drew))
  clear hF
  go_enter Tryd.func26, Tryd.ntmps26
  go_wp2_with fail
  go_region_with (first | (go_at_call 55; refine (hF' _ (by first | exact Below.refl _ _ | exact (Below.refl _ _).drew)).mono ?_; rintro e' w1 ⟨rfl, hb⟩; obtain ⟨hc, hf⟩ := bcell2 hb; have hz : w.heap.size < w1.heap.size := by { have := hb.size; simp at this; omega }) | (go_at_call 54; refine (samefault_any _ _ _ _ _ _ _).mono ?_; rintro e' w2 ⟨rfl, hb2⟩))
  all_goals
    go_wp2
    go_ret
    refine ⟨rfl, ?_⟩
    exact ((((Below.refl _ _).alloc (Nat.le_refl _) _).drew).trans (hb.mono (by simp))).trans (hb2.mono (by omega))
theorem is_any (e : Value) (c n c' : Int) (p : Bool) (w : World) (hF : FaultIs e c n p w) : Calls Tryd.prog 7 #[e, .int .i64 c'] w fun e' w' => e' = .returned (.bool (faultB c n c' 0 p false)) ∧ Below w.heap.size w w' := by
  go_enter Tryd.func7, Tryd.ntmps7
  go_wp2_with (first | (go_at_call 27; refine (bare_is _ _).mono ?_; rintro e' w1 ⟨rfl, hb⟩) | (go_at_call 26; refine (same_any e c n c' 0 p false _ (hF.later hb)).mono ?_; rintro e' w2 ⟨rfl, hb2⟩))
  go_ret
  exact ⟨rfl, hb.trans (hb2.mono hb.size)⟩
end Go.Proofs.YtncopdhhchmpeaaDoor
