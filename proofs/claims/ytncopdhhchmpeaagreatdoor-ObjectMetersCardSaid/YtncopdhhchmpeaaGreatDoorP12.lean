/-
  Oa, Ob, Oc, Mt2, Od, Og, Oe, Oh as one.
-/
import Derived.Test.YtncopdhhchmpeaaGreatDoorP11
import Derived.Test.YtncopdhhchmpeaaGreatDoorMt
namespace Go.Proofs.YtncopdhhchmpeaaGreatDoor
open Go.ChangeShapes Go.WideShapes Go.ChangeAt Go.RowKit
set_option linter.unusedVariables false
set_option linter.unusedSimpArgs false
theorem note_one (o a b c k0 k1 k2 k3 k4 j0 j1 j2 j3 j4 i0 i1 i2 i3 i4 : Int) : (#[.int .u32 o, .int .u32 a, .int .u32 b, .int .u32 c, .int .i64 k0, .int .i64 k1, .int .i64 k2, .int .i64 k3, .int .u32 k4, .int .i64 j0, .int .i64 j1, .int .i64 j2, .int .i64 j3, .int .u32 j4, .int .i64 i0, .int .i64 i1, .int .i64 i2, .int .i64 i3, .int .u32 i4] : Array Value).all (·.oneCell') = true := by simp [Value.oneCell']
theorem infoNote : (Tryz.prog.info? 64).map (·.size) = some 19 := by kernel_rfl
theorem nthere_new (w : World) (z : Array Value) (n : Nat) (hz : z.size = n) (T : TypeId) : World.there (w.alloc (.cells z T (0, 0))) w.heap.size 0 n := fun j hj => by
  simp [hz, hj]
theorem nbelow_cells {N b : Nat} {W0 w : World} (h : Below N W0 w) (hb : N ≤ b) : ∀ (cs : List Value) (o : Nat), Below N W0 (w.setCells b o cs) := by
  intro cs
  induction cs generalizing w with
  | nil => intro o; exact h
  | cons v r ih => intro o; exact ih (h.setCell hb v) (o + 1)
theorem nload {W : World} {b : Nat} {cs : List Value} (hl : cs.length = 19) (hr : W.rangeAt b 0 cs) : (loadVar 64 ⟨b, 0, none⟩).run Tryz.prog W = .ok (.agg cs.toArray) W :=
  run_loadVar_mid (P := Tryz.prog) W b 0 64 cs _ hr Tryz.underlying64 rfl (by rw [hl]; exact infoNote)
set_option maxRecDepth 100000 in
set_option maxHeartbeats 1000000 in
theorem ofails_is (n : Int) (h0 : 0 ≤ n) (h1 : n ≤ 100) (w : World) : Calls Tryz.prog 124 #[.int .i64 n] w fun e w' => e = .returned (Value.agg #[.int .u32 n, .int .u32 0, .int .u32 0, .int .u32 0, .int .i64 0, .int .i64 0, .int .i64 0, .int .i64 0, .int .u32 0, .int .i64 0, .int .i64 0, .int .i64 0, .int .i64 0, .int .u32 0, .int .i64 0, .int .i64 0, .int .i64 0, .int .i64 0, .int .u32 0]) ∧ Below w.heap.size w w' := by
  have hw : IntKind.u32.wrap n = n := by rw [IntKind.wrap_u32]; omega
  go_enter Tryz.func124, Tryz.ntmps124
  go_upto_region 1 with fail
  generalize hA : World.alloc w _ = wA
  have HA : Hid (Below w.heap.size w wA ∧ World.there wA w.heap.size 0 19) := Lib.hid (by rw [← hA]; exact ⟨(Below.refl _ _).alloc (Nat.le_refl _) _, nthere_new _ _ _ (by rfl) _⟩)
  clear hA
  go_wp2_with (first
    | (refine wpList_store_mid (by rfl) _ _ _ (by rfl) w.heap.size 0 ([.int .u32 n, .int .u32 0, .int .u32 0, .int .u32 0, .int .i64 0, .int .i64 0, .int .i64 0, .int .i64 0, .int .u32 0, .int .i64 0, .int .i64 0, .int .i64 0, .int .i64 0, .int .u32 0, .int .i64 0, .int .i64 0, .int .i64 0, .int .i64 0, .int .u32 0] : List Value).toArray (by rfl) (by rfl) HA.out.2 infoNote (note_one _ _ _ _ _ _ _ _ _ _ _ _ _ _ _ _ _ _ _) ?_))
  generalize hS : World.setCells wA _ _ _ = wS
  have HS : Hid (Below w.heap.size w wS ∧ wS.rangeAt w.heap.size 0 [.int .u32 n, .int .u32 0, .int .u32 0, .int .u32 0, .int .i64 0, .int .i64 0, .int .i64 0, .int .i64 0, .int .u32 0, .int .i64 0, .int .i64 0, .int .i64 0, .int .i64 0, .int .u32 0, .int .i64 0, .int .i64 0, .int .i64 0, .int .i64 0, .int .u32 0]) := Lib.hid (by rw [← hS]; exact ⟨nbelow_cells HA.out.1 (Nat.le_refl _) _ _, World.rangeAt_setCells_same wA w.heap.size 0 [.int .u32 n, .int .u32 0, .int .u32 0, .int .u32 0, .int .i64 0, .int .i64 0, .int .i64 0, .int .i64 0, .int .u32 0, .int .i64 0, .int .i64 0, .int .i64 0, .int .i64 0, .int .u32 0, .int .i64 0, .int .i64 0, .int .i64 0, .int .i64 0, .int .u32 0] HA.out.2⟩)
  have hld := nload rfl HS.out.2
  refine bodyPost_ret (v := (Value.agg #[.int .u32 n, .int .u32 0, .int .u32 0, .int .u32 0, .int .i64 0, .int .i64 0, .int .i64 0, .int .i64 0, .int .u32 0, .int .i64 0, .int .i64 0, .int .i64 0, .int .i64 0, .int .u32 0, .int .i64 0, .int .i64 0, .int .i64 0, .int .i64 0, .int .u32 0])) (by simp [results, Tryz.results124, Act.put, asAddr, hld]) rfl ⟨rfl, HS.out.1⟩
set_option maxRecDepth 100000 in
set_option maxHeartbeats 1000000 in
theorem okeyed_is (k0 k1 k2 k3 k4 : Int) (w : World) : Calls Tryz.prog 137 #[(Value.agg #[.int .i64 k0, .int .i64 k1, .int .i64 k2, .int .i64 k3, .int .u32 k4])] w fun e w' => e = .returned (Value.agg #[.int .u32 0, .int .u32 0, .int .u32 0, .int .u32 0, .int .i64 k0, .int .i64 k1, .int .i64 k2, .int .i64 k3, .int .u32 k4, .int .i64 0, .int .i64 0, .int .i64 0, .int .i64 0, .int .u32 0, .int .i64 0, .int .i64 0, .int .i64 0, .int .i64 0, .int .u32 0]) ∧ Below w.heap.size w w' := by
  go_enter Tryz.func137, Tryz.ntmps137
  go_upto_region 1 with fail
  generalize hA : World.alloc w _ = wK
  have HK : Hid (Below w.heap.size w wK ∧ KeyC wK w.heap.size k0 k1 k2 k3 k4 ∧ wK.heap.size = w.heap.size + 1) := Lib.hid (by rw [← hA]; exact ⟨(Below.refl _ _).alloc (Nat.le_refl _) _, KeyC.new w k0 k1 k2 k3 k4 _, by simp⟩)
  clear hA
  generalize hA : World.alloc wK _ = wA
  have HA : Hid (Below w.heap.size w wA ∧ World.there wA (w.heap.size + 1) 0 19 ∧ KeyC wA w.heap.size k0 k1 k2 k3 k4) := Lib.hid (by rw [← hA, ← HK.out.2.2]; exact ⟨HK.out.1.alloc HK.out.1.size _, nthere_new _ _ 19 (by rfl) _, HK.out.2.1.below ((Below.refl _ _).alloc (Nat.le_refl _) _)⟩)
  clear hA
  have q0 := HA.out.2.2.c0
  have q1 := HA.out.2.2.c1
  have q2 := HA.out.2.2.c2
  have q3 := HA.out.2.2.c3
  have q4 := HA.out.2.2.c4
  go_wp2_with (first
    | (refine wpList_store_mid (by rfl) _ _ _ (by rfl) (w.heap.size + 1) 0 ([.int .u32 0, .int .u32 0, .int .u32 0, .int .u32 0, .int .i64 k0, .int .i64 k1, .int .i64 k2, .int .i64 k3, .int .u32 k4, .int .i64 0, .int .i64 0, .int .i64 0, .int .i64 0, .int .u32 0, .int .i64 0, .int .i64 0, .int .i64 0, .int .i64 0, .int .u32 0] : List Value).toArray (by rfl) (by rfl) HA.out.2.1 infoNote (note_one _ _ _ _ _ _ _ _ _ _ _ _ _ _ _ _ _ _ _) ?_))
  generalize hS : World.setCells wA _ _ _ = wS
  have HS : Hid (Below w.heap.size w wS ∧ wS.rangeAt (w.heap.size + 1) 0 [.int .u32 0, .int .u32 0, .int .u32 0, .int .u32 0, .int .i64 k0, .int .i64 k1, .int .i64 k2, .int .i64 k3, .int .u32 k4, .int .i64 0, .int .i64 0, .int .i64 0, .int .i64 0, .int .u32 0, .int .i64 0, .int .i64 0, .int .i64 0, .int .i64 0, .int .u32 0]) := Lib.hid (by rw [← hS]; exact ⟨nbelow_cells HA.out.1 (Nat.le_succ _) _ _, World.rangeAt_setCells_same wA (w.heap.size + 1) 0 [.int .u32 0, .int .u32 0, .int .u32 0, .int .u32 0, .int .i64 k0, .int .i64 k1, .int .i64 k2, .int .i64 k3, .int .u32 k4, .int .i64 0, .int .i64 0, .int .i64 0, .int .i64 0, .int .u32 0, .int .i64 0, .int .i64 0, .int .i64 0, .int .i64 0, .int .u32 0] HA.out.2.1⟩)
  have hld := nload rfl HS.out.2
  refine bodyPost_ret (v := (Value.agg #[.int .u32 0, .int .u32 0, .int .u32 0, .int .u32 0, .int .i64 k0, .int .i64 k1, .int .i64 k2, .int .i64 k3, .int .u32 k4, .int .i64 0, .int .i64 0, .int .i64 0, .int .i64 0, .int .u32 0, .int .i64 0, .int .i64 0, .int .i64 0, .int .i64 0, .int .u32 0])) (by simp [results, Tryz.results137, Act.put, asAddr, hld]) rfl ⟨rfl, HS.out.1⟩
/-- The cells of a call: the system, the key, the note. -/
structure CallC (cs : List Value) (s : Nat) (k0 k1 k2 k3 k4 o x : Int) : Prop where
  len : cs.length = 25
  c0 : cs[0]? = some (.pointer (some ⟨s, 0, none⟩))
  c1 : cs[1]? = some (.int .i64 k0)
  c2 : cs[2]? = some (.int .i64 k1)
  c3 : cs[3]? = some (.int .i64 k2)
  c4 : cs[4]? = some (.int .i64 k3)
  c5 : cs[5]? = some (.int .u32 k4)
  c6 : cs[6]? = some (.int .u32 o)
  c7 : cs[7]? = some (.int .u32 x)
  one : ∀ v, v ∈ cs → v.oneCell' = true
theorem infoCall : (Tryz.prog.info? 129).map (·.size) = some 25 := by kernel_rfl
theorem cload {W : World} {b : Nat} {cs : List Value} (hl : cs.length = 25) (hr : W.rangeAt b 0 cs) : (loadVar 129 ⟨b, 0, none⟩).run Tryz.prog W = .ok (.agg cs.toArray) W :=
  run_loadVar_mid (P := Tryz.prog) W b 0 129 cs _ hr Tryz.underlying129 rfl (by rw [hl]; exact infoCall)
theorem cbox (w : World) (cs : List Value) (T : TypeId) : (w.alloc (.cells cs.toArray T (0, 0))).rangeAt w.heap.size 0 cs := fun j v hv => by simpa using hv
theorem CallC.cell {w : World} {b : Nat} {cs : List Value} (hr : w.rangeAt b 0 cs) (j : Nat) (v : Value) (hv : cs[j]? = some v) : w.cell? ⟨b, j, none⟩ = some v := by
  have := hr j v hv
  rwa [Nat.zero_add] at this
section
variable {cs : List Value} {s : Nat} {k0 k1 k2 k3 k4 o x : Int}
set_option maxRecDepth 100000 in
set_option maxHeartbeats 1000000 in
theorem oword_is (hc : Hid (CallC cs s k0 k1 k2 k3 k4 o x)) (w : World) : Calls Tryz.prog 140 #[.agg cs.toArray] w fun e w' => e = .returned (.int .u32 x) ∧ Below w.heap.size w w' := by
  go_enter Tryz.func140, Tryz.ntmps140
  go_upto_region 1 with fail
  generalize hA : World.alloc w _ = wA
  have HA : Hid (Below w.heap.size w wA ∧ wA.rangeAt w.heap.size 0 cs) := Lib.hid (by rw [← hA]; exact ⟨(Below.refl _ _).alloc (Nat.le_refl _) _, cbox _ _ _⟩)
  clear hA
  have q7 := CallC.cell HA.out.2 7 _ hc.out.c7
  go_wp2_with fail
  go_ret
  exact ⟨rfl, HA.out.1⟩
set_option maxRecDepth 100000 in
set_option maxHeartbeats 1000000 in
theorem oplace_is (hc : Hid (CallC cs s k0 k1 k2 k3 k4 o x)) (h0 : 0 ≤ x) (h1 : x ≤ 4294967295) (w : World) : Calls Tryz.prog 135 #[.agg cs.toArray] w fun e w' => e = .returned (.int .i64 x) ∧ Below w.heap.size w w' := by
  have hw : IntKind.i64.wrap x = x := by rw [IntKind.wrap_i64]; omega
  go_enter Tryz.func135, Tryz.ntmps135
  go_upto_region 1 with fail
  generalize hA : World.alloc w _ = wA
  have HA : Hid (Below w.heap.size w wA ∧ wA.rangeAt w.heap.size 0 cs) := Lib.hid (by rw [← hA]; exact ⟨(Below.refl _ _).alloc (Nat.le_refl _) _, cbox _ _ _⟩)
  clear hA
  go_wp2_with (first
    | (refine wpList_load_mid (by rfl) _ _ (by rfl) w.heap.size 0 (by rfl) cs _ HA.out.2 Tryz.underlying129 rfl (by rw [hc.out.len]; exact infoCall) ?_)
    | (go_at_call 140; (with_reducible refine (oword_is hc _).mono ?_); rintro e w1 ⟨rfl, hb⟩; have HB := Lib.hid (HA.out.1.trans (hb.mono HA.out.1.size)); clear hb))
  go_ret
  exact ⟨rfl, HB.out⟩
end
theorem all_one {cs : List Value} (h : ∀ v, v ∈ cs → v.oneCell' = true) : cs.toArray.all (·.oneCell') = true := all_oneCell_toArray h
set_option maxRecDepth 100000 in
set_option maxHeartbeats 1000000 in
theorem otold_nil (cs : List Value) (hl : cs.length = 19) (h1 : ∀ v, v ∈ cs → v.oneCell' = true) (w : World) : Calls Tryz.prog 136 #[.agg cs.toArray, .nilIface] w fun e w' => e = .returned (.agg cs.toArray) ∧ Below w.heap.size w w' := by
  have hsz : cs.toArray.size = 19 := by simp [hl]
  go_enter Tryz.func136, Tryz.ntmps136
  go_upto_region 1 with fail
  generalize hA : World.alloc w _ = wK
  have HK : Hid (Below w.heap.size w wK ∧ wK.rangeAt w.heap.size 0 cs ∧ wK.heap.size = w.heap.size + 1) := Lib.hid (by rw [← hA]; exact ⟨(Below.refl _ _).alloc (Nat.le_refl _) _, cbox _ _ _, by simp⟩)
  clear hA
  generalize hA : World.alloc wK _ = wA
  have HA : Hid (Below w.heap.size w wA ∧ World.there wA (w.heap.size + 1) 0 19 ∧ wA.rangeAt w.heap.size 0 cs) := Lib.hid (by
    rw [← hA, ← HK.out.2.2]
    refine ⟨HK.out.1.alloc HK.out.1.size _, nthere_new _ _ 19 (by rfl) _, fun j v hv => ?_⟩
    rw [World.cell?_alloc_past _ w.heap.size _ (by have := HK.out.2.2; omega)]
    exact HK.out.2.1 j v hv)
  clear hA
  go_wp2_with (first
    | (refine wpList_load_mid (by rfl) _ _ (by rfl) w.heap.size 0 (by rfl) cs _ HA.out.2.2 Tryz.underlying64 rfl (by rw [hl]; exact infoNote) ?_)
    | (refine wpList_store_mid (by rfl) _ _ _ (by rfl) (w.heap.size + 1) 0 cs.toArray (by rfl) (by rfl) (by rw [hsz]; exact HA.out.2.1) (by rw [hsz]; exact infoNote) (all_one h1) ?_))
  have HS : Hid (Below w.heap.size w (wA.setCells (w.heap.size + 1) 0 cs.toArray.toList) ∧ (wA.setCells (w.heap.size + 1) 0 cs.toArray.toList).rangeAt (w.heap.size + 1) 0 cs) := Lib.hid ⟨nbelow_cells HA.out.1 (Nat.le_succ _) _ _, World.rangeAt_setCells_same wA (w.heap.size + 1) 0 cs (by rw [hl]; exact HA.out.2.1)⟩
  have hld := nload hl HS.out.2
  refine bodyPost_ret (v := (.agg cs.toArray)) (by simp [results, Tryz.results136, Act.put, asAddr, hld]) rfl ⟨rfl, HS.out.1⟩
theorem note_put {w : World} {b : Nat} (h : w.rangeAt b 0 [.int .u32 0, .int .u32 0, .int .u32 0, .int .u32 0, .int .i64 0, .int .i64 0, .int .i64 0, .int .i64 0, .int .u32 0, .int .i64 0, .int .i64 0, .int .i64 0, .int .i64 0, .int .u32 0, .int .i64 0, .int .i64 0, .int .i64 0, .int .i64 0, .int .u32 0]) (x : Int) : (w.setCells b 1 [.int .u32 x]).rangeAt b 0 [.int .u32 0, .int .u32 x, .int .u32 0, .int .u32 0, .int .i64 0, .int .i64 0, .int .i64 0, .int .i64 0, .int .u32 0, .int .i64 0, .int .i64 0, .int .i64 0, .int .i64 0, .int .u32 0, .int .i64 0, .int .i64 0, .int .i64 0, .int .i64 0, .int .u32 0] := fun j v hv => by
  have e1 := CallC.cell h 1 (.int .u32 0) rfl
  show (w.setCell ⟨b, 1, none⟩ (.int .u32 x)).cell? _ = _
  by_cases hj : j = 1
  · subst hj
    simp at hv
    subst hv
    exact World.cell?_setCell_same _ _ _ e1
  · rw [World.cell?_setCell_other _ _ _ _ (by simp [hj])]
    refine h j v ?_
    rcases j with _ | _ | j
    · exact hv
    · exact absurd rfl hj
    · exact hv
set_option maxRecDepth 100000 in
set_option maxHeartbeats 1000000 in
theorem owords_one (x : Int) (g c : Nat) (w : World) (hx : w.cell? ⟨g, 0, none⟩ = some (.int .u32 x)) : Calls Tryz.prog 133 #[.slice (some ⟨g, 0, none⟩) 1 c] w fun e w' => e = .returned (Value.agg #[.int .u32 0, .int .u32 x, .int .u32 0, .int .u32 0, .int .i64 0, .int .i64 0, .int .i64 0, .int .i64 0, .int .u32 0, .int .i64 0, .int .i64 0, .int .i64 0, .int .i64 0, .int .u32 0, .int .i64 0, .int .i64 0, .int .i64 0, .int .i64 0, .int .u32 0]) ∧ Below w.heap.size w w' := by
  have HG := Lib.hid (⟨cell_lt hx, hx⟩ : g < w.heap.size ∧ w.cell? ⟨g, 0, none⟩ = some (.int .u32 x))
  clear hx
  go_enter Tryz.func133, Tryz.ntmps133
  go_upto_region 1 with fail
  generalize hA : World.alloc w _ = wA
  have HA : Hid (Below w.heap.size w wA ∧ World.there wA w.heap.size 0 19 ∧ w.heap.size < wA.heap.size) := Lib.hid (by rw [← hA]; exact ⟨(Below.refl _ _).alloc (Nat.le_refl _) _, nthere_new _ _ _ (by rfl) _, by simp⟩)
  clear hA
  go_upto_region 2 with (first
    | (go_at_call 124; (with_reducible refine (ofails_is 0 (by decide) (by decide) _).mono ?_); rintro e w2 ⟨rfl, hb⟩; have HB2 := Lib.hid hb; clear hb)
    | (refine wpList_store_mid (by rfl) _ _ _ (by rfl) w2.heap.size 0 ([.int .u32 0, .int .u32 0, .int .u32 0, .int .u32 0, .int .i64 0, .int .i64 0, .int .i64 0, .int .i64 0, .int .u32 0, .int .i64 0, .int .i64 0, .int .i64 0, .int .i64 0, .int .u32 0, .int .i64 0, .int .i64 0, .int .i64 0, .int .i64 0, .int .u32 0] : List Value).toArray (by rfl) (by rfl) (nthere_new _ _ 19 (by rfl) _) infoNote (note_one _ _ _ _ _ _ _ _ _ _ _ _ _ _ _ _ _ _ _) ?_))
  generalize hS : World.setCells _ w2.heap.size 0 _ = w3
  obtain ⟨nb, hnb⟩ : ∃ nb, nb = w2.heap.size := ⟨_, rfl⟩
  have HS : Hid (Below wA.heap.size wA w3 ∧ w3.rangeAt nb 0 [.int .u32 0, .int .u32 0, .int .u32 0, .int .u32 0, .int .i64 0, .int .i64 0, .int .i64 0, .int .i64 0, .int .u32 0, .int .i64 0, .int .i64 0, .int .i64 0, .int .i64 0, .int .u32 0, .int .i64 0, .int .i64 0, .int .i64 0, .int .i64 0, .int .u32 0] ∧ World.there w3 nb 0 19 ∧ wA.heap.size ≤ nb) := Lib.hid (by rw [← hS, hnb]; exact ⟨nbelow_cells (HB2.out.alloc HB2.out.size _) HB2.out.size _ _, World.rangeAt_setCells_same _ _ 0 [.int .u32 0, .int .u32 0, .int .u32 0, .int .u32 0, .int .i64 0, .int .i64 0, .int .i64 0, .int .i64 0, .int .u32 0, .int .i64 0, .int .i64 0, .int .i64 0, .int .i64 0, .int .u32 0, .int .i64 0, .int .i64 0, .int .i64 0, .int .i64 0, .int .u32 0] (nthere_new _ _ 19 (by rfl) _), World.there_setCells (nthere_new _ _ 19 (by rfl) _) _ _ _, HB2.out.size⟩)
  rw [← hnb]
  clear hS hnb
  have hsrc : ∀ j v, ([.int .u32 x] : List Value)[j]? = some v → w3.cell? ((⟨g, 0, none⟩ : Addr).add j) = some v := fun j v hv => by
    have hj : j = 0 := by
      rcases j with _ | j
      · rfl
      · simp at hv
    subst hj
    simp at hv
    subst hv
    have e1 := HS.out.1.cell (p := ⟨g, 0, none⟩) (Nat.lt_trans HG.out.1 HA.out.2.2)
    have e2 := HA.out.1.cell (p := ⟨g, 0, none⟩) HG.out.1
    simpa [Addr.add] using e1.trans (e2.trans HG.out.2)
  have hrun := run_copy_cells (P := Tryz.prog) w3 36 36 3 40 nb 1 3 3 ⟨g, 0, none⟩ 1 c [.int .u32 x] Tryz.underlying36 (by kernel_rfl) rfl hsrc (fun j hj => by have h := (HS.out.2.2.1 (1 + j) (by simp at hj; omega)).1; rw [Nat.zero_add] at h; exact h) (fun j hj => by have h := (HS.out.2.2.1 (1 + j) (by simp at hj; omega)).2; rw [Nat.zero_add] at h; exact h) (by simp [Value.oneCell'])
  go_upto_region 3 with fail
  clear hrun hsrc
  generalize hS : World.setCells w3 _ _ _ = w4
  have HS4 : Hid (Below wA.heap.size wA w4 ∧ w4.rangeAt nb 0 [.int .u32 0, .int .u32 x, .int .u32 0, .int .u32 0, .int .i64 0, .int .i64 0, .int .i64 0, .int .i64 0, .int .u32 0, .int .i64 0, .int .i64 0, .int .i64 0, .int .i64 0, .int .u32 0, .int .i64 0, .int .i64 0, .int .i64 0, .int .i64 0, .int .u32 0]) := Lib.hid (by rw [← hS]; exact ⟨nbelow_cells HS.out.1 HS.out.2.2.2 _ _, note_put HS.out.2.1 x⟩)
  clear hS
  have HT4 : Hid (World.there w4 w.heap.size 0 19 ∧ Below w.heap.size w w4) := Lib.hid ⟨fun j hj => ⟨by rw [HS4.out.1.cell (p := ⟨w.heap.size, 0 + j, none⟩) HA.out.2.2]; exact (HA.out.2.1 j hj).1, by rw [HS4.out.1.frozen (p := ⟨w.heap.size, 0 + j, none⟩) HA.out.2.2]; exact (HA.out.2.1 j hj).2⟩, HA.out.1.trans (HS4.out.1.mono (Nat.le_of_lt HA.out.2.2))⟩
  go_wp2_with (first
    | (refine wpList_load_mid (by rfl) _ _ (by rfl) nb 0 (by rfl) [.int .u32 0, .int .u32 x, .int .u32 0, .int .u32 0, .int .i64 0, .int .i64 0, .int .i64 0, .int .i64 0, .int .u32 0, .int .i64 0, .int .i64 0, .int .i64 0, .int .i64 0, .int .u32 0, .int .i64 0, .int .i64 0, .int .i64 0, .int .i64 0, .int .u32 0] _ HS4.out.2 Tryz.underlying64 rfl infoNote ?_)
    | (refine wpList_store_mid (by rfl) _ _ _ (by rfl) w.heap.size 0 ([.int .u32 0, .int .u32 x, .int .u32 0, .int .u32 0, .int .i64 0, .int .i64 0, .int .i64 0, .int .i64 0, .int .u32 0, .int .i64 0, .int .i64 0, .int .i64 0, .int .i64 0, .int .u32 0, .int .i64 0, .int .i64 0, .int .i64 0, .int .i64 0, .int .u32 0] : List Value).toArray (by rfl) (by rfl) HT4.out.1 infoNote (note_one _ _ _ _ _ _ _ _ _ _ _ _ _ _ _ _ _ _ _) ?_))
  generalize hS : World.setCells w4 _ _ _ = w5
  have H5 : Hid (Below w.heap.size w w5 ∧ w5.rangeAt w.heap.size 0 [.int .u32 0, .int .u32 x, .int .u32 0, .int .u32 0, .int .i64 0, .int .i64 0, .int .i64 0, .int .i64 0, .int .u32 0, .int .i64 0, .int .i64 0, .int .i64 0, .int .i64 0, .int .u32 0, .int .i64 0, .int .i64 0, .int .i64 0, .int .i64 0, .int .u32 0]) := Lib.hid (by rw [← hS]; exact ⟨nbelow_cells HT4.out.2 (Nat.le_refl _) _ _, World.rangeAt_setCells_same _ _ 0 [.int .u32 0, .int .u32 x, .int .u32 0, .int .u32 0, .int .i64 0, .int .i64 0, .int .i64 0, .int .i64 0, .int .u32 0, .int .i64 0, .int .i64 0, .int .i64 0, .int .i64 0, .int .u32 0, .int .i64 0, .int .i64 0, .int .i64 0, .int .i64 0, .int .u32 0] HT4.out.1⟩)
  have hld := nload rfl H5.out.2
  refine bodyPost_ret (v := (Value.agg #[.int .u32 0, .int .u32 x, .int .u32 0, .int .u32 0, .int .i64 0, .int .i64 0, .int .i64 0, .int .i64 0, .int .u32 0, .int .i64 0, .int .i64 0, .int .i64 0, .int .i64 0, .int .u32 0, .int .i64 0, .int .i64 0, .int .i64 0, .int .i64 0, .int .u32 0])) (by simp [results, Tryz.results133, Act.put, asAddr, hld]) rfl ⟨rfl, H5.out.1⟩
set_option maxRecDepth 100000 in
set_option maxHeartbeats 1000000 in
theorem owords_none (w : World) : Calls Tryz.prog 133 #[.slice none 0 0] w fun e w' => e = .returned (Value.agg #[.int .u32 0, .int .u32 0, .int .u32 0, .int .u32 0, .int .i64 0, .int .i64 0, .int .i64 0, .int .i64 0, .int .u32 0, .int .i64 0, .int .i64 0, .int .i64 0, .int .i64 0, .int .u32 0, .int .i64 0, .int .i64 0, .int .i64 0, .int .i64 0, .int .u32 0]) ∧ Below w.heap.size w w' := by
  go_enter Tryz.func133, Tryz.ntmps133
  go_upto_region 1 with fail
  generalize hA : World.alloc w _ = wA
  have HA : Hid (Below w.heap.size w wA ∧ World.there wA w.heap.size 0 19 ∧ w.heap.size < wA.heap.size) := Lib.hid (by rw [← hA]; exact ⟨(Below.refl _ _).alloc (Nat.le_refl _) _, nthere_new _ _ _ (by rfl) _, by simp⟩)
  clear hA
  go_upto_region 2 with (first
    | (go_at_call 124; (with_reducible refine (ofails_is 0 (by decide) (by decide) _).mono ?_); rintro e w2 ⟨rfl, hb⟩; have HB2 := Lib.hid hb; clear hb)
    | (refine wpList_store_mid (by rfl) _ _ _ (by rfl) w2.heap.size 0 ([.int .u32 0, .int .u32 0, .int .u32 0, .int .u32 0, .int .i64 0, .int .i64 0, .int .i64 0, .int .i64 0, .int .u32 0, .int .i64 0, .int .i64 0, .int .i64 0, .int .i64 0, .int .u32 0, .int .i64 0, .int .i64 0, .int .i64 0, .int .i64 0, .int .u32 0] : List Value).toArray (by rfl) (by rfl) (nthere_new _ _ 19 (by rfl) _) infoNote (note_one _ _ _ _ _ _ _ _ _ _ _ _ _ _ _ _ _ _ _) ?_))
  generalize hS : World.setCells _ w2.heap.size 0 _ = w3
  obtain ⟨nb, hnb⟩ : ∃ nb, nb = w2.heap.size := ⟨_, rfl⟩
  have HS : Hid (Below wA.heap.size wA w3 ∧ w3.rangeAt nb 0 [.int .u32 0, .int .u32 0, .int .u32 0, .int .u32 0, .int .i64 0, .int .i64 0, .int .i64 0, .int .i64 0, .int .u32 0, .int .i64 0, .int .i64 0, .int .i64 0, .int .i64 0, .int .u32 0, .int .i64 0, .int .i64 0, .int .i64 0, .int .i64 0, .int .u32 0] ∧ World.there w3 nb 0 19 ∧ wA.heap.size ≤ nb) := Lib.hid (by rw [← hS, hnb]; exact ⟨nbelow_cells (HB2.out.alloc HB2.out.size _) HB2.out.size _ _, World.rangeAt_setCells_same _ _ 0 [.int .u32 0, .int .u32 0, .int .u32 0, .int .u32 0, .int .i64 0, .int .i64 0, .int .i64 0, .int .i64 0, .int .u32 0, .int .i64 0, .int .i64 0, .int .i64 0, .int .i64 0, .int .u32 0, .int .i64 0, .int .i64 0, .int .i64 0, .int .i64 0, .int .u32 0] (nthere_new _ _ 19 (by rfl) _), World.there_setCells (nthere_new _ _ 19 (by rfl) _) _ _ _, HB2.out.size⟩)
  rw [← hnb]
  clear hS hnb
  have hrun := run_copy_none (P := Tryz.prog) w3 36 36 3 40 (some ⟨nb, 1, none⟩) none 3 3 0 0 Tryz.underlying36 (by kernel_rfl) rfl
  go_upto_region 3 with fail
  clear hrun
  have HS4 : Hid (Below wA.heap.size wA w3 ∧ w3.rangeAt nb 0 [.int .u32 0, .int .u32 0, .int .u32 0, .int .u32 0, .int .i64 0, .int .i64 0, .int .i64 0, .int .i64 0, .int .u32 0, .int .i64 0, .int .i64 0, .int .i64 0, .int .i64 0, .int .u32 0, .int .i64 0, .int .i64 0, .int .i64 0, .int .i64 0, .int .u32 0]) := Lib.hid ⟨HS.out.1, HS.out.2.1⟩
  have HT4 : Hid (World.there w3 w.heap.size 0 19 ∧ Below w.heap.size w w3) := Lib.hid ⟨fun j hj => ⟨by rw [HS4.out.1.cell (p := ⟨w.heap.size, 0 + j, none⟩) HA.out.2.2]; exact (HA.out.2.1 j hj).1, by rw [HS4.out.1.frozen (p := ⟨w.heap.size, 0 + j, none⟩) HA.out.2.2]; exact (HA.out.2.1 j hj).2⟩, HA.out.1.trans (HS4.out.1.mono (Nat.le_of_lt HA.out.2.2))⟩
  go_wp2_with (first
    | (refine wpList_load_mid (by rfl) _ _ (by rfl) nb 0 (by rfl) [.int .u32 0, .int .u32 0, .int .u32 0, .int .u32 0, .int .i64 0, .int .i64 0, .int .i64 0, .int .i64 0, .int .u32 0, .int .i64 0, .int .i64 0, .int .i64 0, .int .i64 0, .int .u32 0, .int .i64 0, .int .i64 0, .int .i64 0, .int .i64 0, .int .u32 0] _ HS4.out.2 Tryz.underlying64 rfl infoNote ?_)
    | (refine wpList_store_mid (by rfl) _ _ _ (by rfl) w.heap.size 0 ([.int .u32 0, .int .u32 0, .int .u32 0, .int .u32 0, .int .i64 0, .int .i64 0, .int .i64 0, .int .i64 0, .int .u32 0, .int .i64 0, .int .i64 0, .int .i64 0, .int .i64 0, .int .u32 0, .int .i64 0, .int .i64 0, .int .i64 0, .int .i64 0, .int .u32 0] : List Value).toArray (by rfl) (by rfl) HT4.out.1 infoNote (note_one _ _ _ _ _ _ _ _ _ _ _ _ _ _ _ _ _ _ _) ?_))
  generalize hS : World.setCells w3 _ _ _ = w5
  have H5 : Hid (Below w.heap.size w w5 ∧ w5.rangeAt w.heap.size 0 [.int .u32 0, .int .u32 0, .int .u32 0, .int .u32 0, .int .i64 0, .int .i64 0, .int .i64 0, .int .i64 0, .int .u32 0, .int .i64 0, .int .i64 0, .int .i64 0, .int .i64 0, .int .u32 0, .int .i64 0, .int .i64 0, .int .i64 0, .int .i64 0, .int .u32 0]) := Lib.hid (by rw [← hS]; exact ⟨nbelow_cells HT4.out.2 (Nat.le_refl _) _ _, World.rangeAt_setCells_same _ _ 0 [.int .u32 0, .int .u32 0, .int .u32 0, .int .u32 0, .int .i64 0, .int .i64 0, .int .i64 0, .int .i64 0, .int .u32 0, .int .i64 0, .int .i64 0, .int .i64 0, .int .i64 0, .int .u32 0, .int .i64 0, .int .i64 0, .int .i64 0, .int .i64 0, .int .u32 0] HT4.out.1⟩)
  have hld := nload rfl H5.out.2
  refine bodyPost_ret (v := (Value.agg #[.int .u32 0, .int .u32 0, .int .u32 0, .int .u32 0, .int .i64 0, .int .i64 0, .int .i64 0, .int .i64 0, .int .u32 0, .int .i64 0, .int .i64 0, .int .i64 0, .int .i64 0, .int .u32 0, .int .i64 0, .int .i64 0, .int .i64 0, .int .i64 0, .int .u32 0])) (by simp [results, Tryz.results133, Act.put, asAddr, hld]) rfl ⟨rfl, H5.out.1⟩
end Go.Proofs.YtncopdhhchmpeaaGreatDoor
namespace Go.Proofs.YtncopdhhchmpeaaGreatDoor
open Go.ChangeShapes Go.WideShapes Go.ChangeAt Go.RowKit
set_option linter.unusedVariables false
set_option linter.unusedSimpArgs false
theorem ofive {w : World} {b : Nat} {k0 k1 k2 k3 k4 : Int} (h : KeyC w b k0 k1 k2 k3 k4) : (World.cell? w ⟨b, 0, none⟩ = some (.int .i64 k0) ∧ World.cell? w ⟨b, 1, none⟩ = some (.int .i64 k1) ∧ World.cell? w ⟨b, 2, none⟩ = some (.int .i64 k2) ∧ World.cell? w ⟨b, 3, none⟩ = some (.int .i64 k3) ∧ World.cell? w ⟨b, 4, none⟩ = some (.int .u32 k4)) := ⟨h.c0, h.c1, h.c2, h.c3, h.c4⟩
theorem obelow5 {x y : World} {b : Nat} {k0 k1 k2 k3 k4 : Int} (h : (World.cell? x ⟨b, 0, none⟩ = some (.int .i64 k0) ∧ World.cell? x ⟨b, 1, none⟩ = some (.int .i64 k1) ∧ World.cell? x ⟨b, 2, none⟩ = some (.int .i64 k2) ∧ World.cell? x ⟨b, 3, none⟩ = some (.int .i64 k3) ∧ World.cell? x ⟨b, 4, none⟩ = some (.int .u32 k4))) (hb : Below x.heap.size x y) : (World.cell? y ⟨b, 0, none⟩ = some (.int .i64 k0) ∧ World.cell? y ⟨b, 1, none⟩ = some (.int .i64 k1) ∧ World.cell? y ⟨b, 2, none⟩ = some (.int .i64 k2) ∧ World.cell? y ⟨b, 3, none⟩ = some (.int .i64 k3) ∧ World.cell? y ⟨b, 4, none⟩ = some (.int .u32 k4)) := by
  have hl : b < x.heap.size := cell_lt h.1
  exact ⟨(hb.cell (p := ⟨b, 0, none⟩) hl).trans h.1, (hb.cell (p := ⟨b, 1, none⟩) hl).trans h.2.1, (hb.cell (p := ⟨b, 2, none⟩) hl).trans h.2.2.1, (hb.cell (p := ⟨b, 3, none⟩) hl).trans h.2.2.2.1, (hb.cell (p := ⟨b, 4, none⟩) hl).trans h.2.2.2.2⟩
theorem ok5 {w x y : World} {b : Nat} {k0 k1 k2 k3 k4 : Int} (h : Below w.heap.size w x ∧ (World.cell? x ⟨b, 0, none⟩ = some (.int .i64 k0) ∧ World.cell? x ⟨b, 1, none⟩ = some (.int .i64 k1) ∧ World.cell? x ⟨b, 2, none⟩ = some (.int .i64 k2) ∧ World.cell? x ⟨b, 3, none⟩ = some (.int .i64 k3) ∧ World.cell? x ⟨b, 4, none⟩ = some (.int .u32 k4))) (hb : Below x.heap.size x y) : Below w.heap.size w y ∧ (World.cell? y ⟨b, 0, none⟩ = some (.int .i64 k0) ∧ World.cell? y ⟨b, 1, none⟩ = some (.int .i64 k1) ∧ World.cell? y ⟨b, 2, none⟩ = some (.int .i64 k2) ∧ World.cell? y ⟨b, 3, none⟩ = some (.int .i64 k3) ∧ World.cell? y ⟨b, 4, none⟩ = some (.int .u32 k4)) := ⟨h.1.trans (hb.mono h.1.size), obelow5 h.2 hb⟩
section
variable {s : Nat}
set_option maxRecDepth 100000 in
set_option maxHeartbeats 2000000 in
theorem oseen_live (k0 k1 k2 k3 k4 : Int) (w : World) (hv : ∀ W, Below w.heap.size w W → Calls Tryz.prog 70 #[(Value.agg #[.int .i64 k0, .int .i64 k1, .int .i64 k2, .int .i64 k3, .int .u32 k4])] W fun e w' => e = .returned .nilIface ∧ Below W.heap.size W w')
    (hl : ∀ W, Below w.heap.size w W → Calls Tryz.prog 21 #[.pointer (some ⟨s, 0, none⟩), (Value.agg #[.int .i64 k0, .int .i64 k1, .int .i64 k2, .int .i64 k3, .int .u32 k4])] W fun e w' => e = .returned (.bool true) ∧ Below W.heap.size W w') :
    Calls Tryz.prog 23 #[.pointer (some ⟨s, 0, none⟩), (Value.agg #[.int .i64 k0, .int .i64 k1, .int .i64 k2, .int .i64 k3, .int .u32 k4])] w fun e w' => e = .returned (Value.agg #[.int .i64 k0, .int .i64 k1, .int .i64 k2, .int .i64 k3, .int .u32 k4]) ∧ Below w.heap.size w w' := by
  have HV := Lib.hid hv
  have HL := Lib.hid hl
  clear hv hl
  go_enter Tryz.func23, Tryz.ntmps23
  go_upto_region 1 with fail
  generalize hA : World.alloc w _ = wK
  obtain ⟨K, hK⟩ : ∃ K, K = w.heap.size := ⟨_, rfl⟩
  have HK : Hid (Below w.heap.size w wK ∧ KeyC wK K k0 k1 k2 k3 k4 ∧ wK.heap.size = K + 1 ∧ w.heap.size ≤ K + 1) := Lib.hid (by rw [← hA, hK]; exact ⟨(Below.refl _ _).alloc (Nat.le_refl _) _, KeyC.new w k0 k1 k2 k3 k4 _, by simp, Nat.le_succ _⟩)
  rw [← hK]
  clear hA hK
  generalize hA : World.alloc wK _ = wA
  obtain ⟨R, hR⟩ : ∃ R, R = K + 1 := ⟨_, rfl⟩
  have HA : Hid (Below w.heap.size w wA ∧ KeyC wA K k0 k1 k2 k3 k4 ∧ KeyC wA R 0 0 0 0 0 ∧ w.heap.size ≤ R) := Lib.hid (by rw [← hA, hR, ← HK.out.2.2.1]; exact ⟨HK.out.1.alloc HK.out.1.size _, HK.out.2.1.below ((Below.refl _ _).alloc (Nat.le_refl _) _), KeyC.new wK 0 0 0 0 0 _, HK.out.1.size⟩)
  rw [← hR]
  clear hA hR
  have q0 := HA.out.2.1.c0; have q1 := HA.out.2.1.c1; have q2 := HA.out.2.1.c2; have q3 := HA.out.2.1.c3; have q4 := HA.out.2.1.c4
  go_wp2_with (first
    | (go_at_call 70; (with_reducible refine (HV.out _ HA.out.1).mono ?_); rintro e w1 ⟨rfl, hb⟩; have H1 : Hid (Below w.heap.size w w1 ∧ KeyC w1 K k0 k1 k2 k3 k4 ∧ KeyC w1 R 0 0 0 0 0) := Lib.hid ⟨HA.out.1.trans (hb.mono HA.out.1.size), HA.out.2.1.below hb, HA.out.2.2.1.below hb⟩; clear hb q0 q1 q2 q3 q4; have q0 := H1.out.2.1.c0; have q1 := H1.out.2.1.c1; have q2 := H1.out.2.1.c2; have q3 := H1.out.2.1.c3; have q4 := H1.out.2.1.c4)
    | (go_at_call 21; (with_reducible refine (HL.out _ H1.out.1).mono ?_); rintro e w2 ⟨rfl, hb⟩; have H2 : Hid (Below w.heap.size w w2 ∧ KeyC w2 K k0 k1 k2 k3 k4 ∧ KeyC w2 R 0 0 0 0 0) := Lib.hid ⟨H1.out.1.trans (hb.mono H1.out.1.size), H1.out.2.1.below hb, H1.out.2.2.below hb⟩; clear hb q0 q1 q2 q3 q4; have q0 := H2.out.2.1.c0; have q1 := H2.out.2.1.c1; have q2 := H2.out.2.1.c2; have q3 := H2.out.2.1.c3; have q4 := H2.out.2.1.c4; have z0 := H2.out.2.2.c0; have z1 := H2.out.2.2.c1; have z2 := H2.out.2.2.c2; have z3 := H2.out.2.2.c3; have z4 := H2.out.2.2.c4; have f0 := H2.out.2.2.fr 0; have f1 := H2.out.2.2.fr 1; have f2 := H2.out.2.2.fr 2; have f3 := H2.out.2.2.fr 3; have f4 := H2.out.2.2.fr 4))
  have t := H2.out.2.2.set k0 k1 k2 k3 k4
  have t0 := t.c0
  have t1 := t.c1
  have t2 := t.c2
  have t3 := t.c3
  have t4 := t.c4
  refine bodyPost_ret (v := (Value.agg #[.int .i64 k0, .int .i64 k1, .int .i64 k2, .int .i64 k3, .int .u32 k4])) (by simp [results, Tryz.results23, go_sem, t0, t1, t2, t3, t4]) rfl ⟨rfl, ?_⟩
  have hR := HA.out.2.2.2
  exact ((((H2.out.1.setCell hR _).setCell hR _).setCell hR _).setCell hR _).setCell hR _
set_option maxRecDepth 100000 in
set_option maxHeartbeats 2000000 in
theorem oseen_dead (k0 k1 k2 k3 k4 : Int) (w : World) (hv : ∀ W, Below w.heap.size w W → Calls Tryz.prog 70 #[(Value.agg #[.int .i64 k0, .int .i64 k1, .int .i64 k2, .int .i64 k3, .int .u32 k4])] W fun e w' => e = .returned .nilIface ∧ Below W.heap.size W w')
    (hl : ∀ W, Below w.heap.size w W → Calls Tryz.prog 21 #[.pointer (some ⟨s, 0, none⟩), (Value.agg #[.int .i64 k0, .int .i64 k1, .int .i64 k2, .int .i64 k3, .int .u32 k4])] W fun e w' => e = .returned (.bool false) ∧ Below W.heap.size W w') :
    Calls Tryz.prog 23 #[.pointer (some ⟨s, 0, none⟩), (Value.agg #[.int .i64 k0, .int .i64 k1, .int .i64 k2, .int .i64 k3, .int .u32 k4])] w fun e w' => e = .returned (Value.agg #[.int .i64 0, .int .i64 0, .int .i64 0, .int .i64 0, .int .u32 0]) ∧ Below w.heap.size w w' := by
  have HV := Lib.hid hv
  have HL := Lib.hid hl
  clear hv hl
  go_enter Tryz.func23, Tryz.ntmps23
  go_upto_region 1 with fail
  generalize hA : World.alloc w _ = wK
  obtain ⟨K, hK⟩ : ∃ K, K = w.heap.size := ⟨_, rfl⟩
  have HK : Hid (Below w.heap.size w wK ∧ KeyC wK K k0 k1 k2 k3 k4 ∧ wK.heap.size = K + 1 ∧ w.heap.size ≤ K + 1) := Lib.hid (by rw [← hA, hK]; exact ⟨(Below.refl _ _).alloc (Nat.le_refl _) _, KeyC.new w k0 k1 k2 k3 k4 _, by simp, Nat.le_succ _⟩)
  rw [← hK]
  clear hA hK
  generalize hA : World.alloc wK _ = wA
  obtain ⟨R, hR⟩ : ∃ R, R = K + 1 := ⟨_, rfl⟩
  have HA : Hid (Below w.heap.size w wA ∧ KeyC wA K k0 k1 k2 k3 k4 ∧ KeyC wA R 0 0 0 0 0 ∧ w.heap.size ≤ R) := Lib.hid (by rw [← hA, hR, ← HK.out.2.2.1]; exact ⟨HK.out.1.alloc HK.out.1.size _, HK.out.2.1.below ((Below.refl _ _).alloc (Nat.le_refl _) _), KeyC.new wK 0 0 0 0 0 _, HK.out.1.size⟩)
  rw [← hR]
  clear hA hR
  have q0 := HA.out.2.1.c0; have q1 := HA.out.2.1.c1; have q2 := HA.out.2.1.c2; have q3 := HA.out.2.1.c3; have q4 := HA.out.2.1.c4
  go_wp2_with (first
    | (go_at_call 70; (with_reducible refine (HV.out _ HA.out.1).mono ?_); rintro e w1 ⟨rfl, hb⟩; have H1 : Hid (Below w.heap.size w w1 ∧ KeyC w1 K k0 k1 k2 k3 k4 ∧ KeyC w1 R 0 0 0 0 0) := Lib.hid ⟨HA.out.1.trans (hb.mono HA.out.1.size), HA.out.2.1.below hb, HA.out.2.2.1.below hb⟩; clear hb q0 q1 q2 q3 q4; have q0 := H1.out.2.1.c0; have q1 := H1.out.2.1.c1; have q2 := H1.out.2.1.c2; have q3 := H1.out.2.1.c3; have q4 := H1.out.2.1.c4)
    | (go_at_call 21; (with_reducible refine (HL.out _ H1.out.1).mono ?_); rintro e w2 ⟨rfl, hb⟩; have H2 : Hid (Below w.heap.size w w2 ∧ KeyC w2 K k0 k1 k2 k3 k4 ∧ KeyC w2 R 0 0 0 0 0) := Lib.hid ⟨H1.out.1.trans (hb.mono H1.out.1.size), H1.out.2.1.below hb, H1.out.2.2.below hb⟩; clear hb q0 q1 q2 q3 q4; have q0 := H2.out.2.1.c0; have q1 := H2.out.2.1.c1; have q2 := H2.out.2.1.c2; have q3 := H2.out.2.1.c3; have q4 := H2.out.2.1.c4; have z0 := H2.out.2.2.c0; have z1 := H2.out.2.2.c1; have z2 := H2.out.2.2.c2; have z3 := H2.out.2.2.c3; have z4 := H2.out.2.2.c4; have f0 := H2.out.2.2.fr 0; have f1 := H2.out.2.2.fr 1; have f2 := H2.out.2.2.fr 2; have f3 := H2.out.2.2.fr 3; have f4 := H2.out.2.2.fr 4))
  have t := H2.out.2.2.set 0 0 0 0 0
  have t0 := t.c0
  have t1 := t.c1
  have t2 := t.c2
  have t3 := t.c3
  have t4 := t.c4
  refine bodyPost_ret (v := Value.agg #[.int .i64 0, .int .i64 0, .int .i64 0, .int .i64 0, .int .u32 0]) (by simp [results, Tryz.results23, go_sem, t0, t1, t2, t3, t4]) rfl ⟨rfl, ?_⟩
  have hR := HA.out.2.2.2
  exact ((((H2.out.1.setCell hR _).setCell hR _).setCell hR _).setCell hR _).setCell hR _
end
end Go.Proofs.YtncopdhhchmpeaaGreatDoor
namespace Go.Proofs.YtncopdhhchmpeaaGreatDoor
open Go.ChangeShapes Go.WideShapes Go.ChangeAt Go.RowKit
set_option linter.unusedVariables false
set_option linter.unusedSimpArgs false
section
variable {s m d t b f q : Nat} {st : Int}
set_option maxRecDepth 100000 in
set_option maxHeartbeats 4000000 in
theorem slive_meter (k1 k2 k3 k4 : Int) (dp dR n c base : Nat) (th : Nat → Bool) (vr : Nat → Int) (r : Bool) (hr : Hid ((thereB n th k1 && (vr k1.toNat == k2)) = r)) (w : World) (hB : SyB w s m d t b f q st) (hP : w.cell? ⟨t, 0, none⟩ = some (.pointer (some ⟨dp, 0, none⟩))) (hA : ArAt w base dp dR n c th vr) :
    Calls Tryz.prog 21 #[.pointer (some ⟨s, 0, none⟩), .agg #[.int .i64 7, .int .i64 k1, .int .i64 k2, .int .i64 k3, .int .u32 k4]] w fun e w' => e = .returned (.bool r) ∧ Below w.heap.size w w' := by
  have HA := Lib.hid (fun W (hW : Below w.heap.size w W) => alive_is k1 k2 r hr W (hA.below hW))
  have HB := Lib.hid hB
  have HP := Lib.hid hP
  have hdl : t < w.heap.size := cell_lt hP
  clear hA hB hP
  go_enter Tryz.func21, Tryz.ntmps21
  go_upto_region 1 with fail
  generalize hA : World.alloc w _ = wA
  obtain ⟨K, hK⟩ : ∃ K, K = w.heap.size := ⟨_, rfl⟩
  have HBa : Hid (Below w.heap.size w wA) := Lib.hid (by rw [← hA]; exact (Below.refl _ _).alloc (Nat.le_refl _) _)
  have kc0 : wA.cell? ⟨K, 0, none⟩ = some (.int .i64 7) := by rw [← hA, hK]; simp
  have kc1 : wA.cell? ⟨K, 1, none⟩ = some (.int .i64 k1) := by rw [← hA, hK]; simp
  have kc2 : wA.cell? ⟨K, 2, none⟩ = some (.int .i64 k2) := by rw [← hA, hK]; simp
  have sc := ((HB.out.below HBa.out).c2)
  have pc := (HBa.out.cell (p := ⟨t, 0, none⟩) hdl).trans HP.out
  rw [← hK]
  clear hA hK hdl
  go_wp2_with fail
  have HA9 := Lib.hid (fun n => HA.out (wA.drewN n) (below_drewN HBa.out n))
  go_quiet ((go_at_call 67; exact kquiet_left (HA9.out _)))
  go_wp2_with fail
  go_ret
  exact ⟨rfl, below_drewN HBa.out _⟩
set_option maxRecDepth 100000 in
set_option maxHeartbeats 4000000 in
theorem slive_bank (k1 k2 k3 k4 : Int) (dp dR n c base : Nat) (th : Nat → Bool) (vr : Nat → Int) (r : Bool) (hr : Hid ((thereB n th k1 && (vr k1.toNat == k2)) = r)) (w : World) (hB : SyB w s m d t b f q st) (hP : w.cell? ⟨b, 0, none⟩ = some (.pointer (some ⟨dp, 0, none⟩))) (hA : ArAt w base dp dR n c th vr) :
    Calls Tryz.prog 21 #[.pointer (some ⟨s, 0, none⟩), .agg #[.int .i64 8, .int .i64 k1, .int .i64 k2, .int .i64 k3, .int .u32 k4]] w fun e w' => e = .returned (.bool r) ∧ Below w.heap.size w w' := by
  have HA := Lib.hid (fun W (hW : Below w.heap.size w W) => alive_is k1 k2 r hr W (hA.below hW))
  have HB := Lib.hid hB
  have HP := Lib.hid hP
  have hdl : b < w.heap.size := cell_lt hP
  clear hA hB hP
  go_enter Tryz.func21, Tryz.ntmps21
  go_upto_region 1 with fail
  generalize hA : World.alloc w _ = wA
  obtain ⟨K, hK⟩ : ∃ K, K = w.heap.size := ⟨_, rfl⟩
  have HBa : Hid (Below w.heap.size w wA) := Lib.hid (by rw [← hA]; exact (Below.refl _ _).alloc (Nat.le_refl _) _)
  have kc0 : wA.cell? ⟨K, 0, none⟩ = some (.int .i64 8) := by rw [← hA, hK]; simp
  have kc1 : wA.cell? ⟨K, 1, none⟩ = some (.int .i64 k1) := by rw [← hA, hK]; simp
  have kc2 : wA.cell? ⟨K, 2, none⟩ = some (.int .i64 k2) := by rw [← hA, hK]; simp
  have sc := ((HB.out.below HBa.out).c3)
  have pc := (HBa.out.cell (p := ⟨b, 0, none⟩) hdl).trans HP.out
  rw [← hK]
  clear hA hK hdl
  go_wp2_with fail
  have HA9 := Lib.hid (fun n => HA.out (wA.drewN n) (below_drewN HBa.out n))
  go_quiet ((go_at_call 67; exact kquiet_left (HA9.out _)))
  go_wp2_with fail
  go_ret
  exact ⟨rfl, below_drewN HBa.out _⟩
set_option maxRecDepth 100000 in
set_option maxHeartbeats 2000000 in
theorem oiflive_yes (k0 k1 k2 k3 k4 : Int) (w : World) (hl : ∀ W, Below w.heap.size w W → Calls Tryz.prog 21 #[.pointer (some ⟨s, 0, none⟩), (Value.agg #[.int .i64 k0, .int .i64 k1, .int .i64 k2, .int .i64 k3, .int .u32 k4])] W fun e w' => e = .returned (.bool true) ∧ Below W.heap.size W w') :
    Calls Tryz.prog 57 #[.pointer (some ⟨s, 0, none⟩), (Value.agg #[.int .i64 k0, .int .i64 k1, .int .i64 k2, .int .i64 k3, .int .u32 k4])] w fun e w' => e = .returned (Value.agg #[.int .i64 k0, .int .i64 k1, .int .i64 k2, .int .i64 k3, .int .u32 k4]) ∧ Below w.heap.size w w' := by
  have HL := Lib.hid hl
  clear hl
  go_enter Tryz.func57, Tryz.ntmps57
  go_upto_region 1 with fail
  generalize hA : World.alloc w _ = wK
  obtain ⟨K, hK⟩ : ∃ K, K = w.heap.size := ⟨_, rfl⟩
  have HK : Hid (Below w.heap.size w wK ∧ KeyC wK K k0 k1 k2 k3 k4 ∧ wK.heap.size = K + 1 ∧ w.heap.size ≤ K + 1) := Lib.hid (by rw [← hA, hK]; exact ⟨(Below.refl _ _).alloc (Nat.le_refl _) _, KeyC.new w k0 k1 k2 k3 k4 _, by simp, Nat.le_succ _⟩)
  rw [← hK]
  clear hA hK
  generalize hA : World.alloc wK _ = wA
  obtain ⟨R, hR⟩ : ∃ R, R = K + 1 := ⟨_, rfl⟩
  have HA : Hid (Below w.heap.size w wA ∧ KeyC wA K k0 k1 k2 k3 k4 ∧ KeyC wA R 0 0 0 0 0 ∧ w.heap.size ≤ R) := Lib.hid (by rw [← hA, hR, ← HK.out.2.2.1]; exact ⟨HK.out.1.alloc HK.out.1.size _, HK.out.2.1.below ((Below.refl _ _).alloc (Nat.le_refl _) _), KeyC.new wK 0 0 0 0 0 _, HK.out.1.size⟩)
  rw [← hR]
  clear hA hR
  have q0 := HA.out.2.1.c0; have q1 := HA.out.2.1.c1; have q2 := HA.out.2.1.c2; have q3 := HA.out.2.1.c3; have q4 := HA.out.2.1.c4
  go_wp2_with (first
    | (go_at_call 21; (with_reducible refine (HL.out _ HA.out.1).mono ?_); rintro e w2 ⟨rfl, hb⟩; have H2 : Hid (Below w.heap.size w w2 ∧ KeyC w2 K k0 k1 k2 k3 k4 ∧ KeyC w2 R 0 0 0 0 0) := Lib.hid ⟨HA.out.1.trans (hb.mono HA.out.1.size), HA.out.2.1.below hb, HA.out.2.2.1.below hb⟩; clear hb q0 q1 q2 q3 q4; have q0 := H2.out.2.1.c0; have q1 := H2.out.2.1.c1; have q2 := H2.out.2.1.c2; have q3 := H2.out.2.1.c3; have q4 := H2.out.2.1.c4; have z0 := H2.out.2.2.c0; have z1 := H2.out.2.2.c1; have z2 := H2.out.2.2.c2; have z3 := H2.out.2.2.c3; have z4 := H2.out.2.2.c4; have f0 := H2.out.2.2.fr 0; have f1 := H2.out.2.2.fr 1; have f2 := H2.out.2.2.fr 2; have f3 := H2.out.2.2.fr 3; have f4 := H2.out.2.2.fr 4))
  have t := H2.out.2.2.set k0 k1 k2 k3 k4
  have t0 := t.c0
  have t1 := t.c1
  have t2 := t.c2
  have t3 := t.c3
  have t4 := t.c4
  refine bodyPost_ret (v := (Value.agg #[.int .i64 k0, .int .i64 k1, .int .i64 k2, .int .i64 k3, .int .u32 k4])) (by simp [results, Tryz.results57, go_sem, t0, t1, t2, t3, t4]) rfl ⟨rfl, ?_⟩
  have hR := HA.out.2.2.2
  exact ((((H2.out.1.setCell hR _).setCell hR _).setCell hR _).setCell hR _).setCell hR _
set_option maxRecDepth 100000 in
set_option maxHeartbeats 4000000 in
theorem skey_meter (x v : Int) (p0 : Nat) (w : World) (hB : SyB w s m d t b f q st) (hP : w.cell? ⟨t, 0, none⟩ = some (.pointer (some ⟨p0, 0, none⟩)))
    (hV : ∀ W, Below w.heap.size w W → Calls Tryz.prog 58 #[.pointer (some ⟨p0, 0, none⟩), .int .i64 x] W fun e w' => e = .returned (.int .i64 v) ∧ W = w')
    (hL : ∀ W, Below w.heap.size w W → Calls Tryz.prog 21 #[.pointer (some ⟨s, 0, none⟩), .agg #[.int .i64 7, .int .i64 x, .int .i64 v, .int .i64 0, .int .u32 0]] W fun e w' => e = .returned (.bool true) ∧ Below W.heap.size W w') :
    Calls Tryz.prog 16 #[.pointer (some ⟨s, 0, none⟩), .int .i64 7, .int .i64 x] w fun e w' => e = .returned (.agg #[.int .i64 7, .int .i64 x, .int .i64 v, .int .i64 0, .int .u32 0]) ∧ Below w.heap.size w w' := by
  have HV := Lib.hid hV
  have HL := Lib.hid hL
  have HB := Lib.hid hB
  have HP := Lib.hid (⟨cell_lt hP, hP⟩ : t < w.heap.size ∧ w.cell? ⟨t, 0, none⟩ = some (.pointer (some ⟨p0, 0, none⟩)))
  clear hV hL hB hP
  go_enter Tryz.func16, Tryz.ntmps16
  go_upto_region 1 with fail
  generalize hA : World.alloc w _ = wA
  obtain ⟨K, hK⟩ : ∃ K, K = w.heap.size := ⟨_, rfl⟩
  have HBa : Hid (Below w.heap.size w wA) := Lib.hid (by rw [← hA]; exact (Below.refl _ _).alloc (Nat.le_refl _) _)
  have HK0 : Hid (KeyC wA K 0 0 0 0 0) := Lib.hid (by rw [← hA, hK]; exact KeyC.new w 0 0 0 0 0 _)
  have HKl : Hid (w.heap.size ≤ K) := Lib.hid (by rw [hK]; exact Nat.le_refl _)
  have sc := ((HB.out.below HBa.out).c2)
  have pc := (HBa.out.cell (p := ⟨t, 0, none⟩) HP.out.1).trans HP.out.2
  rw [← hK]
  clear hA hK
  go_wp2_with (first
    | (go_at_call 58; (with_reducible refine (HV.out _ HBa.out).mono ?_); rintro e w1 ⟨rfl, rfl⟩)
    | (go_at_call 57; (with_reducible refine (oiflive_yes 7 x v 0 0 _ (fun W hW => HL.out W (HBa.out.trans (hW.mono HBa.out.size)))).mono ?_); rintro e w1 ⟨rfl, hb⟩; have HB1 := Lib.hid (HBa.out.trans (hb.mono HBa.out.size)); have HK1 := Lib.hid (HK0.out.below hb); clear hb; have z0 := HK1.out.c0; have z1 := HK1.out.c1; have z2 := HK1.out.c2; have z3 := HK1.out.c3; have z4 := HK1.out.c4; have f0 := HK1.out.fr 0; have f1 := HK1.out.fr 1; have f2 := HK1.out.fr 2; have f3 := HK1.out.fr 3; have f4 := HK1.out.fr 4))
  have t := HK1.out.set 7 x v 0 0
  have t0 := t.c0
  have t1 := t.c1
  have t2 := t.c2
  have t3 := t.c3
  have t4 := t.c4
  refine bodyPost_ret (v := .agg #[.int .i64 7, .int .i64 x, .int .i64 v, .int .i64 0, .int .u32 0]) (by simp [results, Tryz.results16, go_sem, t0, t1, t2, t3, t4]) rfl ⟨rfl, ?_⟩
  exact ((((HB1.out.setCell HKl.out _).setCell HKl.out _).setCell HKl.out _).setCell HKl.out _).setCell HKl.out _
set_option maxRecDepth 100000 in
set_option maxHeartbeats 4000000 in
theorem skey_bank (x v : Int) (p0 : Nat) (w : World) (hB : SyB w s m d t b f q st) (hP : w.cell? ⟨b, 0, none⟩ = some (.pointer (some ⟨p0, 0, none⟩)))
    (hV : ∀ W, Below w.heap.size w W → Calls Tryz.prog 58 #[.pointer (some ⟨p0, 0, none⟩), .int .i64 x] W fun e w' => e = .returned (.int .i64 v) ∧ W = w')
    (hL : ∀ W, Below w.heap.size w W → Calls Tryz.prog 21 #[.pointer (some ⟨s, 0, none⟩), .agg #[.int .i64 8, .int .i64 x, .int .i64 v, .int .i64 0, .int .u32 0]] W fun e w' => e = .returned (.bool true) ∧ Below W.heap.size W w') :
    Calls Tryz.prog 16 #[.pointer (some ⟨s, 0, none⟩), .int .i64 8, .int .i64 x] w fun e w' => e = .returned (.agg #[.int .i64 8, .int .i64 x, .int .i64 v, .int .i64 0, .int .u32 0]) ∧ Below w.heap.size w w' := by
  have HV := Lib.hid hV
  have HL := Lib.hid hL
  have HB := Lib.hid hB
  have HP := Lib.hid (⟨cell_lt hP, hP⟩ : b < w.heap.size ∧ w.cell? ⟨b, 0, none⟩ = some (.pointer (some ⟨p0, 0, none⟩)))
  clear hV hL hB hP
  go_enter Tryz.func16, Tryz.ntmps16
  go_upto_region 1 with fail
  generalize hA : World.alloc w _ = wA
  obtain ⟨K, hK⟩ : ∃ K, K = w.heap.size := ⟨_, rfl⟩
  have HBa : Hid (Below w.heap.size w wA) := Lib.hid (by rw [← hA]; exact (Below.refl _ _).alloc (Nat.le_refl _) _)
  have HK0 : Hid (KeyC wA K 0 0 0 0 0) := Lib.hid (by rw [← hA, hK]; exact KeyC.new w 0 0 0 0 0 _)
  have HKl : Hid (w.heap.size ≤ K) := Lib.hid (by rw [hK]; exact Nat.le_refl _)
  have sc := ((HB.out.below HBa.out).c3)
  have pc := (HBa.out.cell (p := ⟨b, 0, none⟩) HP.out.1).trans HP.out.2
  rw [← hK]
  clear hA hK
  go_wp2_with (first
    | (go_at_call 58; (with_reducible refine (HV.out _ HBa.out).mono ?_); rintro e w1 ⟨rfl, rfl⟩)
    | (go_at_call 57; (with_reducible refine (oiflive_yes 8 x v 0 0 _ (fun W hW => HL.out W (HBa.out.trans (hW.mono HBa.out.size)))).mono ?_); rintro e w1 ⟨rfl, hb⟩; have HB1 := Lib.hid (HBa.out.trans (hb.mono HBa.out.size)); have HK1 := Lib.hid (HK0.out.below hb); clear hb; have z0 := HK1.out.c0; have z1 := HK1.out.c1; have z2 := HK1.out.c2; have z3 := HK1.out.c3; have z4 := HK1.out.c4; have f0 := HK1.out.fr 0; have f1 := HK1.out.fr 1; have f2 := HK1.out.fr 2; have f3 := HK1.out.fr 3; have f4 := HK1.out.fr 4))
  have t := HK1.out.set 8 x v 0 0
  have t0 := t.c0
  have t1 := t.c1
  have t2 := t.c2
  have t3 := t.c3
  have t4 := t.c4
  refine bodyPost_ret (v := .agg #[.int .i64 8, .int .i64 x, .int .i64 v, .int .i64 0, .int .u32 0]) (by simp [results, Tryz.results16, go_sem, t0, t1, t2, t3, t4]) rfl ⟨rfl, ?_⟩
  exact ((((HB1.out.setCell HKl.out _).setCell HKl.out _).setCell HKl.out _).setCell HKl.out _).setCell HKl.out _
end
end Go.Proofs.YtncopdhhchmpeaaGreatDoor
namespace Go.Proofs.YtncopdhhchmpeaaGreatDoor
open Go.ChangeShapes Go.WideShapes Go.ChangeAt Go.RowKit
set_option linter.unusedVariables false
theorem own_sl {w : World} {B E s n : Nat} {v : Value} {xs : List Value} (h : w.ownsRow B E s v n xs) (hn : 0 < n) : ∃ g c, v = .slice (some ⟨g, 0, none⟩) n c := by
  rcases h.2 with ⟨_, h0⟩ | ⟨g, cap, cur, rfl, _⟩
  · omega
  · exact ⟨g, cap, rfl⟩
theorem chain_sl {base P p B G n c : Nat} {th : Nat → Bool} {vr pr tk : Nat → Int} (j : Nat) (hj : j < n) (hth : Hid (∀ i, i ≤ j → th i = true)) (hpr : Hid (∀ i, i ≤ j → pr i = (i : Int) - 1)) (w : World) (h : MtAt w base P p B G n c th vr pr tk) :
    Calls Tryz.prog 64 #[.pointer (some ⟨P, 0, none⟩), .int .i64 j] w fun e w' => ∃ g c', e = .returned (.slice (some ⟨g, 0, none⟩) (j + 1) c') ∧ w'.ownsRow w.heap.size 3 1 (.slice (some ⟨g, 0, none⟩) (j + 1) c') (j + 1) ((dn j (j + 1)).map (Value.int .i64)) ∧ Below w.heap.size w w' := by
  refine (chain_is j hj hth hpr w h).mono fun e w' ⟨v, he, hr, hb⟩ => ?_
  obtain ⟨g, c', rfl⟩ := own_sl hr (by omega)
  exact ⟨g, c', he, hr, hb⟩
set_option maxRecDepth 100000 in
theorem mmake_zero {base P p B G n c : Nat} {th : Nat → Bool} {vr pr tk : Nat → Int} (tkx : Int) (t0 : 0 ≤ tkx) (t1 : tkx ≤ 1000) (hn0 : 0 < n) (hyes : Hid (freeB th vr 0 = true)) (v : Int) (hv : Hid (vr 0 = v)) (w : World) (h : MtAt w base P p B G n c th vr pr tk) :
    Calls Tryz.prog 19 #[.pointer (some ⟨P, 0, none⟩), .int .i64 (-1), .int .i64 tkx] w fun e w' => e = .returned (.tuple #[.int .i64 0, .int .i64 v, .nilIface]) ∧ MtAt w' base P p B G n c (upd th 0 true) vr (upd pr 0 (-1)) (upd tk 0 tkx) ∧ PBelow w w' B G := by
  have H := Lib.hid h
  have f0 := h.f0
  have hn := h.ar.le
  have d1 : decide (tkx < 0) = false := decide_eq_false (by omega)
  have d2 : decide (2147483647 < tkx) = false := decide_eq_false (by omega)
  clear h
  go_enter Tryz.func19, Tryz.ntmps19
  go_wp2_with (first
    | (go_at_call 64; (with_reducible refine (chain_none _ H.out).mono ?_); rintro e w1 ⟨rfl, rfl⟩)
    | (go_at_call 65; (with_reducible refine (atake_at 0 _ H.out.ar 0 (Lib.hid rfl) hn0 hyes (Lib.hid (by intro i hi; omega)) v hv).mono ?_); rintro e w2 ⟨rfl, hA, hg⟩; have H2 := Lib.hid (H.out.turn hA hg); have HB2 := Lib.hid (PBelow.of (G := G) hg (.inl rfl)); have f1 := H2.out.f1; have c0 := H2.out.at0 0 hn0; have c1 := H2.out.at1 0 hn0; have z0 := H2.out.row.frozenAt 0; have z1 := H2.out.row.frozenAt 1; have H3 := Lib.hid (H2.out.put0 0 hn0 (-1)); have H4 := Lib.hid (H3.out.1.put1 0 hn0 tkx); clear hA hg f0))
  go_ret3
  exact ⟨rfl, H4.out.1, (HB2.out.trans (PBelow.of H3.out.2 (.inr rfl))).trans (PBelow.of H4.out.2 (.inr rfl))⟩
set_option maxRecDepth 100000 in
theorem mmake_next {base P p B G n c : Nat} {th : Nat → Bool} {vr pr tk : Nat → Int} (j i : Nat) (hi : i = j + 1) (hj7 : j ≤ 6) (tkx : Int) (t0 : 0 ≤ tkx) (t1 : tkx ≤ 1000) (hin : i < n) (hth : Hid (∀ q, q ≤ j → th q = true)) (hpr : Hid (∀ q, q ≤ j → pr q = (q : Int) - 1)) (hyes : Hid (freeB th vr i = true)) (hno : Hid (∀ q, q < i → freeB th vr q = false)) (v : Int) (hv : Hid (vr i = v)) (w : World) (h : MtAt w base P p B G n c th vr pr tk) :
    Calls Tryz.prog 19 #[.pointer (some ⟨P, 0, none⟩), .int .i64 j, .int .i64 tkx] w fun e w' => e = .returned (.tuple #[.int .i64 i, .int .i64 v, .nilIface]) ∧ MtAt w' base P p B G n c (upd th i true) vr (upd pr i j) (upd tk i tkx) ∧ PBelow w w' B G := by
  have H := Lib.hid h
  have f0 := h.f0
  have hn := h.ar.le
  have HT := Lib.hid (hth.out j (by omega))
  have d1 : decide (tkx < 0) = false := decide_eq_false (by omega)
  have d2 : decide (2147483647 < tkx) = false := decide_eq_false (by omega)
  have d3 : ((j : Int) != -1) = true := bne_iff_ne.2 (by omega)
  have HI := Lib.hid hi
  have hjn : j < n := by omega
  have k0 : (0 : Int) ≤ i := by omega
  have k1 : (i : Int) < n := by omega
  clear h hi
  go_enter Tryz.func19, Tryz.ntmps19
  go_wp2_with (first
    | (go_at_call 63; (with_reducible refine (athere_in j hjn true HT _ H.out.ar).mono ?_); rintro e w1 ⟨rfl, rfl⟩)
    | (go_at_call 64; (with_reducible refine (chain_sl j hjn hth hpr _ H.out).mono ?_); rintro e w1 ⟨g, c', rfl, hr, hb⟩; have H1 := Lib.hid (H.out.below hb); have HB1 := Lib.hid (PBelow.of_below (B := B) (G := G) hb); clear f0; have f0 := H1.out.f0; clear hr hb)
    | (go_at_call 65; (with_reducible refine (atake_ok _ H1.out.ar i hin hyes hno v hv).mono ?_); rintro e w2 ⟨rfl, hA, hg⟩; have H2 := Lib.hid (H1.out.turn hA hg); have HB2 := Lib.hid (HB1.out.trans (PBelow.of (G := G) hg (.inl rfl))); have f1 := H2.out.f1; have c0 := H2.out.at0 i hin; have c1 := H2.out.at1 i hin; have z0 := H2.out.row.frozenAt (i * 2); have z1 := H2.out.row.frozenAt (i * 2 + 1); have H3 := Lib.hid (H2.out.put0 i hin j); have H4 := Lib.hid (H3.out.1.put1 i hin tkx); clear hA hg f0))
  go_ret3
  exact ⟨rfl, H4.out.1, (HB2.out.trans (PBelow.of H3.out.2 (.inr rfl))).trans (PBelow.of H4.out.2 (.inr rfl))⟩
/-- q of the chain charged. -/
def decq (tk : Nat → Int) (j q : Nat) : Nat → Int := fun i => if j < i + q ∧ i ≤ j then tk i - 1 else tk i
theorem decq_zero (tk : Nat → Int) (j : Nat) : decq tk j 0 = tk := by
  funext i
  unfold decq
  rw [if_neg (by omega)]
theorem decq_next (tk : Nat → Int) (j q r : Nat) (hr : r + q = j) : upd (decq tk j q) r (tk r - 1) = decq tk j (q + 1) := by
  funext i
  unfold upd decq
  by_cases e : i = r
  · subst e
    rw [if_pos rfl, if_pos (by omega)]
  · rw [if_neg e]
    by_cases h : j < i + q ∧ i ≤ j
    · rw [if_pos h, if_pos (by omega)]
    · rw [if_neg h, if_neg (by omega)]
set_option maxRecDepth 100000 in
set_option maxHeartbeats 2000000 in
theorem mcharge_ok {base P p B G n c : Nat} {th : Nat → Bool} {vr pr tk : Nat → Int} (j : Nat) (hjn : j < n) (hth : Hid (∀ q, q ≤ j → th q = true)) (hpr : Hid (∀ q, q ≤ j → pr q = (q : Int) - 1)) (htk : Hid (∀ q, q ≤ j → 1 ≤ tk q ∧ tk q ≤ 1000)) (w : World) (h : MtAt w base P p B G n c th vr pr tk) :
    Calls Tryz.prog 45 #[.pointer (some ⟨P, 0, none⟩), .int .i64 j, .int .i64 1] w fun e w' => e = .returned (.tuple #[.int .i64 0, .bool true]) ∧ MtAt w' base P p B G n c th vr pr (decq tk j (j + 1)) ∧ PBelow w w' B G := by
  have H := Lib.hid h
  have hn := h.ar.le
  clear h
  go_enter Tryz.func45, Tryz.ntmps45
  go_wp2_with (first
    | (go_at_call 64; (with_reducible refine (chain_sl j hjn hth hpr _ H.out).mono ?_); rintro e w1 ⟨g, c', rfl, hr, hb⟩; have H1 := Lib.hid (H.out.below hb); have HB1 := Lib.hid (PBelow.of_below (B := B) (G := G) hb); have HR := Lib.hid hr; have hgG : g ≠ G := (by have := (hr.lt g rfl).1; have := (H.out.row.lt G rfl).2; omega); clear hr hb))
  go_loop [25] (fun i => ∃ q : Nat, q ≤ j + 1 ∧ i = .int .i64 q) (fun i => j + 1 - (intOf i).toNat)
  case atStart => exact ⟨0, by omega, rfl⟩
  case round =>
    obtain ⟨q, hq, rfl⟩ := hrel
    by_cases hlt : q < j + 1
    · obtain ⟨r, hr⟩ : ∃ r : Nat, (j : Int) - q = r := ⟨j - q, by omega⟩
      have hrj : r ≤ j := by omega
      have cc : w1.cell? ⟨g, q, none⟩ = some (.int .i64 r) := by
        rw [HR.out.cellAt q (by omega), List.getElem?_map, dn_at _ _ _ hlt, hr]
        rfl
      have f1 := H1.out.f1
      obtain ⟨x, HX⟩ : ∃ x, Hid (tk r = x) := ⟨_, Lib.hid rfl⟩
      have c1 := H1.out.at1 r (by omega)
      rw [HX.out] at c1
      have hx := htk.out r hrj
      rw [HX.out] at hx
      obtain ⟨hx1, hx2⟩ := hx
      have k0 : (0 : Int) ≤ q := by omega
      have k1 : (q : Int) < (j : Int) + 1 := by omega
      have k2 : (0 : Int) ≤ r := by omega
      have k3 : (r : Int) < n := by omega
      have hd : decide (x < 1) = false := decide_eq_false (by omega)
      go_wp2_with fail
      go_round
      case rel => exact ⟨q + 1, by omega, by go_num⟩
      case measure => simp [intOf]; omega
    · obtain rfl : q = j + 1 := by omega
      have HD : Hid (MtAt w1 base P p B G n c th vr pr (decq tk j 0) ∧ w1.ownsRow w.heap.size 3 1 (.slice (some ⟨g, 0, none⟩) (j + 1) c') (j + 1) ((dn j (j + 1)).map (Value.int .i64)) ∧ PBelow w w1 B G) := Lib.hid ⟨by rw [decq_zero]; exact H1.out, HR.out, HB1.out⟩
      go_wp2_with fail
      try rw [show (((j + 1 : Nat)) : Int) = (j : Int) + 1 by omega]
      go_loopw [43] (fun i wr => ∃ q : Nat, q ≤ j + 1 ∧ i = .int .i64 q ∧ MtAt wr base P p B G n c th vr pr (decq tk j q) ∧ wr.ownsRow w.heap.size 3 1 (.slice (some ⟨g, 0, none⟩) (j + 1) c') (j + 1) ((dn j (j + 1)).map (Value.int .i64)) ∧ PBelow w wr B G) (fun i _ => j + 1 - (intOf i).toNat)
      case atStart => exact ⟨0, by omega, rfl, HD.out⟩
      case round =>
        obtain ⟨q, hq2, rfl, hM, hR, hP⟩ := hrel
        have HM := Lib.hid hM
        have HR2 := Lib.hid hR
        have HP := Lib.hid hP
        clear hM hR hP
        by_cases hlt2 : q < j + 1
        · obtain ⟨r, hr⟩ : ∃ r : Nat, (j : Int) - q = r := ⟨j - q, by omega⟩
          have hrj : r ≤ j := by omega
          have cc : wr.cell? ⟨g, q, none⟩ = some (.int .i64 r) := by
            rw [HR2.out.cellAt q (by omega), List.getElem?_map, dn_at _ _ _ hlt2, hr]
            rfl
          have f1 := HM.out.f1
          obtain ⟨x, HX⟩ : ∃ x, Hid (tk r = x) := ⟨_, Lib.hid rfl⟩
          have c1 := HM.out.at1 r (by omega)
          have e1 : decq tk j q r = x := by
            unfold decq
            rw [if_neg (by omega), HX.out]
          rw [e1] at c1
          have z1 := HM.out.row.frozenAt (r * 2 + 1)
          have hx := htk.out r hrj
          rw [HX.out] at hx
          obtain ⟨hx1, hx2⟩ := hx
          have k0 : (0 : Int) ≤ q := by omega
          have k1 : (q : Int) < (j : Int) + 1 := by omega
          have k2 : (0 : Int) ≤ r := by omega
          have k3 : (r : Int) < n := by omega
          have HN := Lib.hid (HM.out.put1 r (by omega) (x - 1))
          have HE : Hid (upd (decq tk j q) r (x - 1) = decq tk j (q + 1)) := Lib.hid (by rw [← HX.out]; exact decq_next tk j q r (by omega))
          clear e1
          go_wp2_with fail
          go_roundw
          case rel => exact ⟨q + 1, by omega, by go_num, by rw [← HE.out]; exact HN.out.1, HR2.out.kept HN.out.2 (.inr (fun e => hgG (by simpa [Value.ownBlock] using e))), HP.out.trans (PBelow.of HN.out.2 (.inr rfl))⟩
          case measure => simp [intOf]; omega
        · obtain rfl : q = j + 1 := by omega
          go_wp2_with fail
          go_ret2
          exact ⟨rfl, HM.out, HP.out⟩
set_option maxRecDepth 100000 in
set_option maxHeartbeats 2000000 in
theorem mcharge_short {base P p B G n c : Nat} {th : Nat → Bool} {vr pr tk : Nat → Int} (j m : Nat) (hjn : j < n) (hmj : m ≤ j) (hth : Hid (∀ q, q ≤ j → th q = true)) (hpr : Hid (∀ q, q ≤ j → pr q = (q : Int) - 1)) (htk : Hid (∀ q, m < q → q ≤ j → 1 ≤ tk q)) (hm : Hid (tk m < 1)) (w : World) (h : MtAt w base P p B G n c th vr pr tk) :
    Calls Tryz.prog 45 #[.pointer (some ⟨P, 0, none⟩), .int .i64 j, .int .i64 1] w fun e w' => e = .returned (.tuple #[.int .i64 m, .bool false]) ∧ Below w.heap.size w w' := by
  have H := Lib.hid h
  have hn := h.ar.le
  clear h
  go_enter Tryz.func45, Tryz.ntmps45
  go_wp2_with (first
    | (go_at_call 64; (with_reducible refine (chain_sl j hjn hth hpr _ H.out).mono ?_); rintro e w1 ⟨g, c', rfl, hr, hb⟩; have H1 := Lib.hid (H.out.below hb); have HB1 := Lib.hid hb; have HR := Lib.hid hr; clear hr hb))
  go_loop [25] (fun i => ∃ q : Nat, q + m ≤ j ∧ i = .int .i64 q) (fun i => j + 1 - (intOf i).toNat)
  case atStart => exact ⟨0, by omega, rfl⟩
  case round =>
    obtain ⟨q, hq, rfl⟩ := hrel
    obtain ⟨r, hr⟩ : ∃ r : Nat, (j : Int) - q = r := ⟨j - q, by omega⟩
    have hrj : r ≤ j := by omega
    have cc : w1.cell? ⟨g, q, none⟩ = some (.int .i64 r) := by
      rw [HR.out.cellAt q (by omega), List.getElem?_map, dn_at _ _ _ (by omega), hr]
      rfl
    have f1 := H1.out.f1
    obtain ⟨x, HX⟩ : ∃ x, Hid (tk r = x) := ⟨_, Lib.hid rfl⟩
    have c1 := H1.out.at1 r (by omega)
    rw [HX.out] at c1
    have k0 : (0 : Int) ≤ q := by omega
    have k1 : (q : Int) < (j : Int) + 1 := by omega
    have k2 : (0 : Int) ≤ r := by omega
    have k3 : (r : Int) < n := by omega
    by_cases hlt : q + m < j
    · have hx := htk.out r (by omega) hrj
      rw [HX.out] at hx
      have hd : decide (x < 1) = false := decide_eq_false (by omega)
      go_wp2_with fail
      go_round
      case rel => exact ⟨q + 1, by omega, by go_num⟩
      case measure => simp [intOf]; omega
    · obtain rfl : r = m := by omega
      have hx := hm.out
      rw [HX.out] at hx
      have hd : decide (x < 1) = true := decide_eq_true hx
      go_wp2_with fail
      go_ret2
      exact ⟨rfl, HB1.out⟩
end Go.Proofs.YtncopdhhchmpeaaGreatDoor
namespace Go.Proofs.YtncopdhhchmpeaaGreatDoor
open Go.ChangeShapes Go.WideShapes Go.ChangeAt Go.RowKit
set_option linter.unusedVariables false
set_option linter.unusedSimpArgs false
theorem own_same {w w' : World} {b T s n g c : Nat} {l : List Value} (h : w.ownsRow b T s (.slice (some ⟨g, 0, none⟩) n c) n l) (hb : w'.heap[g]? = w.heap[g]?) : w'.ownsRow b T s (.slice (some ⟨g, 0, none⟩) n c) n l := by
  refine ⟨h.1, ?_⟩
  rcases h.2 with hn | ⟨g1, cap, cur, hv, hB, hg, rest⟩
  · exact .inl hn
  · refine .inr ⟨g1, cap, cur, hv, hB, ?_, rest⟩
    have : g1 = g := by injection hv with e1 _ _; injection e1 with e1; injection e1 with e1; exact e1.symm
    rw [this] at hg ⊢
    rw [hb]
    exact hg
theorem MtAt.low {w w' : World} {N base P p B G n c : Nat} {th : Nat → Bool} {vr pr tk : Nat → Int} (h : MtAt w base P p B G n c th vr pr tk) (hb : Below N w w') (h1 : P < N) (h2 : p < N) (h3 : B < N) (h4 : G < N) : MtAt w' base P p B G n c th vr pr tk :=
  ⟨Nat.lt_of_lt_of_le h.pl hb.size, h.pb, (World.cell?_of_block (a := ⟨P, 0, none⟩) (hb.block P h1)).trans h.f0, (World.cell?_of_block (a := ⟨P, 1, none⟩) (hb.block P h1)).trans h.f1, h.ar.same2 hb.size (hb.block p h2) (hb.block B h3), own_same h.row (hb.block G h4), h.n1, h.n2, h.n3, h.n4⟩
/-- A system whose meters are those. -/
structure MS (w : World) (L : BLoc) (X : SLoc) (th : Nat → Bool) (vr pr tk : Nat → Int) : Prop where
  b : SyB w X.s L.mb L.dP X.tP L.P X.fP X.q 0
  t : MtAt w X.tB X.tP X.tp X.tR X.tG X.tn X.tn th vr pr tk
  ne : X.s ≠ X.tR ∧ X.s ≠ X.tG
  n8 : X.tn = 8
theorem SysNew.ms {w0 w : World} {L : BLoc} {X : SLoc} (h : SysNew w0 w L X) (h8 : X.tn = 8) : MS w L X (fun _ => false) (fun _ => 0) (fun _ => 0) (fun _ => 0) := by
  refine ⟨h.b, h.t, ⟨fun e => ?_, fun e => ?_⟩, h8⟩
  · have h1 := h.t.ar.at0 0 (by omega)
    rw [← e] at h1
    have h2 := h.b.c0
    rw [Nat.zero_mul, h2] at h1
    simp at h1
  · have h1 := h.t.at0 0 (by omega)
    rw [← e] at h1
    have h2 := h.b.c0
    rw [Nat.zero_mul, h2] at h1
    simp at h1
section
variable {w w' : World} {L : BLoc} {X : SLoc} {th th' : Nat → Bool} {vr vr' pr pr' tk tk' : Nat → Int}
/-- Every block that it reaches lies below N. -/
structure MLt (N : Nat) (X : SLoc) : Prop where
  s : X.s < N
  P : X.tP < N
  p : X.tp < N
  R : X.tR < N
  G : X.tG < N
theorem MS.lts (h : MS w L X th vr pr tk) : MLt w.heap.size X := ⟨h.b.lt, h.t.pl, h.t.ar.pl, h.t.ar.lt.2, (h.t.row.lt X.tG rfl).2⟩
theorem MLt.mono {N M : Nat} (h : MLt N X) (hl : N ≤ M) : MLt M X := ⟨Nat.lt_of_lt_of_le h.s hl, Nat.lt_of_lt_of_le h.P hl, Nat.lt_of_lt_of_le h.p hl, Nat.lt_of_lt_of_le h.R hl, Nat.lt_of_lt_of_le h.G hl⟩
theorem MS.below (h : MS w L X th vr pr tk) (hb : Below w.heap.size w w') : MS w' L X th vr pr tk := ⟨h.b.below hb, h.t.below hb, h.ne, h.n8⟩
theorem MS.low {N : Nat} (h : MS w L X th vr pr tk) (hb : Below N w w') (hl : MLt N X) : MS w' L X th vr pr tk := ⟨h.b.same hb.size (hb.block X.s hl.s), h.t.low hb hl.P hl.p hl.R hl.G, h.ne, h.n8⟩
theorem MS.turn (h : MS w L X th vr pr tk) (ht : MtAt w' X.tB X.tP X.tp X.tR X.tG X.tn X.tn th' vr' pr' tk') (hb : PBelow w w' X.tR X.tG) : MS w' L X th' vr' pr' tk' := ⟨h.b.same hb.2.2.2.1 (hb.2.2.2.2 X.s h.b.lt h.ne.1 h.ne.2), ht, h.ne, h.n8⟩
end
/-- q of the chain charged. -/
def decx (z : Int) (tk : Nat → Int) (j q : Nat) : Nat → Int := fun i => if j < i + q ∧ i ≤ j then tk i - z else tk i
theorem decx_zero (z : Int) (tk : Nat → Int) (j : Nat) : decx z tk j 0 = tk := by
  funext i
  unfold decx
  rw [if_neg (by omega)]
theorem decx_next (z : Int) (tk : Nat → Int) (j q r : Nat) (hr : r + q = j) : upd (decx z tk j q) r (tk r - z) = decx z tk j (q + 1) := by
  funext i
  unfold upd decx
  by_cases e : i = r
  · subst e
    rw [if_pos rfl, if_pos (by omega)]
  · rw [if_neg e]
    by_cases h : j < i + q ∧ i ≤ j
    · rw [if_pos h, if_pos (by omega)]
    · rw [if_neg h, if_neg (by omega)]
set_option maxRecDepth 100000 in
set_option maxHeartbeats 2000000 in
theorem mcharge_all {base P p B G n c : Nat} {th : Nat → Bool} {vr pr tk : Nat → Int} (z : Int) (z0 : 0 ≤ z) (z1 : z ≤ 1000) (j : Nat) (hjn : j < n) (hth : Hid (∀ q, q ≤ j → th q = true)) (hpr : Hid (∀ q, q ≤ j → pr q = (q : Int) - 1)) (htk : Hid (∀ q, q ≤ j → z ≤ tk q ∧ tk q ≤ 100000)) (w : World) (h : MtAt w base P p B G n c th vr pr tk) :
    Calls Tryz.prog 45 #[.pointer (some ⟨P, 0, none⟩), .int .i64 j, .int .i64 z] w fun e w' => e = .returned (.tuple #[.int .i64 0, .bool true]) ∧ MtAt w' base P p B G n c th vr pr (decx z tk j (j + 1)) ∧ PBelow w w' B G := by
  have H := Lib.hid h
  have hn := h.ar.le
  have dz : decide (z < 0) = false := decide_eq_false (by omega)
  clear h
  go_enter Tryz.func45, Tryz.ntmps45
  go_wp2_with (first
    | (go_at_call 64; (with_reducible refine (chain_sl j hjn hth hpr _ H.out).mono ?_); rintro e w1 ⟨g, c', rfl, hr, hb⟩; have H1 := Lib.hid (H.out.below hb); have HB1 := Lib.hid (PBelow.of_below (B := B) (G := G) hb); have HR := Lib.hid hr; have hgG : g ≠ G := (by have := (hr.lt g rfl).1; have := (H.out.row.lt G rfl).2; omega); clear hr hb))
  go_loop [25] (fun i => ∃ q : Nat, q ≤ j + 1 ∧ i = .int .i64 q) (fun i => j + 1 - (intOf i).toNat)
  case atStart => exact ⟨0, by omega, rfl⟩
  case round =>
    obtain ⟨q, hq, rfl⟩ := hrel
    by_cases hlt : q < j + 1
    · obtain ⟨r, hr⟩ : ∃ r : Nat, (j : Int) - q = r := ⟨j - q, by omega⟩
      have hrj : r ≤ j := by omega
      have cc : w1.cell? ⟨g, q, none⟩ = some (.int .i64 r) := by
        rw [HR.out.cellAt q (by omega), List.getElem?_map, dn_at _ _ _ hlt, hr]
        rfl
      have f1 := H1.out.f1
      obtain ⟨x, HX⟩ : ∃ x, Hid (tk r = x) := ⟨_, Lib.hid rfl⟩
      have c1 := H1.out.at1 r (by omega)
      rw [HX.out] at c1
      have hx := htk.out r hrj
      rw [HX.out] at hx
      obtain ⟨hx1, hx2⟩ := hx
      have k0 : (0 : Int) ≤ q := by omega
      have k1 : (q : Int) < (j : Int) + 1 := by omega
      have k2 : (0 : Int) ≤ r := by omega
      have k3 : (r : Int) < n := by omega
      have hd : decide (x < z) = false := decide_eq_false (by omega)
      go_wp2_with fail
      go_round
      case rel => exact ⟨q + 1, by omega, by go_num⟩
      case measure => simp [intOf]; omega
    · obtain rfl : q = j + 1 := by omega
      have HD : Hid (MtAt w1 base P p B G n c th vr pr (decx z tk j 0) ∧ w1.ownsRow w.heap.size 3 1 (.slice (some ⟨g, 0, none⟩) (j + 1) c') (j + 1) ((dn j (j + 1)).map (Value.int .i64)) ∧ PBelow w w1 B G) := Lib.hid ⟨by rw [decx_zero]; exact H1.out, HR.out, HB1.out⟩
      go_wp2_with fail
      try rw [show (((j + 1 : Nat)) : Int) = (j : Int) + 1 by omega]
      go_loopw [43] (fun i wr => ∃ q : Nat, q ≤ j + 1 ∧ i = .int .i64 q ∧ MtAt wr base P p B G n c th vr pr (decx z tk j q) ∧ wr.ownsRow w.heap.size 3 1 (.slice (some ⟨g, 0, none⟩) (j + 1) c') (j + 1) ((dn j (j + 1)).map (Value.int .i64)) ∧ PBelow w wr B G) (fun i _ => j + 1 - (intOf i).toNat)
      case atStart => exact ⟨0, by omega, rfl, HD.out⟩
      case round =>
        obtain ⟨q, hq2, rfl, hM, hR, hP⟩ := hrel
        have HM := Lib.hid hM
        have HR2 := Lib.hid hR
        have HP := Lib.hid hP
        clear hM hR hP
        by_cases hlt2 : q < j + 1
        · obtain ⟨r, hr⟩ : ∃ r : Nat, (j : Int) - q = r := ⟨j - q, by omega⟩
          have hrj : r ≤ j := by omega
          have cc : wr.cell? ⟨g, q, none⟩ = some (.int .i64 r) := by
            rw [HR2.out.cellAt q (by omega), List.getElem?_map, dn_at _ _ _ hlt2, hr]
            rfl
          have f1 := HM.out.f1
          obtain ⟨x, HX⟩ : ∃ x, Hid (tk r = x) := ⟨_, Lib.hid rfl⟩
          have c1 := HM.out.at1 r (by omega)
          have e1 : decx z tk j q r = x := by
            unfold decx
            rw [if_neg (by omega), HX.out]
          rw [e1] at c1
          have z1 := HM.out.row.frozenAt (r * 2 + 1)
          have hx := htk.out r hrj
          rw [HX.out] at hx
          obtain ⟨hx1, hx2⟩ := hx
          have k0 : (0 : Int) ≤ q := by omega
          have k1 : (q : Int) < (j : Int) + 1 := by omega
          have k2 : (0 : Int) ≤ r := by omega
          have k3 : (r : Int) < n := by omega
          have hwz : IntKind.i64.wrap (x - z) = x - z := by rw [IntKind.wrap_i64]; omega
          have HN := Lib.hid (HM.out.put1 r (by omega) (x - z))
          have HE : Hid (upd (decx z tk j q) r (x - z) = decx z tk j (q + 1)) := Lib.hid (by rw [← HX.out]; exact decx_next z tk j q r (by omega))
          clear e1
          go_wp2_with fail
          go_roundw
          case rel => exact ⟨q + 1, by omega, by go_num, by rw [← HE.out]; exact HN.out.1, HR2.out.kept HN.out.2 (.inr (fun e => hgG (by simpa [Value.ownBlock] using e))), HP.out.trans (PBelow.of HN.out.2 (.inr rfl))⟩
          case measure => simp [intOf]; omega
        · obtain rfl : q = j + 1 := by omega
          go_wp2_with fail
          go_ret2
          exact ⟨rfl, HM.out, HP.out⟩
set_option maxRecDepth 100000 in
set_option maxHeartbeats 2000000 in
theorem mcharge_few {base P p B G n c : Nat} {th : Nat → Bool} {vr pr tk : Nat → Int} (z : Int) (z0 : 0 ≤ z) (z1 : z ≤ 1000) (j m : Nat) (hjn : j < n) (hmj : m ≤ j) (hth : Hid (∀ q, q ≤ j → th q = true)) (hpr : Hid (∀ q, q ≤ j → pr q = (q : Int) - 1)) (htk : Hid (∀ q, m < q → q ≤ j → z ≤ tk q)) (hm : Hid (tk m < z)) (w : World) (h : MtAt w base P p B G n c th vr pr tk) :
    Calls Tryz.prog 45 #[.pointer (some ⟨P, 0, none⟩), .int .i64 j, .int .i64 z] w fun e w' => e = .returned (.tuple #[.int .i64 m, .bool false]) ∧ Below w.heap.size w w' := by
  have H := Lib.hid h
  have hn := h.ar.le
  have dz : decide (z < 0) = false := decide_eq_false (by omega)
  clear h
  go_enter Tryz.func45, Tryz.ntmps45
  go_wp2_with (first
    | (go_at_call 64; (with_reducible refine (chain_sl j hjn hth hpr _ H.out).mono ?_); rintro e w1 ⟨g, c', rfl, hr, hb⟩; have H1 := Lib.hid (H.out.below hb); have HB1 := Lib.hid hb; have HR := Lib.hid hr; clear hr hb))
  go_loop [25] (fun i => ∃ q : Nat, q + m ≤ j ∧ i = .int .i64 q) (fun i => j + 1 - (intOf i).toNat)
  case atStart => exact ⟨0, by omega, rfl⟩
  case round =>
    obtain ⟨q, hq, rfl⟩ := hrel
    obtain ⟨r, hr⟩ : ∃ r : Nat, (j : Int) - q = r := ⟨j - q, by omega⟩
    have hrj : r ≤ j := by omega
    have cc : w1.cell? ⟨g, q, none⟩ = some (.int .i64 r) := by
      rw [HR.out.cellAt q (by omega), List.getElem?_map, dn_at _ _ _ (by omega), hr]
      rfl
    have f1 := H1.out.f1
    obtain ⟨x, HX⟩ : ∃ x, Hid (tk r = x) := ⟨_, Lib.hid rfl⟩
    have c1 := H1.out.at1 r (by omega)
    rw [HX.out] at c1
    have k0 : (0 : Int) ≤ q := by omega
    have k1 : (q : Int) < (j : Int) + 1 := by omega
    have k2 : (0 : Int) ≤ r := by omega
    have k3 : (r : Int) < n := by omega
    by_cases hlt : q + m < j
    · have hx := htk.out r (by omega) hrj
      rw [HX.out] at hx
      have hd : decide (x < z) = false := decide_eq_false (by omega)
      go_wp2_with fail
      go_round
      case rel => exact ⟨q + 1, by omega, by go_num⟩
      case measure => simp [intOf]; omega
    · obtain rfl : r = m := by omega
      have hx := hm.out
      rw [HX.out] at hx
      have hd : decide (x < z) = true := decide_eq_true hx
      go_wp2_with fail
      go_ret2
      exact ⟨rfl, HB1.out⟩
end Go.Proofs.YtncopdhhchmpeaaGreatDoor
namespace Go.Proofs.YtncopdhhchmpeaaGreatDoor
open Go.ChangeShapes Go.WideShapes Go.ChangeAt Go.RowKit
set_option linter.unusedVariables false
set_option linter.unusedSimpArgs false
theorem nthere_same {w w' : World} {b o n : Nat} (h : World.there w b o n) (hb : w'.heap[b]? = w.heap[b]?) : World.there w' b o n := fun j hj => ⟨by rw [World.cell?_of_block (a := ⟨b, o + j, none⟩) hb]; exact (h j hj).1, by rw [World.frozen?_of_block (a := ⟨b, o + j, none⟩) hb]; exact (h j hj).2⟩
theorem nthere_below {w w' : World} {b o n N : Nat} (h : World.there w b o n) (hb : Below N w w') (hl : b < N) : World.there w' b o n := nthere_same h (hb.block b hl)
theorem range_same {w w' : World} {b o : Nat} {cs : List Value} (h : w.rangeAt b o cs) (hb : w'.heap[b]? = w.heap[b]?) : w'.rangeAt b o cs := fun j v hv => (World.cell?_of_block (a := ⟨b, o + j, none⟩) hb).trans (h j v hv)
theorem range_below {w w' : World} {b o N : Nat} {cs : List Value} (h : w.rangeAt b o cs) (hb : Below N w w') (hl : b < N) : w'.rangeAt b o cs := range_same h (hb.block b hl)
theorem range_set {w : World} {b : Nat} {cs : List Value} (h : w.rangeAt b 0 cs) (o : Nat) (v : Value) : (w.setCell ⟨b, o, none⟩ v).rangeAt b 0 (cs.set o v) := fun j u hu => by
  rw [Nat.zero_add]
  by_cases hj : j = o
  · subst hj
    have hl : j < cs.length := by
      have := (List.getElem?_eq_some_iff.1 hu).1
      simpa using this
    have e1 := h j cs[j] (List.getElem?_eq_getElem hl)
    rw [Nat.zero_add] at e1
    rw [List.getElem?_set_self hl] at hu
    injection hu with hu
    subst hu
    exact World.cell?_setCell_same _ _ _ e1
  · rw [List.getElem?_set_ne (Ne.symm hj)] at hu
    rw [World.cell?_setCell_other _ _ _ _ (by simp [hj])]
    have := h j u hu
    rwa [Nat.zero_add] at this
theorem range_set5 {w : World} {b : Nat} {cs : List Value} (h : w.rangeAt b 0 cs) (o : Nat) (v0 v1 v2 v3 v4 : Value) : (w.setCells b o [v0, v1, v2, v3, v4]).rangeAt b 0 (((((cs.set o v0).set (o + 1) v1).set (o + 1 + 1) v2).set (o + 1 + 1 + 1) v3).set (o + 1 + 1 + 1 + 1) v4) :=
  range_set (range_set (range_set (range_set (range_set h o v0) (o + 1) v1) (o + 1 + 1) v2) (o + 1 + 1 + 1) v3) (o + 1 + 1 + 1 + 1) v4
theorem range_drop {w : World} {b k : Nat} {cs : List Value} (h : w.rangeAt b 0 cs) : w.rangeAt b k (cs.drop k) := fun j v hv => by
  rw [List.getElem?_drop] at hv
  have := h (k + j) v hv
  rwa [Nat.zero_add] at this
theorem there_part {w : World} {b : Nat} (h : World.there w b 0 25) (o : Nat) (ho : o + 5 ≤ 25) : World.there w b o 5 := fun j hj => by
  have := h (o + j) (by omega)
  rwa [Nat.zero_add] at this
theorem infoK5 : (Tryz.prog.info? 42).map (·.size) = some 5 := by kernel_rfl
theorem akey_one (k0 k1 k2 k3 k4 : Int) : (([.int .i64 k0, .int .i64 k1, .int .i64 k2, .int .i64 k3, .int .u32 k4] : List Value).toArray).all (·.oneCell') = true := by simp [Value.oneCell']
theorem UpT.low {N M : Nat} {w w1 w2 : World} (h : UpT N w w1) (h2 : Below M w1 w2) (hM : w.heap.size ≤ M) : UpT N w w2 := ⟨Nat.le_trans h.1 h2.size, fun k h3 h4 => (h2.block k (Nat.lt_of_lt_of_le h4 hM)).trans (h.2 k h3 h4)⟩
theorem c25_call (s : Nat) (k0 k1 k2 k3 k4 : Int) (o a b c : Int) (m0 m1 m2 m3 m4 : Int) (n0 n1 n2 n3 n4 : Int) (p0 p1 p2 p3 p4 : Int) : CallC ([.pointer (some ⟨s, 0, none⟩), .int .i64 k0, .int .i64 k1, .int .i64 k2, .int .i64 k3, .int .u32 k4, .int .u32 o, .int .u32 a, .int .u32 b, .int .u32 c, .int .i64 m0, .int .i64 m1, .int .i64 m2, .int .i64 m3, .int .u32 m4, .int .i64 n0, .int .i64 n1, .int .i64 n2, .int .i64 n3, .int .u32 n4, .int .i64 p0, .int .i64 p1, .int .i64 p2, .int .i64 p3, .int .u32 p4] : List Value) s k0 k1 k2 k3 k4 o a := ⟨rfl, rfl, rfl, rfl, rfl, rfl, rfl, rfl, rfl, by simp [Value.oneCell']⟩
theorem c25_one (s : Nat) (k0 k1 k2 k3 k4 : Int) (o a b c : Int) (m0 m1 m2 m3 m4 : Int) (n0 n1 n2 n3 n4 : Int) (p0 p1 p2 p3 p4 : Int) : (([.pointer (some ⟨s, 0, none⟩), .int .i64 k0, .int .i64 k1, .int .i64 k2, .int .i64 k3, .int .u32 k4, .int .u32 o, .int .u32 a, .int .u32 b, .int .u32 c, .int .i64 m0, .int .i64 m1, .int .i64 m2, .int .i64 m3, .int .u32 m4, .int .i64 n0, .int .i64 n1, .int .i64 n2, .int .i64 n3, .int .u32 n4, .int .i64 p0, .int .i64 p1, .int .i64 p2, .int .i64 p3, .int .u32 p4] : List Value).toArray).all (·.oneCell') = true := by simp [Value.oneCell']
theorem nload_exec {ev : Operand → Value} {op : Oper} {b : Nat} {cs : List Value} {w : World} (x : Operand) (ho : op.op = .load 64 x) (hx : ev x = .pointer (some ⟨b, 0, none⟩)) (hl : cs.length = 19) (hr : w.rangeAt b 0 cs) : (execOp ev op).run Tryz.prog w = .ok (.value (.agg cs.toArray)) w := by
  unfold execOp
  simp only [ho, hx, Instr.loadAt, Instr.sureAddr, Sem.run_bind, Sem.run_pure, Result.andThen_ok, nload hl hr]
theorem cload_exec {ev : Operand → Value} {op : Oper} {b : Nat} {cs : List Value} {w : World} (x : Operand) (ho : op.op = .load 129 x) (hx : ev x = .pointer (some ⟨b, 0, none⟩)) (hl : cs.length = 25) (hr : w.rangeAt b 0 cs) : (execOp ev op).run Tryz.prog w = .ok (.value (.agg cs.toArray)) w := by
  unfold execOp
  simp only [ho, hx, Instr.loadAt, Instr.sureAddr, Sem.run_bind, Sem.run_pure, Result.andThen_ok, cload hl hr]
set_option maxRecDepth 100000 in
set_option maxHeartbeats 4000000 in
theorem oanswer {Q : World → Prop} {nt : List Value} (hnl : nt.length = 19) (hn1 : ∀ v, v ∈ nt → v.oneCell' = true) (s : Nat) (k0 k1 k2 k3 k4 : Int) (r0 r1 r2 r3 r4 : Int) (o a b c : Int) (m0 m1 m2 m3 m4 : Int) (n0 n1 n2 n3 n4 : Int) (p0 p1 p2 p3 p4 : Int) (x0 x1 x2 x3 x4 : Int) (y0 y1 y2 y3 y4 : Int) (z0 z1 z2 z3 z4 : Int) (h5 : (r0 == 5) = false) (h6 : (r0 == 6) = false) {N : Nat} (w : World) (hN : N ≤ w.heap.size)
    (hQ : ∀ w1 w2, Q w1 → Below N w1 w2 → Q w2) (hk : (∀ W, Below w.heap.size w W → Calls Tryz.prog 23 #[.pointer (some ⟨s, 0, none⟩), (Value.agg #[.int .i64 k0, .int .i64 k1, .int .i64 k2, .int .i64 k3, .int .u32 k4])] W fun e w' => e = .returned (Value.agg #[.int .i64 r0, .int .i64 r1, .int .i64 r2, .int .i64 r3, .int .u32 r4]) ∧ Below W.heap.size W w')) (hm : (∀ W, Below w.heap.size w W → Calls Tryz.prog 23 #[.pointer (some ⟨s, 0, none⟩), (Value.agg #[.int .i64 m0, .int .i64 m1, .int .i64 m2, .int .i64 m3, .int .u32 m4])] W fun e w' => e = .returned (Value.agg #[.int .i64 x0, .int .i64 x1, .int .i64 x2, .int .i64 x3, .int .u32 x4]) ∧ Below W.heap.size W w')) (hn : (∀ W, Below w.heap.size w W → Calls Tryz.prog 23 #[.pointer (some ⟨s, 0, none⟩), (Value.agg #[.int .i64 n0, .int .i64 n1, .int .i64 n2, .int .i64 n3, .int .u32 n4])] W fun e w' => e = .returned (Value.agg #[.int .i64 y0, .int .i64 y1, .int .i64 y2, .int .i64 y3, .int .u32 y4]) ∧ Below W.heap.size W w')) (hp : (∀ W, Below w.heap.size w W → Calls Tryz.prog 23 #[.pointer (some ⟨s, 0, none⟩), (Value.agg #[.int .i64 p0, .int .i64 p1, .int .i64 p2, .int .i64 p3, .int .u32 p4])] W fun e w' => e = .returned (Value.agg #[.int .i64 z0, .int .i64 z1, .int .i64 z2, .int .i64 z3, .int .u32 z4]) ∧ Below W.heap.size W w'))
    (ha : ∀ W, Below w.heap.size w W → Calls Tryz.prog 81 #[.agg ([.pointer (some ⟨s, 0, none⟩), .int .i64 r0, .int .i64 r1, .int .i64 r2, .int .i64 r3, .int .u32 r4, .int .u32 o, .int .u32 a, .int .u32 b, .int .u32 c, .int .i64 x0, .int .i64 x1, .int .i64 x2, .int .i64 x3, .int .u32 x4, .int .i64 y0, .int .i64 y1, .int .i64 y2, .int .i64 y3, .int .u32 y4, .int .i64 z0, .int .i64 z1, .int .i64 z2, .int .i64 z3, .int .u32 z4] : List Value).toArray] W fun e w' => e = .returned (.agg nt.toArray) ∧ Q w' ∧ UpT N W w') :
    Calls Tryz.prog 32 #[.pointer (some ⟨s, 0, none⟩), (Value.agg #[.int .i64 k0, .int .i64 k1, .int .i64 k2, .int .i64 k3, .int .u32 k4]), (Value.agg #[.int .u32 o, .int .u32 a, .int .u32 b, .int .u32 c, .int .i64 m0, .int .i64 m1, .int .i64 m2, .int .i64 m3, .int .u32 m4, .int .i64 n0, .int .i64 n1, .int .i64 n2, .int .i64 n3, .int .u32 n4, .int .i64 p0, .int .i64 p1, .int .i64 p2, .int .i64 p3, .int .u32 p4])] w fun e w' => e = .returned (.tuple #[.agg nt.toArray, .bool true]) ∧ Q w' ∧ UpT N w w' := by
  have HQ := Lib.hid hQ
  have HSk := Lib.hid hk
  have HSm := Lib.hid hm
  have HSn := Lib.hid hn
  have HSp := Lib.hid hp
  have HAn := Lib.hid ha
  clear hQ hk hm hn hp ha
  go_enter Tryz.func32, Tryz.ntmps32
  go_upto_region 1 with fail
  generalize hA : World.alloc w _ = wa
  obtain ⟨KB, hKB⟩ : ∃ KB, KB = w.heap.size := ⟨_, rfl⟩
  have HK : Hid (Below w.heap.size w wa ∧ KeyC wa KB k0 k1 k2 k3 k4 ∧ wa.heap.size = KB + 1 ∧ w.heap.size ≤ KB) := Lib.hid (by rw [← hA, hKB]; exact ⟨(Below.refl _ _).alloc (Nat.le_refl _) _, KeyC.new w k0 k1 k2 k3 k4 _, by simp, Nat.le_refl _⟩)
  rw [← hKB]
  clear hA hKB
  generalize hA : World.alloc wa _ = wb
  obtain ⟨J, hJ⟩ : ∃ J, J = KB + 1 := ⟨_, rfl⟩
  have HJ : Hid (Below w.heap.size w wb ∧ KeyC wb KB k0 k1 k2 k3 k4 ∧ wb.rangeAt J 0 ([.int .u32 o, .int .u32 a, .int .u32 b, .int .u32 c, .int .i64 m0, .int .i64 m1, .int .i64 m2, .int .i64 m3, .int .u32 m4, .int .i64 n0, .int .i64 n1, .int .i64 n2, .int .i64 n3, .int .u32 n4, .int .i64 p0, .int .i64 p1, .int .i64 p2, .int .i64 p3, .int .u32 p4] : List Value) ∧ wb.heap.size = J + 1 ∧ w.heap.size ≤ J) := Lib.hid (by rw [← hA, hJ, ← HK.out.2.2.1]; exact ⟨HK.out.1.alloc HK.out.1.size _, HK.out.2.1.below ((Below.refl _ _).alloc (Nat.le_refl _) _), cbox _ _ _, by simp, HK.out.1.size⟩)
  rw [← hJ]
  clear hA hJ
  generalize hA : World.alloc wb _ = wd
  obtain ⟨R, hR⟩ : ∃ R, R = J + 1 := ⟨_, rfl⟩
  have HR : Hid (Below w.heap.size w wd ∧ KeyC wd KB k0 k1 k2 k3 k4 ∧ wd.rangeAt J 0 ([.int .u32 o, .int .u32 a, .int .u32 b, .int .u32 c, .int .i64 m0, .int .i64 m1, .int .i64 m2, .int .i64 m3, .int .u32 m4, .int .i64 n0, .int .i64 n1, .int .i64 n2, .int .i64 n3, .int .u32 n4, .int .i64 p0, .int .i64 p1, .int .i64 p2, .int .i64 p3, .int .u32 p4] : List Value) ∧ World.there wd R 0 19 ∧ J < R ∧ R < wd.heap.size ∧ w.heap.size ≤ R) := Lib.hid (by rw [← hA, hR, ← HJ.out.2.2.2.1]; exact ⟨HJ.out.1.alloc HJ.out.1.size _, HJ.out.2.1.below ((Below.refl _ _).alloc (Nat.le_refl _) _), range_below HJ.out.2.2.1 ((Below.refl _ _).alloc (Nat.le_refl _) _) (by have := HJ.out.2.2.2.1; omega), nthere_new _ _ 19 (by rfl) _, by have := HJ.out.2.2.2.1; omega, by simp, HJ.out.1.size⟩)
  rw [← hR]
  clear hA hR
  go_cut [8] (fun u wx => ∃ C, u = .pointer (some ⟨C, 0, none⟩) ∧ Below wd.heap.size wd wx ∧ wx.rangeAt C 0 ([.pointer (some ⟨s, 0, none⟩), .int .i64 r0, .int .i64 r1, .int .i64 r2, .int .i64 r3, .int .u32 r4, .int .u32 o, .int .u32 a, .int .u32 b, .int .u32 c, .int .i64 m0, .int .i64 m1, .int .i64 m2, .int .i64 m3, .int .u32 m4, .int .i64 n0, .int .i64 n1, .int .i64 n2, .int .i64 n3, .int .u32 n4, .int .i64 p0, .int .i64 p1, .int .i64 p2, .int .i64 p3, .int .u32 p4] : List Value) ∧ World.there wx C 0 25 ∧ wd.heap.size ≤ C ∧ C < wx.heap.size)
  case first =>
    obtain ⟨wD, hwD⟩ : ∃ wD, wD = wd.drew := ⟨_, rfl⟩
    have HBd : Hid (Below wd.heap.size wd wD) := Lib.hid (by rw [hwD]; exact (Below.refl _ _).drew)
    have HS1 : Hid (∀ W, Below wd.heap.size wd W → ((World.cell? W ⟨KB, 0, none⟩ = some (.int .i64 k0) ∧ World.cell? W ⟨KB, 1, none⟩ = some (.int .i64 k1) ∧ World.cell? W ⟨KB, 2, none⟩ = some (.int .i64 k2) ∧ World.cell? W ⟨KB, 3, none⟩ = some (.int .i64 k3) ∧ World.cell? W ⟨KB, 4, none⟩ = some (.int .u32 k4)) ∧ World.rangeAt W J 0 ([.int .u32 o, .int .u32 a, .int .u32 b, .int .u32 c, .int .i64 m0, .int .i64 m1, .int .i64 m2, .int .i64 m3, .int .u32 m4, .int .i64 n0, .int .i64 n1, .int .i64 n2, .int .i64 n3, .int .u32 n4, .int .i64 p0, .int .i64 p1, .int .i64 p2, .int .i64 p3, .int .u32 p4] : List Value))) := Lib.hid (fun W hW => ⟨ofive (HR.out.2.1.below hW), range_below HR.out.2.2.1 hW (Nat.lt_trans HR.out.2.2.2.2.1 HR.out.2.2.2.2.2.1)⟩)
    refine wp_region_noPanic ?_
    refine wp_region_held_drew (S := fun w' => ((World.cell? w' ⟨KB, 0, none⟩ = some (.int .i64 k0) ∧ World.cell? w' ⟨KB, 1, none⟩ = some (.int .i64 k1) ∧ World.cell? w' ⟨KB, 2, none⟩ = some (.int .i64 k2) ∧ World.cell? w' ⟨KB, 3, none⟩ = some (.int .i64 k3) ∧ World.cell? w' ⟨KB, 4, none⟩ = some (.int .u32 k4)) ∧ World.rangeAt w' J 0 ([.int .u32 o, .int .u32 a, .int .u32 b, .int .u32 c, .int .i64 m0, .int .i64 m1, .int .i64 m2, .int .i64 m3, .int .u32 m4, .int .i64 n0, .int .i64 n1, .int .i64 n2, .int .i64 n3, .int .u32 n4, .int .i64 p0, .int .i64 p1, .int .i64 p2, .int .i64 p3, .int .u32 p4] : List Value))) (by kernel_rfl) (by rw [← hwD]; exact HS1.out _ HBd.out) (fun hHeld => ?_)
    rw [← hwD] at hHeld ⊢
    clear hwD
    refine wpAnyH_take (i := 0) (v := ?_) (by rfl) (by kernel_rfl) (by kernel_rfl) (by kernel_rfl) (fun _ _ _ h => h) (Or.inl ⟨by kernel_rfl, ?_⟩) (by assumption) ?_; rotate_left 1; (focus (intro w hSw; (try dsimp only at hSw); simp only [List.getElem_toArray, List.getElem_cons_succ, List.getElem_cons_zero]; all_goals go_simp; all_goals (try with_reducible rfl))); (try simp only [Act.put, List.getElem_toArray, List.getElem_cons_succ, List.getElem_cons_zero, List.setIfInBounds_toArray, List.set_cons_zero, List.set_cons_succ])
    refine wpAnyH_take (i := 1) (v := ?_) (by rfl) (by kernel_rfl) (by kernel_rfl) (by kernel_rfl) (fun _ _ _ h => h) (Or.inl ⟨by kernel_rfl, ?_⟩) (by assumption) ?_; rotate_left 1; (focus (intro w hSw; (try dsimp only at hSw); simp only [List.getElem_toArray, List.getElem_cons_succ, List.getElem_cons_zero]; all_goals go_simp; all_goals (try with_reducible rfl))); (try simp only [Act.put, List.getElem_toArray, List.getElem_cons_succ, List.getElem_cons_zero, List.setIfInBounds_toArray, List.set_cons_zero, List.set_cons_succ])
    refine wpAnyH_take (i := 2) (v := ?_) (by rfl) (by kernel_rfl) (by kernel_rfl) (by kernel_rfl) (fun _ _ _ h => h) (Or.inl ⟨by kernel_rfl, ?_⟩) (by assumption) ?_; rotate_left 1; (focus (intro w hSw; (try dsimp only at hSw); simp only [List.getElem_toArray, List.getElem_cons_succ, List.getElem_cons_zero]; all_goals go_simp; all_goals (try with_reducible rfl))); (try simp only [Act.put, List.getElem_toArray, List.getElem_cons_succ, List.getElem_cons_zero, List.setIfInBounds_toArray, List.set_cons_zero, List.set_cons_succ])
    refine wpAnyH_take (i := 4) (v := (Value.agg #[.int .u32 o, .int .u32 a, .int .u32 b, .int .u32 c, .int .i64 m0, .int .i64 m1, .int .i64 m2, .int .i64 m3, .int .u32 m4, .int .i64 n0, .int .i64 n1, .int .i64 n2, .int .i64 n3, .int .u32 n4, .int .i64 p0, .int .i64 p1, .int .i64 p2, .int .i64 p3, .int .u32 p4])) (by rfl) (by kernel_rfl) (by kernel_rfl) (by kernel_rfl) (fun _ _ _ h => h) (Or.inl ⟨by kernel_rfl, ?_⟩) (by assumption) ?_
    focus
      intro w hSw
      exact nload_exec (Operand.tmp 5) (by rfl) (by rfl) (by rfl) hSw.2
    (try simp only [Act.put, List.getElem_toArray, List.getElem_cons_succ, List.getElem_cons_zero, List.setIfInBounds_toArray, List.set_cons_zero, List.set_cons_succ])
    refine wpAnyH_ready (rs := [3, 6]) (by kernel_rfl) (by simp) ?_
    refine AllReadyH.cons (by rfl) (fun K1 hK => ?_) (AllReadyH.cons (by rfl) (fun K1 hK => ?_) AllReadyH.nil)
    · rw [if_pos (by kernel_rfl)]; simp only [List.getElem_toArray, List.getElem_cons_succ, List.getElem_cons_zero]
      go_wp2_with (first | (go_at_call 23; (with_reducible refine (HSk.out _ (HR.out.1.trans (HBd.out.mono HR.out.1.size))).mono ?_); rintro e w2 ⟨rfl, hb⟩; have HB2 := Lib.hid (HBd.out.trans (hb.mono HBd.out.size)); clear hb))
      refine hK.out _ _ (HS1.out _ HB2.out) (fun hHeld => ?_)
      clear hK K1
      (try simp only [Act.put, List.getElem_toArray, List.getElem_cons_succ, List.getElem_cons_zero, List.setIfInBounds_toArray, List.set_cons_zero, List.set_cons_succ])
      refine wpAnyH_take (i := 5) (v := ?_) (by rfl) (by kernel_rfl) (by kernel_rfl) (by kernel_rfl) (fun _ _ _ h => h) (Or.inl ⟨by kernel_rfl, ?_⟩) (by assumption) ?_; rotate_left 1; (focus (intro w hSw; (try dsimp only at hSw); simp only [List.getElem_toArray, List.getElem_cons_succ, List.getElem_cons_zero]; all_goals go_simp; all_goals (try with_reducible rfl))); (try simp only [Act.put, List.getElem_toArray, List.getElem_cons_succ, List.getElem_cons_zero, List.setIfInBounds_toArray, List.set_cons_zero, List.set_cons_succ])
      refine wpAnyH_ready (rs := [6]) (by kernel_rfl) (by simp) ?_; refine AllReadyH.cons (by rfl) (fun K hK => ?_) AllReadyH.nil; rw [if_pos (by kernel_rfl)]; simp only [List.getElem_toArray, List.getElem_cons_succ, List.getElem_cons_zero]
      go_wp2_with fail
      generalize hE : World.alloc w2 _ = wE
      obtain ⟨C, hC⟩ : ∃ C, C = w2.heap.size := ⟨_, rfl⟩
      have HE : Hid (Below wd.heap.size wd wE ∧ World.there wE C 0 25 ∧ wd.heap.size ≤ C ∧ C < wE.heap.size) := Lib.hid (by rw [← hE, hC]; exact ⟨HB2.out.alloc HB2.out.size _, nthere_new _ _ 25 (by rfl) _, HB2.out.size, by simp⟩)
      rw [← hC]
      clear hE hC
      refine hK.out _ _ (HS1.out _ HE.out.1) (fun hHeld => ?_)
      clear hK K
      (try simp only [Act.put, List.getElem_toArray, List.getElem_cons_succ, List.getElem_cons_zero, List.setIfInBounds_toArray, List.set_cons_zero, List.set_cons_succ])
      refine wpAnyH_ready (rs := [7]) (by kernel_rfl) (by simp) ?_; refine AllReadyH.cons (by rfl) (fun K hK => ?_) AllReadyH.nil; rw [if_pos (by kernel_rfl)]; simp only [List.getElem_toArray, List.getElem_cons_succ, List.getElem_cons_zero]
      refine wp_store_mid 129 (Operand.tmp 8) (Operand.tmp 16) (by rfl) C 0 ([.pointer (some ⟨s, 0, none⟩), .int .i64 r0, .int .i64 r1, .int .i64 r2, .int .i64 r3, .int .u32 r4, .int .u32 o, .int .u32 a, .int .u32 b, .int .u32 c, .int .i64 m0, .int .i64 m1, .int .i64 m2, .int .i64 m3, .int .u32 m4, .int .i64 n0, .int .i64 n1, .int .i64 n2, .int .i64 n3, .int .u32 n4, .int .i64 p0, .int .i64 p1, .int .i64 p2, .int .i64 p3, .int .u32 p4] : List Value).toArray (by rfl) (by rfl) HE.out.2.1 infoCall (c25_one _ _ _ _ _ _ _ _ _ _ _ _ _ _ _ _ _ _ _ _ _ _ _ _ _) ?_
      generalize hF : World.setCells wE _ _ _ = wF
      have HF : Hid (Below wd.heap.size wd wF ∧ wF.rangeAt C 0 ([.pointer (some ⟨s, 0, none⟩), .int .i64 r0, .int .i64 r1, .int .i64 r2, .int .i64 r3, .int .u32 r4, .int .u32 o, .int .u32 a, .int .u32 b, .int .u32 c, .int .i64 m0, .int .i64 m1, .int .i64 m2, .int .i64 m3, .int .u32 m4, .int .i64 n0, .int .i64 n1, .int .i64 n2, .int .i64 n3, .int .u32 n4, .int .i64 p0, .int .i64 p1, .int .i64 p2, .int .i64 p3, .int .u32 p4] : List Value) ∧ World.there wF C 0 25) := Lib.hid (by rw [← hF]; exact ⟨nbelow_cells HE.out.1 HE.out.2.2.1 _ _, World.rangeAt_setCells_same wE C 0 ([.pointer (some ⟨s, 0, none⟩), .int .i64 r0, .int .i64 r1, .int .i64 r2, .int .i64 r3, .int .u32 r4, .int .u32 o, .int .u32 a, .int .u32 b, .int .u32 c, .int .i64 m0, .int .i64 m1, .int .i64 m2, .int .i64 m3, .int .u32 m4, .int .i64 n0, .int .i64 n1, .int .i64 n2, .int .i64 n3, .int .u32 n4, .int .i64 p0, .int .i64 p1, .int .i64 p2, .int .i64 p3, .int .u32 p4] : List Value) HE.out.2.1, World.there_setCells HE.out.2.1 _ _ _⟩)
      clear hF
      refine hK.out _ _ (HS1.out _ HF.out.1) (fun hHeld => ?_)
      clear hK K
      (try simp only [Act.put, List.getElem_toArray, List.getElem_cons_succ, List.getElem_cons_zero, List.setIfInBounds_toArray, List.set_cons_zero, List.set_cons_succ])
      refine wpAnyH_done (by kernel_rfl) ?_ _
      refine NoPanic.normal ?_
      go_wp2_with fail
      go_meet
      exact ⟨C, rfl, HF.out.1, HF.out.2.1, HF.out.2.2, HE.out.2.2.1, cell_lt (CallC.cell HF.out.2.1 0 _ rfl)⟩
    · rw [if_pos (by kernel_rfl)]; simp only [List.getElem_toArray, List.getElem_cons_succ, List.getElem_cons_zero]
      go_wp2_with fail
      generalize hE : World.alloc wD _ = wE
      obtain ⟨C, hC⟩ : ∃ C, C = wD.heap.size := ⟨_, rfl⟩
      have HE : Hid (Below wd.heap.size wd wE ∧ World.there wE C 0 25 ∧ wd.heap.size ≤ C ∧ C < wE.heap.size) := Lib.hid (by rw [← hE, hC]; exact ⟨HBd.out.alloc HBd.out.size _, nthere_new _ _ 25 (by rfl) _, HBd.out.size, by simp⟩)
      rw [← hC]
      clear hE hC
      refine hK.out _ _ (HS1.out _ HE.out.1) (fun hHeld => ?_)
      clear hK K1
      (try simp only [Act.put, List.getElem_toArray, List.getElem_cons_succ, List.getElem_cons_zero, List.setIfInBounds_toArray, List.set_cons_zero, List.set_cons_succ])
      refine wpAnyH_ready (rs := [3]) (by kernel_rfl) (by simp) ?_; refine AllReadyH.cons (by rfl) (fun K hK => ?_) AllReadyH.nil; rw [if_pos (by kernel_rfl)]; simp only [List.getElem_toArray, List.getElem_cons_succ, List.getElem_cons_zero]
      go_wp2_with (first | (go_at_call 23; (with_reducible refine (HSk.out _ (HR.out.1.trans (HE.out.1.mono HR.out.1.size))).mono ?_); rintro e w2 ⟨rfl, hb⟩; have HB2 : Hid (Below wd.heap.size wd w2 ∧ World.there w2 C 0 25) := Lib.hid ⟨HE.out.1.trans (hb.mono HE.out.1.size), nthere_below HE.out.2.1 hb HE.out.2.2.2⟩; clear hb))
      refine hK.out _ _ (HS1.out _ HB2.out.1) (fun hHeld => ?_)
      clear hK K
      (try simp only [Act.put, List.getElem_toArray, List.getElem_cons_succ, List.getElem_cons_zero, List.setIfInBounds_toArray, List.set_cons_zero, List.set_cons_succ])
      refine wpAnyH_take (i := 5) (v := ?_) (by rfl) (by kernel_rfl) (by kernel_rfl) (by kernel_rfl) (fun _ _ _ h => h) (Or.inl ⟨by kernel_rfl, ?_⟩) (by assumption) ?_; rotate_left 1; (focus (intro w hSw; (try dsimp only at hSw); simp only [List.getElem_toArray, List.getElem_cons_succ, List.getElem_cons_zero]; all_goals go_simp; all_goals (try with_reducible rfl))); (try simp only [Act.put, List.getElem_toArray, List.getElem_cons_succ, List.getElem_cons_zero, List.setIfInBounds_toArray, List.set_cons_zero, List.set_cons_succ])
      refine wpAnyH_ready (rs := [7]) (by kernel_rfl) (by simp) ?_; refine AllReadyH.cons (by rfl) (fun K hK => ?_) AllReadyH.nil; rw [if_pos (by kernel_rfl)]; simp only [List.getElem_toArray, List.getElem_cons_succ, List.getElem_cons_zero]
      refine wp_store_mid 129 (Operand.tmp 8) (Operand.tmp 16) (by rfl) C 0 ([.pointer (some ⟨s, 0, none⟩), .int .i64 r0, .int .i64 r1, .int .i64 r2, .int .i64 r3, .int .u32 r4, .int .u32 o, .int .u32 a, .int .u32 b, .int .u32 c, .int .i64 m0, .int .i64 m1, .int .i64 m2, .int .i64 m3, .int .u32 m4, .int .i64 n0, .int .i64 n1, .int .i64 n2, .int .i64 n3, .int .u32 n4, .int .i64 p0, .int .i64 p1, .int .i64 p2, .int .i64 p3, .int .u32 p4] : List Value).toArray (by rfl) (by rfl) HB2.out.2 infoCall (c25_one _ _ _ _ _ _ _ _ _ _ _ _ _ _ _ _ _ _ _ _ _ _ _ _ _) ?_
      generalize hF : World.setCells w2 _ _ _ = wF
      have HF : Hid (Below wd.heap.size wd wF ∧ wF.rangeAt C 0 ([.pointer (some ⟨s, 0, none⟩), .int .i64 r0, .int .i64 r1, .int .i64 r2, .int .i64 r3, .int .u32 r4, .int .u32 o, .int .u32 a, .int .u32 b, .int .u32 c, .int .i64 m0, .int .i64 m1, .int .i64 m2, .int .i64 m3, .int .u32 m4, .int .i64 n0, .int .i64 n1, .int .i64 n2, .int .i64 n3, .int .u32 n4, .int .i64 p0, .int .i64 p1, .int .i64 p2, .int .i64 p3, .int .u32 p4] : List Value) ∧ World.there wF C 0 25) := Lib.hid (by rw [← hF]; exact ⟨nbelow_cells HB2.out.1 HE.out.2.2.1 _ _, World.rangeAt_setCells_same w2 C 0 ([.pointer (some ⟨s, 0, none⟩), .int .i64 r0, .int .i64 r1, .int .i64 r2, .int .i64 r3, .int .u32 r4, .int .u32 o, .int .u32 a, .int .u32 b, .int .u32 c, .int .i64 m0, .int .i64 m1, .int .i64 m2, .int .i64 m3, .int .u32 m4, .int .i64 n0, .int .i64 n1, .int .i64 n2, .int .i64 n3, .int .u32 n4, .int .i64 p0, .int .i64 p1, .int .i64 p2, .int .i64 p3, .int .u32 p4] : List Value) HB2.out.2, World.there_setCells HB2.out.2 _ _ _⟩)
      clear hF
      refine hK.out _ _ (HS1.out _ HF.out.1) (fun hHeld => ?_)
      clear hK K
      (try simp only [Act.put, List.getElem_toArray, List.getElem_cons_succ, List.getElem_cons_zero, List.setIfInBounds_toArray, List.set_cons_zero, List.set_cons_succ])
      refine wpAnyH_done (by kernel_rfl) ?_ _
      refine NoPanic.normal ?_
      go_wp2_with fail
      go_meet
      exact ⟨C, rfl, HF.out.1, HF.out.2.1, HF.out.2.2, HE.out.2.2.1, cell_lt (CallC.cell HF.out.2.1 0 _ rfl)⟩
  case rest =>
    obtain ⟨C, rfl, hb, hr, ht, hC1, hC2⟩ := hcut
    have HC := Lib.hid (⟨HR.out.1.trans (hb.mono HR.out.1.size), hr, ht, Nat.le_trans HR.out.1.size hC1, nthere_below HR.out.2.2.2.1 hb HR.out.2.2.2.2.2.1, Nat.lt_of_lt_of_le HR.out.2.2.2.2.2.1 hC1, hC2⟩ : Below w.heap.size w wc ∧ wc.rangeAt C 0 ([.pointer (some ⟨s, 0, none⟩), .int .i64 r0, .int .i64 r1, .int .i64 r2, .int .i64 r3, .int .u32 r4, .int .u32 o, .int .u32 a, .int .u32 b, .int .u32 c, .int .i64 m0, .int .i64 m1, .int .i64 m2, .int .i64 m3, .int .u32 m4, .int .i64 n0, .int .i64 n1, .int .i64 n2, .int .i64 n3, .int .u32 n4, .int .i64 p0, .int .i64 p1, .int .i64 p2, .int .i64 p3, .int .u32 p4] : List Value) ∧ World.there wc C 0 25 ∧ w.heap.size ≤ C ∧ World.there wc R 0 19 ∧ R < C ∧ C < wc.heap.size)
    have HJ4 : Hid (wc.rangeAt J 4 ([.int .i64 m0, .int .i64 m1, .int .i64 m2, .int .i64 m3, .int .u32 m4, .int .i64 n0, .int .i64 n1, .int .i64 n2, .int .i64 n3, .int .u32 n4, .int .i64 p0, .int .i64 p1, .int .i64 p2, .int .i64 p3, .int .u32 p4] : List Value)) := Lib.hid (range_drop (k := 4) (range_below HR.out.2.2.1 hb (Nat.lt_trans HR.out.2.2.2.2.1 HR.out.2.2.2.2.2.1)))
    clear hb hr ht hC1 hC2
    have hi0 : ∀ W, (Instr.index 62 (.agg ([.int .i64 m0, .int .i64 m1, .int .i64 m2, .int .i64 m3, .int .u32 m4, .int .i64 n0, .int .i64 n1, .int .i64 n2, .int .i64 n3, .int .u32 n4, .int .i64 p0, .int .i64 p1, .int .i64 p2, .int .i64 p3, .int .u32 p4] : List Value).toArray) (.int .i64 0)).run Tryz.prog W = .ok (Value.agg #[.int .i64 m0, .int .i64 m1, .int .i64 m2, .int .i64 m3, .int .u32 m4]) W := by intro W; kernel_rfl
    have hi1 : ∀ W, (Instr.index 62 (.agg ([.int .i64 m0, .int .i64 m1, .int .i64 m2, .int .i64 m3, .int .u32 m4, .int .i64 n0, .int .i64 n1, .int .i64 n2, .int .i64 n3, .int .u32 n4, .int .i64 p0, .int .i64 p1, .int .i64 p2, .int .i64 p3, .int .u32 p4] : List Value).toArray) (.int .i64 1)).run Tryz.prog W = .ok (Value.agg #[.int .i64 n0, .int .i64 n1, .int .i64 n2, .int .i64 n3, .int .u32 n4]) W := by intro W; kernel_rfl
    have hi2 : ∀ W, (Instr.index 62 (.agg ([.int .i64 m0, .int .i64 m1, .int .i64 m2, .int .i64 m3, .int .u32 m4, .int .i64 n0, .int .i64 n1, .int .i64 n2, .int .i64 n3, .int .u32 n4, .int .i64 p0, .int .i64 p1, .int .i64 p2, .int .i64 p3, .int .u32 p4] : List Value).toArray) (.int .i64 2)).run Tryz.prog W = .ok (Value.agg #[.int .i64 p0, .int .i64 p1, .int .i64 p2, .int .i64 p3, .int .u32 p4]) W := by intro W; kernel_rfl
    go_wp2_with (first
      | (refine wpList_load_mid (by rfl) _ _ (by rfl) J 4 (by rfl) ([.int .i64 m0, .int .i64 m1, .int .i64 m2, .int .i64 m3, .int .u32 m4, .int .i64 n0, .int .i64 n1, .int .i64 n2, .int .i64 n3, .int .u32 n4, .int .i64 p0, .int .i64 p1, .int .i64 p2, .int .i64 p3, .int .u32 p4] : List Value) _ HJ4.out Tryz.underlying62 rfl (by kernel_rfl) ?_))
    refine wp_loop_rounds 4 ?_
    rw [rounds_succ]
    go_upto_region 5 with fail; generalize hA : World.alloc wc _ = wg; obtain ⟨XB, hXB⟩ : ∃ XB, XB = wc.heap.size := ⟨_, rfl⟩; have HG : Hid (Below wc.heap.size wc wg ∧ KeyC wg XB m0 m1 m2 m3 m4 ∧ World.rangeAt wg C 0 ([.pointer (some ⟨s, 0, none⟩), .int .i64 r0, .int .i64 r1, .int .i64 r2, .int .i64 r3, .int .u32 r4, .int .u32 o, .int .u32 a, .int .u32 b, .int .u32 c, .int .i64 m0, .int .i64 m1, .int .i64 m2, .int .i64 m3, .int .u32 m4, .int .i64 n0, .int .i64 n1, .int .i64 n2, .int .i64 n3, .int .u32 n4, .int .i64 p0, .int .i64 p1, .int .i64 p2, .int .i64 p3, .int .u32 p4] : List Value) ∧ World.there wg C 0 25 ∧ Below w.heap.size w wg ∧ C < wg.heap.size) := Lib.hid (by rw [← hA, hXB]; exact ⟨(Below.refl _ _).alloc (Nat.le_refl _) _, KeyC.new _ _ _ _ _ _ _, range_below (HC).out.2.1 ((Below.refl _ _).alloc (Nat.le_refl _) _) (HC).out.2.2.2.2.2.2, nthere_below (HC).out.2.2.1 ((Below.refl _ _).alloc (Nat.le_refl _) _) (HC).out.2.2.2.2.2.2, (HC).out.1.trans (Below.mono ((Below.refl _ _).alloc (Nat.le_refl _) _) (HC).out.1.size), Nat.lt_of_lt_of_le (HC).out.2.2.2.2.2.2 (by simp)⟩); rw [← hXB]; clear hA hXB; obtain ⟨q0, q1, q2, q3, q4⟩ := ofive (HG).out.2.1; go_upto_region 6 with (first | (go_at_call 23; (with_reducible refine ((HSm).out _ (HG).out.2.2.2.2.1).mono ?_); rintro e wg2 ⟨rfl, hb⟩; have HGx : Hid (Below w.heap.size w wg2 ∧ World.rangeAt wg2 C 0 ([.pointer (some ⟨s, 0, none⟩), .int .i64 r0, .int .i64 r1, .int .i64 r2, .int .i64 r3, .int .u32 r4, .int .u32 o, .int .u32 a, .int .u32 b, .int .u32 c, .int .i64 m0, .int .i64 m1, .int .i64 m2, .int .i64 m3, .int .u32 m4, .int .i64 n0, .int .i64 n1, .int .i64 n2, .int .i64 n3, .int .u32 n4, .int .i64 p0, .int .i64 p1, .int .i64 p2, .int .i64 p3, .int .u32 p4] : List Value) ∧ World.there wg2 C 0 25 ∧ World.there wg2 R 0 19) := (Lib.hid ⟨(HG).out.2.2.2.2.1.trans (hb.mono (HG).out.2.2.2.2.1.size), range_below (HG).out.2.2.1 hb (HG).out.2.2.2.2.2, nthere_below (HG).out.2.2.2.1 hb (HG).out.2.2.2.2.2, nthere_below (HC).out.2.2.2.2.1 ((HG).out.1.trans (hb.mono (HG).out.1.size)) (Nat.lt_trans (HC).out.2.2.2.2.2.1 (HC).out.2.2.2.2.2.2)⟩); clear hb q0 q1 q2 q3 q4) | (refine wpList_store_mid (by rfl) _ _ _ (by rfl) C 10 ([.int .i64 x0, .int .i64 x1, .int .i64 x2, .int .i64 x3, .int .u32 x4] : List Value).toArray (by rfl) (by rfl) (there_part (HGx).out.2.2.1 10 (by decide)) infoK5 (akey_one _ _ _ _ _) ?_)); generalize hA : World.setCells wg2 _ _ _ = wh; have HH : Hid (Below w.heap.size w wh ∧ World.rangeAt wh C 0 ([.pointer (some ⟨s, 0, none⟩), .int .i64 r0, .int .i64 r1, .int .i64 r2, .int .i64 r3, .int .u32 r4, .int .u32 o, .int .u32 a, .int .u32 b, .int .u32 c, .int .i64 x0, .int .i64 x1, .int .i64 x2, .int .i64 x3, .int .u32 x4, .int .i64 n0, .int .i64 n1, .int .i64 n2, .int .i64 n3, .int .u32 n4, .int .i64 p0, .int .i64 p1, .int .i64 p2, .int .i64 p3, .int .u32 p4] : List Value) ∧ World.there wh C 0 25 ∧ w.heap.size ≤ C ∧ World.there wh R 0 19 ∧ R < C ∧ C < wh.heap.size) := (Lib.hid (by rw [← hA]; exact ⟨nbelow_cells (HGx).out.1 (HC).out.2.2.2.1 _ _, range_set5 (HGx).out.2.1 10 _ _ _ _ _, World.there_setCells (HGx).out.2.2.1 _ _ _, (HC).out.2.2.2.1, World.there_setCells (HGx).out.2.2.2 _ _ _, (HC).out.2.2.2.2.2.1, cell_lt (CallC.cell (range_set5 (HGx).out.2.1 10 _ _ _ _ _) 0 _ rfl)⟩)); clear hA; go_wp2_with fail
    rw [rounds_succ]
    go_upto_region 5 with fail; generalize hA : World.alloc wh _ = wi; obtain ⟨XB, hXB⟩ : ∃ XB, XB = wh.heap.size := ⟨_, rfl⟩; have HI : Hid (Below wh.heap.size wh wi ∧ KeyC wi XB n0 n1 n2 n3 n4 ∧ World.rangeAt wi C 0 ([.pointer (some ⟨s, 0, none⟩), .int .i64 r0, .int .i64 r1, .int .i64 r2, .int .i64 r3, .int .u32 r4, .int .u32 o, .int .u32 a, .int .u32 b, .int .u32 c, .int .i64 x0, .int .i64 x1, .int .i64 x2, .int .i64 x3, .int .u32 x4, .int .i64 n0, .int .i64 n1, .int .i64 n2, .int .i64 n3, .int .u32 n4, .int .i64 p0, .int .i64 p1, .int .i64 p2, .int .i64 p3, .int .u32 p4] : List Value) ∧ World.there wi C 0 25 ∧ Below w.heap.size w wi ∧ C < wi.heap.size) := Lib.hid (by rw [← hA, hXB]; exact ⟨(Below.refl _ _).alloc (Nat.le_refl _) _, KeyC.new _ _ _ _ _ _ _, range_below (HH).out.2.1 ((Below.refl _ _).alloc (Nat.le_refl _) _) (HH).out.2.2.2.2.2.2, nthere_below (HH).out.2.2.1 ((Below.refl _ _).alloc (Nat.le_refl _) _) (HH).out.2.2.2.2.2.2, (HH).out.1.trans (Below.mono ((Below.refl _ _).alloc (Nat.le_refl _) _) (HH).out.1.size), Nat.lt_of_lt_of_le (HH).out.2.2.2.2.2.2 (by simp)⟩); rw [← hXB]; clear hA hXB; obtain ⟨q0, q1, q2, q3, q4⟩ := ofive (HI).out.2.1; go_upto_region 6 with (first | (go_at_call 23; (with_reducible refine ((HSn).out _ (HI).out.2.2.2.2.1).mono ?_); rintro e wi2 ⟨rfl, hb⟩; have HIx : Hid (Below w.heap.size w wi2 ∧ World.rangeAt wi2 C 0 ([.pointer (some ⟨s, 0, none⟩), .int .i64 r0, .int .i64 r1, .int .i64 r2, .int .i64 r3, .int .u32 r4, .int .u32 o, .int .u32 a, .int .u32 b, .int .u32 c, .int .i64 x0, .int .i64 x1, .int .i64 x2, .int .i64 x3, .int .u32 x4, .int .i64 n0, .int .i64 n1, .int .i64 n2, .int .i64 n3, .int .u32 n4, .int .i64 p0, .int .i64 p1, .int .i64 p2, .int .i64 p3, .int .u32 p4] : List Value) ∧ World.there wi2 C 0 25 ∧ World.there wi2 R 0 19) := (Lib.hid ⟨(HI).out.2.2.2.2.1.trans (hb.mono (HI).out.2.2.2.2.1.size), range_below (HI).out.2.2.1 hb (HI).out.2.2.2.2.2, nthere_below (HI).out.2.2.2.1 hb (HI).out.2.2.2.2.2, nthere_below (HH).out.2.2.2.2.1 ((HI).out.1.trans (hb.mono (HI).out.1.size)) (Nat.lt_trans (HH).out.2.2.2.2.2.1 (HH).out.2.2.2.2.2.2)⟩); clear hb q0 q1 q2 q3 q4) | (refine wpList_store_mid (by rfl) _ _ _ (by rfl) C 15 ([.int .i64 y0, .int .i64 y1, .int .i64 y2, .int .i64 y3, .int .u32 y4] : List Value).toArray (by rfl) (by rfl) (there_part (HIx).out.2.2.1 15 (by decide)) infoK5 (akey_one _ _ _ _ _) ?_)); generalize hA : World.setCells wi2 _ _ _ = wj; have HJ2 : Hid (Below w.heap.size w wj ∧ World.rangeAt wj C 0 ([.pointer (some ⟨s, 0, none⟩), .int .i64 r0, .int .i64 r1, .int .i64 r2, .int .i64 r3, .int .u32 r4, .int .u32 o, .int .u32 a, .int .u32 b, .int .u32 c, .int .i64 x0, .int .i64 x1, .int .i64 x2, .int .i64 x3, .int .u32 x4, .int .i64 y0, .int .i64 y1, .int .i64 y2, .int .i64 y3, .int .u32 y4, .int .i64 p0, .int .i64 p1, .int .i64 p2, .int .i64 p3, .int .u32 p4] : List Value) ∧ World.there wj C 0 25 ∧ w.heap.size ≤ C ∧ World.there wj R 0 19 ∧ R < C ∧ C < wj.heap.size) := (Lib.hid (by rw [← hA]; exact ⟨nbelow_cells (HIx).out.1 (HH).out.2.2.2.1 _ _, range_set5 (HIx).out.2.1 15 _ _ _ _ _, World.there_setCells (HIx).out.2.2.1 _ _ _, (HH).out.2.2.2.1, World.there_setCells (HIx).out.2.2.2 _ _ _, (HH).out.2.2.2.2.2.1, cell_lt (CallC.cell (range_set5 (HIx).out.2.1 15 _ _ _ _ _) 0 _ rfl)⟩)); clear hA; go_wp2_with fail
    rw [rounds_succ]
    go_upto_region 5 with fail; generalize hA : World.alloc wj _ = wk; obtain ⟨XB, hXB⟩ : ∃ XB, XB = wj.heap.size := ⟨_, rfl⟩; have HL : Hid (Below wj.heap.size wj wk ∧ KeyC wk XB p0 p1 p2 p3 p4 ∧ World.rangeAt wk C 0 ([.pointer (some ⟨s, 0, none⟩), .int .i64 r0, .int .i64 r1, .int .i64 r2, .int .i64 r3, .int .u32 r4, .int .u32 o, .int .u32 a, .int .u32 b, .int .u32 c, .int .i64 x0, .int .i64 x1, .int .i64 x2, .int .i64 x3, .int .u32 x4, .int .i64 y0, .int .i64 y1, .int .i64 y2, .int .i64 y3, .int .u32 y4, .int .i64 p0, .int .i64 p1, .int .i64 p2, .int .i64 p3, .int .u32 p4] : List Value) ∧ World.there wk C 0 25 ∧ Below w.heap.size w wk ∧ C < wk.heap.size) := Lib.hid (by rw [← hA, hXB]; exact ⟨(Below.refl _ _).alloc (Nat.le_refl _) _, KeyC.new _ _ _ _ _ _ _, range_below (HJ2).out.2.1 ((Below.refl _ _).alloc (Nat.le_refl _) _) (HJ2).out.2.2.2.2.2.2, nthere_below (HJ2).out.2.2.1 ((Below.refl _ _).alloc (Nat.le_refl _) _) (HJ2).out.2.2.2.2.2.2, (HJ2).out.1.trans (Below.mono ((Below.refl _ _).alloc (Nat.le_refl _) _) (HJ2).out.1.size), Nat.lt_of_lt_of_le (HJ2).out.2.2.2.2.2.2 (by simp)⟩); rw [← hXB]; clear hA hXB; obtain ⟨q0, q1, q2, q3, q4⟩ := ofive (HL).out.2.1; go_upto_region 6 with (first | (go_at_call 23; (with_reducible refine ((HSp).out _ (HL).out.2.2.2.2.1).mono ?_); rintro e wk2 ⟨rfl, hb⟩; have HLx : Hid (Below w.heap.size w wk2 ∧ World.rangeAt wk2 C 0 ([.pointer (some ⟨s, 0, none⟩), .int .i64 r0, .int .i64 r1, .int .i64 r2, .int .i64 r3, .int .u32 r4, .int .u32 o, .int .u32 a, .int .u32 b, .int .u32 c, .int .i64 x0, .int .i64 x1, .int .i64 x2, .int .i64 x3, .int .u32 x4, .int .i64 y0, .int .i64 y1, .int .i64 y2, .int .i64 y3, .int .u32 y4, .int .i64 p0, .int .i64 p1, .int .i64 p2, .int .i64 p3, .int .u32 p4] : List Value) ∧ World.there wk2 C 0 25 ∧ World.there wk2 R 0 19) := (Lib.hid ⟨(HL).out.2.2.2.2.1.trans (hb.mono (HL).out.2.2.2.2.1.size), range_below (HL).out.2.2.1 hb (HL).out.2.2.2.2.2, nthere_below (HL).out.2.2.2.1 hb (HL).out.2.2.2.2.2, nthere_below (HJ2).out.2.2.2.2.1 ((HL).out.1.trans (hb.mono (HL).out.1.size)) (Nat.lt_trans (HJ2).out.2.2.2.2.2.1 (HJ2).out.2.2.2.2.2.2)⟩); clear hb q0 q1 q2 q3 q4) | (refine wpList_store_mid (by rfl) _ _ _ (by rfl) C 20 ([.int .i64 z0, .int .i64 z1, .int .i64 z2, .int .i64 z3, .int .u32 z4] : List Value).toArray (by rfl) (by rfl) (there_part (HLx).out.2.2.1 20 (by decide)) infoK5 (akey_one _ _ _ _ _) ?_)); generalize hA : World.setCells wk2 _ _ _ = wl; have HM : Hid (Below w.heap.size w wl ∧ World.rangeAt wl C 0 ([.pointer (some ⟨s, 0, none⟩), .int .i64 r0, .int .i64 r1, .int .i64 r2, .int .i64 r3, .int .u32 r4, .int .u32 o, .int .u32 a, .int .u32 b, .int .u32 c, .int .i64 x0, .int .i64 x1, .int .i64 x2, .int .i64 x3, .int .u32 x4, .int .i64 y0, .int .i64 y1, .int .i64 y2, .int .i64 y3, .int .u32 y4, .int .i64 z0, .int .i64 z1, .int .i64 z2, .int .i64 z3, .int .u32 z4] : List Value) ∧ World.there wl C 0 25 ∧ w.heap.size ≤ C ∧ World.there wl R 0 19 ∧ R < C ∧ C < wl.heap.size) := (Lib.hid (by rw [← hA]; exact ⟨nbelow_cells (HLx).out.1 (HJ2).out.2.2.2.1 _ _, range_set5 (HLx).out.2.1 20 _ _ _ _ _, World.there_setCells (HLx).out.2.2.1 _ _ _, (HJ2).out.2.2.2.1, World.there_setCells (HLx).out.2.2.2 _ _ _, (HJ2).out.2.2.2.2.2.1, cell_lt (CallC.cell (range_set5 (HLx).out.2.1 20 _ _ _ _ _) 0 _ rfl)⟩)); clear hA; go_wp2_with fail
    rw [rounds_succ]
    have q1 := CallC.cell HM.out.2.1 1 _ rfl
    have hRn : w.heap.size ≤ R := HR.out.2.2.2.2.2.2
    have hsz : nt.toArray.size = 19 := by simp [hnl]
    go_upto_region 9 with fail
    go_wp2_with (first
      | (refine wpList_load_mid (by rfl) _ _ (by rfl) C 0 (by rfl) ([.pointer (some ⟨s, 0, none⟩), .int .i64 r0, .int .i64 r1, .int .i64 r2, .int .i64 r3, .int .u32 r4, .int .u32 o, .int .u32 a, .int .u32 b, .int .u32 c, .int .i64 x0, .int .i64 x1, .int .i64 x2, .int .i64 x3, .int .u32 x4, .int .i64 y0, .int .i64 y1, .int .i64 y2, .int .i64 y3, .int .u32 y4, .int .i64 z0, .int .i64 z1, .int .i64 z2, .int .i64 z3, .int .u32 z4] : List Value) _ HM.out.2.1 Tryz.underlying129 rfl infoCall ?_)
      | (go_at_call 81; (with_reducible refine (HAn.out _ HM.out.1).mono ?_); rintro e w9 ⟨rfl, hq, hu⟩; have H9 := Lib.hid hq; have HU9 := Lib.hid hu; have HT9 : Hid (World.there w9 R 0 19) := (Lib.hid (nthere_same HM.out.2.2.2.2.1 (hu.2 R (Nat.le_trans hN hRn) (Nat.lt_trans HM.out.2.2.2.2.2.1 HM.out.2.2.2.2.2.2)))); clear hq hu)
      | (refine wpList_store_mid (by rfl) _ _ _ (by rfl) R 0 nt.toArray (by rfl) (by rfl) (by rw [hsz]; exact HT9.out) (by rw [hsz]; exact infoNote) (all_one hn1) ?_))
    have HS : Hid (Below w.heap.size w9 (w9.setCells R 0 nt.toArray.toList) ∧ (w9.setCells R 0 nt.toArray.toList).rangeAt R 0 nt) := Lib.hid ⟨nbelow_cells (Below.refl _ _) hRn _ _, World.rangeAt_setCells_same w9 R 0 nt (by rw [hnl]; exact HT9.out)⟩
    have hld := nload hnl HS.out.2
    refine bodyPost_ret (v := (.tuple #[.agg nt.toArray, .bool true])) (by simp [results, Tryz.results32, Act.put, asAddr, hld]) rfl ⟨rfl, HQ.out _ _ H9.out (HS.out.1.mono hN), ((UpT.below HM.out.1).trans HU9.out).low HS.out.1 (Nat.le_refl _)⟩
end Go.Proofs.YtncopdhhchmpeaaGreatDoor
namespace Go.Proofs.YtncopdhhchmpeaaGreatDoor
open Go.ChangeShapes Go.WideShapes Go.ChangeAt Go.RowKit
set_option linter.unusedVariables false
set_option linter.unusedSimpArgs false
set_option maxRecDepth 100000 in
set_option maxHeartbeats 2000000 in
theorem madd_pos {base P p B G n c : Nat} {th : Nat → Bool} {vr pr tk : Nat → Int} (z : Int) (z0 : 0 < z) (z1 : z ≤ 100000) (k : Nat) (hk : k < n) (ht : Hid (th k = true)) (x : Int) (x0 : 0 ≤ x) (x1 : x ≤ 100000) (hx : Hid (tk k = x)) (g c' : Nat) (w : World) (hg : w.cell? ⟨g, 0, none⟩ = some (.int .i64 k)) (h : MtAt w base P p B G n c th vr pr tk) :
    Calls Tryz.prog 150 #[.pointer (some ⟨P, 0, none⟩), .int .i64 z, .slice (some ⟨g, 0, none⟩) 1 c'] w fun e w' => e = .returned (.int .i64 1) ∧ MtAt w' base P p B G n c th vr pr (upd tk k (x + z)) ∧ PBelow w w' B G := by
  have H := Lib.hid h
  have f0 := h.f0
  have f1 := h.f1
  have c1 := h.at1 k hk
  rw [hx.out] at c1
  have z9 := h.row.frozenAt (k * 2 + 1)
  have hn := h.ar.le
  have k0 : (0 : Int) ≤ k := by omega
  have k1 : (k : Int) < n := by omega
  have e1 : IntKind.i64.wrap (2147483647 - x) = 2147483647 - x := by rw [IntKind.wrap_i64]; omega
  have e2 : decide (2147483647 - x < z) = false := decide_eq_false (by omega)
  have e3 : (if 2147483647 - x < z then 2147483647 - x else z) = z := if_neg (by omega)
  have e5 : IntKind.i64.wrap (x + z) = x + z := by rw [IntKind.wrap_i64]; omega
  have HN := Lib.hid (h.put1 k hk (x + z))
  clear h hn
  go_enter Tryz.func150, Tryz.ntmps150
  go_wp2_with fail
  refine wp_loop_rounds 2 ?_
  rw [rounds_succ]
  go_wp2_with (first
    | (go_at_call 63; (with_reducible refine (athere_in k hk true ht _ H.out.ar).mono ?_); rintro e w1 ⟨rfl, rfl⟩))
  rw [rounds_succ]
  go_wp2_with fail
  go_ret
  exact ⟨rfl, HN.out.1, PBelow.of HN.out.2 (.inr rfl)⟩
set_option maxRecDepth 100000 in
set_option maxHeartbeats 2000000 in
theorem madd_zero {base P p B G n c : Nat} {th : Nat → Bool} {vr pr tk : Nat → Int} (k : Nat) (hk : k < n) (ht : Hid (th k = true)) (x : Int) (x0 : 0 ≤ x) (x1 : x ≤ 100000) (hx : Hid (tk k = x)) (g c' : Nat) (w : World) (hg : w.cell? ⟨g, 0, none⟩ = some (.int .i64 k)) (h : MtAt w base P p B G n c th vr pr tk) :
    Calls Tryz.prog 150 #[.pointer (some ⟨P, 0, none⟩), .int .i64 0, .slice (some ⟨g, 0, none⟩) 1 c'] w fun e w' => e = .returned (.int .i64 1) ∧ MtAt w' base P p B G n c th vr pr (upd tk k x) ∧ PBelow w w' B G := by
  have H := Lib.hid h
  have f0 := h.f0
  have f1 := h.f1
  have c1 := h.at1 k hk
  rw [hx.out] at c1
  have z9 := h.row.frozenAt (k * 2 + 1)
  have hn := h.ar.le
  have k0 : (0 : Int) ≤ k := by omega
  have k1 : (k : Int) < n := by omega
  have e1 : IntKind.i64.wrap (2147483647 - x) = 2147483647 - x := by rw [IntKind.wrap_i64]; omega
  have e2 : decide (2147483647 - x < 0) = false := decide_eq_false (by omega)
  have e3 : (if 2147483647 - x < 0 then 2147483647 - x else 0) = 0 := if_neg (by omega)
  have e5 : IntKind.i64.wrap x = x := by rw [IntKind.wrap_i64]; omega
  have HN := Lib.hid (h.put1 k hk x)
  clear h hn
  go_enter Tryz.func150, Tryz.ntmps150
  go_wp2_with fail
  refine wp_loop_rounds 2 ?_
  rw [rounds_succ]
  go_wp2_with (first
    | (go_at_call 63; (with_reducible refine (athere_in k hk true ht _ H.out.ar).mono ?_); rintro e w1 ⟨rfl, rfl⟩))
  rw [rounds_succ]
  go_wp2_with fail
  go_ret
  exact ⟨rfl, HN.out.1, PBelow.of HN.out.2 (.inr rfl)⟩
theorem madd_one {base P p B G n c : Nat} {th : Nat → Bool} {vr pr tk : Nat → Int} (z : Int) (z0 : 0 ≤ z) (z1 : z ≤ 100000) (k : Nat) (hk : k < n) (ht : Hid (th k = true)) (x : Int) (x0 : 0 ≤ x) (x1 : x ≤ 100000) (hx : Hid (tk k = x)) (g c' : Nat) (w : World) (hg : w.cell? ⟨g, 0, none⟩ = some (.int .i64 k)) (h : MtAt w base P p B G n c th vr pr tk) :
    Calls Tryz.prog 150 #[.pointer (some ⟨P, 0, none⟩), .int .i64 z, .slice (some ⟨g, 0, none⟩) 1 c'] w fun e w' => e = .returned (.int .i64 1) ∧ MtAt w' base P p B G n c th vr pr (upd tk k (x + z)) ∧ PBelow w w' B G := by
  by_cases hz : z = 0
  · subst hz
    rw [Int.add_zero]
    exact madd_zero k hk ht x x0 x1 hx g c' w hg h
  · exact madd_pos z (by omega) z1 k hk ht x x0 x1 hx g c' w hg h
theorem MS.pb0 {w : World} {L : BLoc} {X : SLoc} {th : Nat → Bool} {vr pr tk : Nat → Int} (h : MS w L X th vr pr tk) {w1 w2 : World} (h1 : PBelow w w1 X.tR X.tG) (h2 : Below w.heap.size w1 w2) : PBelow w w2 X.tR X.tG := h1.low h2
section
variable {L : BLoc} {X : SLoc} {th : Nat → Bool} {vr pr tk : Nat → Int} {cs : List Value} {id v0 o x : Int}
set_option maxRecDepth 100000 in
set_option maxHeartbeats 2000000 in
theorem cmeter_0 (k : Nat) (hid : Hid (id = (k : Int))) (hk : k < 8) (ht : Hid (th k = true)) (t : Int) (t0 : 0 ≤ t) (t1 : t ≤ 1000000) (htk : Hid (tk k = t)) (hc : Hid (CallC cs X.s 7 id v0 0 0 0 x)) (w : World) (h : MS w L X th vr pr tk) :
    Calls Tryz.prog 116 #[(.agg cs.toArray)] w fun e w' => e = .returned (Value.agg #[.int .u32 0, .int .u32 t, .int .u32 0, .int .u32 0, .int .i64 0, .int .i64 0, .int .i64 0, .int .i64 0, .int .u32 0, .int .i64 0, .int .i64 0, .int .i64 0, .int .i64 0, .int .u32 0, .int .i64 0, .int .i64 0, .int .i64 0, .int .i64 0, .int .u32 0]) ∧ MS w' L X th vr pr tk ∧ PBelow w w' X.tR X.tG := by
  have H := Lib.hid h
  have hw : IntKind.u32.wrap t = t := by rw [IntKind.wrap_u32]; omega
  have hn : k < X.tn := by rw [h.n8]; exact hk
  clear h
  go_enter Tryz.func116, Tryz.ntmps116; go_upto_region 1 with fail; generalize hA : World.alloc w _ = wK; obtain ⟨C, hC⟩ : ∃ C, C = w.heap.size := ⟨_, rfl⟩; have HK : Hid (Below w.heap.size w wK ∧ wK.rangeAt C 0 cs ∧ wK.heap.size = C + 1) := Lib.hid (by rw [← hA, hC]; exact ⟨(Below.refl _ _).alloc (Nat.le_refl _) _, cbox _ _ _, by simp⟩); have HCl : Hid (w.heap.size ≤ C) := Lib.hid (by rw [hC]; exact Nat.le_refl _); rw [← hC]; clear hA hC; generalize hA : World.alloc wK _ = wA; obtain ⟨R, hR⟩ : ∃ R, R = C + 1 := ⟨_, rfl⟩; have HA : Hid (Below w.heap.size w wA ∧ wA.rangeAt C 0 cs ∧ World.there wA R 0 19 ∧ C < R ∧ R < wA.heap.size) := Lib.hid (by rw [← hA, hR, ← HK.out.2.2]; exact ⟨HK.out.1.alloc HK.out.1.size _, range_below HK.out.2.1 ((Below.refl _ _).alloc (Nat.le_refl _) _) (by have := HK.out.2.2; omega), nthere_new _ _ 19 (by rfl) _, by have := HK.out.2.2; omega, by simp⟩); rw [← hR]; clear hA hR
  have q0 := CallC.cell HA.out.2.1 0 _ hc.out.c0; have q2 := CallC.cell HA.out.2.1 2 _ hc.out.c2; have q6 := CallC.cell HA.out.2.1 6 _ hc.out.c6
  have HMa := Lib.hid (H.out.below HA.out.1)
  have sc := HMa.out.b.c2
  rw [hid.out] at q2
  go_upto_region 4 with fail
  go_wp2_with (first
    | (go_at_call 149; (with_reducible refine (mticks_is k hn ht t htk _ HMa.out.t).mono ?_); rintro e w1 ⟨rfl, rfl⟩)
    | (go_at_call 133; (with_reducible refine (owords_one t wA.heap.size 1 _ (by simp)).mono ?_); rintro e w2 ⟨rfl, hb⟩; have HB2 : Hid (Below wA.heap.size wA w2) := Lib.hid (((Below.refl wA.heap.size wA).alloc (Nat.le_refl _) _).trans (hb.mono (by simp))); have HT2 := Lib.hid (nthere_below HA.out.2.2.1 HB2.out HA.out.2.2.2.2); clear hb)
    | (refine wpList_store_mid (by rfl) _ _ _ (by rfl) R 0 ([.int .u32 0, .int .u32 t, .int .u32 0, .int .u32 0, .int .i64 0, .int .i64 0, .int .i64 0, .int .i64 0, .int .u32 0, .int .i64 0, .int .i64 0, .int .i64 0, .int .i64 0, .int .u32 0, .int .i64 0, .int .i64 0, .int .i64 0, .int .i64 0, .int .u32 0] : List Value).toArray (by rfl) (by rfl) HT2.out infoNote (note_one _ _ _ _ _ _ _ _ _ _ _ _ _ _ _ _ _ _ _) ?_))
  have hRn : w.heap.size ≤ R := by have := HA.out.2.2.2.1; have := HCl.out; omega
  generalize hS : World.setCells w2 _ _ _ = wS
  have HS : Hid (Below w.heap.size w wS ∧ wS.rangeAt R 0 [.int .u32 0, .int .u32 t, .int .u32 0, .int .u32 0, .int .i64 0, .int .i64 0, .int .i64 0, .int .i64 0, .int .u32 0, .int .i64 0, .int .i64 0, .int .i64 0, .int .i64 0, .int .u32 0, .int .i64 0, .int .i64 0, .int .i64 0, .int .i64 0, .int .u32 0]) := Lib.hid (by rw [← hS]; exact ⟨nbelow_cells (HA.out.1.trans (HB2.out.mono HA.out.1.size)) hRn _ _, World.rangeAt_setCells_same w2 R 0 [.int .u32 0, .int .u32 t, .int .u32 0, .int .u32 0, .int .i64 0, .int .i64 0, .int .i64 0, .int .i64 0, .int .u32 0, .int .i64 0, .int .i64 0, .int .i64 0, .int .i64 0, .int .u32 0, .int .i64 0, .int .i64 0, .int .i64 0, .int .i64 0, .int .u32 0] HT2.out⟩)
  have hld := nload rfl HS.out.2
  refine bodyPost_ret (v := (Value.agg #[.int .u32 0, .int .u32 t, .int .u32 0, .int .u32 0, .int .i64 0, .int .i64 0, .int .i64 0, .int .i64 0, .int .u32 0, .int .i64 0, .int .i64 0, .int .i64 0, .int .i64 0, .int .u32 0, .int .i64 0, .int .i64 0, .int .i64 0, .int .i64 0, .int .u32 0])) (by simp [results, Tryz.results116, Act.put, asAddr, hld]) rfl ⟨rfl, H.out.below HS.out.1, PBelow.of_below HS.out.1⟩
set_option maxRecDepth 100000 in
set_option maxHeartbeats 2000000 in
theorem cmeter_1no (hx : 2147483647 < x) (hc : Hid (CallC cs X.s 7 id v0 0 0 1 x)) (w : World) (h : MS w L X th vr pr tk) :
    Calls Tryz.prog 116 #[(.agg cs.toArray)] w fun e w' => e = .returned (Value.agg #[.int .u32 3, .int .u32 0, .int .u32 0, .int .u32 0, .int .i64 0, .int .i64 0, .int .i64 0, .int .i64 0, .int .u32 0, .int .i64 0, .int .i64 0, .int .i64 0, .int .i64 0, .int .u32 0, .int .i64 0, .int .i64 0, .int .i64 0, .int .i64 0, .int .u32 0]) ∧ MS w' L X th vr pr tk ∧ PBelow w w' X.tR X.tG := by
  have H := Lib.hid h
  have d1 : decide (2147483647 < x) = true := decide_eq_true hx
  clear h
  go_enter Tryz.func116, Tryz.ntmps116; go_upto_region 1 with fail; generalize hA : World.alloc w _ = wK; obtain ⟨C, hC⟩ : ∃ C, C = w.heap.size := ⟨_, rfl⟩; have HK : Hid (Below w.heap.size w wK ∧ wK.rangeAt C 0 cs ∧ wK.heap.size = C + 1) := Lib.hid (by rw [← hA, hC]; exact ⟨(Below.refl _ _).alloc (Nat.le_refl _) _, cbox _ _ _, by simp⟩); have HCl : Hid (w.heap.size ≤ C) := Lib.hid (by rw [hC]; exact Nat.le_refl _); rw [← hC]; clear hA hC; generalize hA : World.alloc wK _ = wA; obtain ⟨R, hR⟩ : ∃ R, R = C + 1 := ⟨_, rfl⟩; have HA : Hid (Below w.heap.size w wA ∧ wA.rangeAt C 0 cs ∧ World.there wA R 0 19 ∧ C < R ∧ R < wA.heap.size) := Lib.hid (by rw [← hA, hR, ← HK.out.2.2]; exact ⟨HK.out.1.alloc HK.out.1.size _, range_below HK.out.2.1 ((Below.refl _ _).alloc (Nat.le_refl _) _) (by have := HK.out.2.2; omega), nthere_new _ _ 19 (by rfl) _, by have := HK.out.2.2; omega, by simp⟩); rw [← hR]; clear hA hR
  have q0 := CallC.cell HA.out.2.1 0 _ hc.out.c0; have q2 := CallC.cell HA.out.2.1 2 _ hc.out.c2; have q6 := CallC.cell HA.out.2.1 6 _ hc.out.c6
  go_upto_region 7 with (first | (refine wpList_load_mid (by rfl) _ _ (by rfl) C 0 (by rfl) cs _ HA.out.2.1 Tryz.underlying129 rfl (by rw [hc.out.len]; exact infoCall) ?_) | (go_at_call 140; (with_reducible refine (oword_is hc _).mono ?_); rintro e w1 ⟨rfl, hb⟩; have HB1 := Lib.hid hb; clear hb))
  have HT1 : Hid (World.there w1 R 0 19) := Lib.hid (nthere_below HA.out.2.2.1 HB1.out HA.out.2.2.2.2)
  go_wp2_with (first
    | (go_at_call 124; (with_reducible refine (ofails_is 3 (by decide) (by decide) _).mono ?_); rintro e w2 ⟨rfl, hb⟩; have HB2 : Hid (Below wA.heap.size wA w2) := Lib.hid (HB1.out.trans (hb.mono HB1.out.size)); have HT2 := Lib.hid (nthere_below HA.out.2.2.1 HB2.out HA.out.2.2.2.2); clear hb)
    | (refine wpList_store_mid (by rfl) _ _ _ (by rfl) R 0 ([.int .u32 3, .int .u32 0, .int .u32 0, .int .u32 0, .int .i64 0, .int .i64 0, .int .i64 0, .int .i64 0, .int .u32 0, .int .i64 0, .int .i64 0, .int .i64 0, .int .i64 0, .int .u32 0, .int .i64 0, .int .i64 0, .int .i64 0, .int .i64 0, .int .u32 0] : List Value).toArray (by rfl) (by rfl) HT2.out infoNote (note_one _ _ _ _ _ _ _ _ _ _ _ _ _ _ _ _ _ _ _) ?_))
  have hRn : w.heap.size ≤ R := by have := HA.out.2.2.2.1; have := HCl.out; omega
  generalize hS : World.setCells w2 _ _ _ = wS
  have HS : Hid (Below w.heap.size w wS ∧ wS.rangeAt R 0 [.int .u32 3, .int .u32 0, .int .u32 0, .int .u32 0, .int .i64 0, .int .i64 0, .int .i64 0, .int .i64 0, .int .u32 0, .int .i64 0, .int .i64 0, .int .i64 0, .int .i64 0, .int .u32 0, .int .i64 0, .int .i64 0, .int .i64 0, .int .i64 0, .int .u32 0]) := Lib.hid (by rw [← hS]; exact ⟨nbelow_cells (HA.out.1.trans (HB2.out.mono HA.out.1.size)) hRn _ _, World.rangeAt_setCells_same w2 R 0 [.int .u32 3, .int .u32 0, .int .u32 0, .int .u32 0, .int .i64 0, .int .i64 0, .int .i64 0, .int .i64 0, .int .u32 0, .int .i64 0, .int .i64 0, .int .i64 0, .int .i64 0, .int .u32 0, .int .i64 0, .int .i64 0, .int .i64 0, .int .i64 0, .int .u32 0] HT2.out⟩)
  have hld := nload rfl HS.out.2
  refine bodyPost_ret (v := (Value.agg #[.int .u32 3, .int .u32 0, .int .u32 0, .int .u32 0, .int .i64 0, .int .i64 0, .int .i64 0, .int .i64 0, .int .u32 0, .int .i64 0, .int .i64 0, .int .i64 0, .int .i64 0, .int .u32 0, .int .i64 0, .int .i64 0, .int .i64 0, .int .i64 0, .int .u32 0])) (by simp [results, Tryz.results116, Act.put, asAddr, hld]) rfl ⟨rfl, H.out.below HS.out.1, PBelow.of_below HS.out.1⟩
set_option maxRecDepth 100000 in
set_option maxHeartbeats 4000000 in
theorem cmeter_1 (k : Nat) (hid : Hid (id = (k : Int))) (hk : k < 8) (ht : Hid (th k = true)) (t : Int) (t0 : 0 ≤ t) (t1 : t ≤ 100000) (htk : Hid (tk k = t)) (x0 : 0 ≤ x) (x1 : x ≤ 100000) (hc : Hid (CallC cs X.s 7 id v0 0 0 1 x)) (w : World) (h : MS w L X th vr pr tk) :
    Calls Tryz.prog 116 #[(.agg cs.toArray)] w fun e w' => e = .returned (Value.agg #[.int .u32 0, .int .u32 0, .int .u32 0, .int .u32 0, .int .i64 0, .int .i64 0, .int .i64 0, .int .i64 0, .int .u32 0, .int .i64 0, .int .i64 0, .int .i64 0, .int .i64 0, .int .u32 0, .int .i64 0, .int .i64 0, .int .i64 0, .int .i64 0, .int .u32 0]) ∧ MS w' L X th vr pr (upd tk k (t + x)) ∧ PBelow w w' X.tR X.tG := by
  have H := Lib.hid h
  have d1 : decide (2147483647 < x) = false := decide_eq_false (by omega)
  have hn : k < X.tn := by rw [h.n8]; exact hk
  have hx9 : x ≤ 4294967295 := by omega
  clear h
  go_enter Tryz.func116, Tryz.ntmps116; go_upto_region 1 with fail; generalize hA : World.alloc w _ = wK; obtain ⟨C, hC⟩ : ∃ C, C = w.heap.size := ⟨_, rfl⟩; have HK : Hid (Below w.heap.size w wK ∧ wK.rangeAt C 0 cs ∧ wK.heap.size = C + 1) := Lib.hid (by rw [← hA, hC]; exact ⟨(Below.refl _ _).alloc (Nat.le_refl _) _, cbox _ _ _, by simp⟩); have HCl : Hid (w.heap.size ≤ C) := Lib.hid (by rw [hC]; exact Nat.le_refl _); rw [← hC]; clear hA hC; generalize hA : World.alloc wK _ = wA; obtain ⟨R, hR⟩ : ∃ R, R = C + 1 := ⟨_, rfl⟩; have HA : Hid (Below w.heap.size w wA ∧ wA.rangeAt C 0 cs ∧ World.there wA R 0 19 ∧ C < R ∧ R < wA.heap.size) := Lib.hid (by rw [← hA, hR, ← HK.out.2.2]; exact ⟨HK.out.1.alloc HK.out.1.size _, range_below HK.out.2.1 ((Below.refl _ _).alloc (Nat.le_refl _) _) (by have := HK.out.2.2; omega), nthere_new _ _ 19 (by rfl) _, by have := HK.out.2.2; omega, by simp⟩); rw [← hR]; clear hA hR
  have q0 := CallC.cell HA.out.2.1 0 _ hc.out.c0; have q2 := CallC.cell HA.out.2.1 2 _ hc.out.c2; have q6 := CallC.cell HA.out.2.1 6 _ hc.out.c6
  go_upto_region 8 with (first | (refine wpList_load_mid (by rfl) _ _ (by rfl) C 0 (by rfl) cs _ HA.out.2.1 Tryz.underlying129 rfl (by rw [hc.out.len]; exact infoCall) ?_) | (go_at_call 140; (with_reducible refine (oword_is hc _).mono ?_); rintro e w1 ⟨rfl, hb⟩; have HB1 := Lib.hid hb; clear hb))
  rw [hid.out]
  have hRl : Hid (X.tR < w.heap.size ∧ X.tG < w.heap.size ∧ w.heap.size ≤ R ∧ w.heap.size ≤ C) := Lib.hid (by have := HA.out.2.2.2.1; have := HCl.out; have := H.out.lts.R; have := H.out.lts.G; omega)
  have HM1 := Lib.hid (H.out.below (HA.out.1.trans (HB1.out.mono HA.out.1.size)))
  have HP1 : Hid (Below w.heap.size w w1) := Lib.hid (HA.out.1.trans (HB1.out.mono HA.out.1.size))
  have HR1 : Hid (w1.rangeAt C 0 cs ∧ World.there w1 R 0 19 ∧ C < w1.heap.size ∧ R < w1.heap.size) := Lib.hid ⟨range_below HA.out.2.1 HB1.out (Nat.lt_trans HA.out.2.2.2.1 HA.out.2.2.2.2), nthere_below HA.out.2.2.1 HB1.out HA.out.2.2.2.2, Nat.lt_of_lt_of_le (Nat.lt_trans HA.out.2.2.2.1 HA.out.2.2.2.2) HB1.out.size, Nat.lt_of_lt_of_le HA.out.2.2.2.2 HB1.out.size⟩
  have HS1 : Hid (∀ W, Below w1.heap.size w1 W → (World.cell? W ⟨C, 0, none⟩ = some (.pointer (some ⟨X.s, 0, none⟩)) ∧ World.cell? W ⟨X.s, 2, none⟩ = some (.pointer (some ⟨X.tP, 0, none⟩)) ∧ World.rangeAt W C 0 cs)) := Lib.hid (fun W hW => ⟨CallC.cell (range_below HR1.out.1 hW HR1.out.2.2.1) 0 _ hc.out.c0, (HM1.out.below hW).b.c2, range_below HR1.out.1 hW HR1.out.2.2.1⟩)
  go_cut [] (fun wx => MS wx L X th vr pr (upd tk k (t + x)) ∧ PBelow w wx X.tR X.tG ∧ World.there wx R 0 19 ∧ R < wx.heap.size)
  case first =>
    obtain ⟨wD, hwD⟩ : ∃ wD, wD = w1.drew := ⟨_, rfl⟩
    have HBd : Hid (Below w1.heap.size w1 wD) := Lib.hid (by rw [hwD]; exact (Below.refl _ _).drew)
    refine wp_region_noPanic ?_
    refine wp_region_held_drew (S := fun w' => (World.cell? w' ⟨C, 0, none⟩ = some (.pointer (some ⟨X.s, 0, none⟩)) ∧ World.cell? w' ⟨X.s, 2, none⟩ = some (.pointer (some ⟨X.tP, 0, none⟩)) ∧ World.rangeAt w' C 0 cs)) (by kernel_rfl) (by rw [← hwD]; exact HS1.out _ HBd.out) (fun hHeld => ?_)
    rw [← hwD] at hHeld ⊢
    clear hwD
    refine wpAnyH_take (i := 0) (v := ?_) (by rfl) (by kernel_rfl) (by kernel_rfl) (by kernel_rfl) (fun _ _ _ h => h) (Or.inl ⟨by kernel_rfl, ?_⟩) (by assumption) ?_; rotate_left 1; (focus (intro w hSw; (try dsimp only at hSw); simp only [List.getElem_toArray, List.getElem_cons_succ, List.getElem_cons_zero]; all_goals go_simp; all_goals (try with_reducible rfl))); (try simp only [Act.put, List.getElem_toArray, List.getElem_cons_succ, List.getElem_cons_zero, List.setIfInBounds_toArray, List.set_cons_zero, List.set_cons_succ])
    refine wpAnyH_take (i := 1) (v := ?_) (by rfl) (by kernel_rfl) (by kernel_rfl) (by kernel_rfl) (fun _ _ _ h => h) (Or.inl ⟨by kernel_rfl, ?_⟩) (by assumption) ?_; rotate_left 1; (focus (intro w hSw; (try dsimp only at hSw); simp only [List.getElem_toArray, List.getElem_cons_succ, List.getElem_cons_zero]; all_goals go_simp; all_goals (try with_reducible rfl))); (try simp only [Act.put, List.getElem_toArray, List.getElem_cons_succ, List.getElem_cons_zero, List.setIfInBounds_toArray, List.set_cons_zero, List.set_cons_succ])
    refine wpAnyH_take (i := 2) (v := ?_) (by rfl) (by kernel_rfl) (by kernel_rfl) (by kernel_rfl) (fun _ _ _ h => h) (Or.inl ⟨by kernel_rfl, ?_⟩) (by assumption) ?_; rotate_left 1; (focus (intro w hSw; (try dsimp only at hSw); simp only [List.getElem_toArray, List.getElem_cons_succ, List.getElem_cons_zero]; all_goals go_simp; all_goals (try with_reducible rfl))); (try simp only [Act.put, List.getElem_toArray, List.getElem_cons_succ, List.getElem_cons_zero, List.setIfInBounds_toArray, List.set_cons_zero, List.set_cons_succ])
    refine wpAnyH_take (i := 3) (v := ?_) (by rfl) (by kernel_rfl) (by kernel_rfl) (by kernel_rfl) (fun _ _ _ h => h) (Or.inl ⟨by kernel_rfl, ?_⟩) (by assumption) ?_; rotate_left 1; (focus (intro w hSw; (try dsimp only at hSw); simp only [List.getElem_toArray, List.getElem_cons_succ, List.getElem_cons_zero]; all_goals go_simp; all_goals (try with_reducible rfl))); (try simp only [Act.put, List.getElem_toArray, List.getElem_cons_succ, List.getElem_cons_zero, List.setIfInBounds_toArray, List.set_cons_zero, List.set_cons_succ])
    refine wpAnyH_take (i := 4) (v := ?_) (by rfl) (by kernel_rfl) (by kernel_rfl) (by kernel_rfl) (fun _ _ _ h => h) (Or.inl ⟨by kernel_rfl, ?_⟩) (by assumption) ?_; rotate_left 1; (focus (intro w hSw; (try dsimp only at hSw); simp only [List.getElem_toArray, List.getElem_cons_succ, List.getElem_cons_zero]; all_goals go_simp; all_goals (try with_reducible rfl))); (try simp only [Act.put, List.getElem_toArray, List.getElem_cons_succ, List.getElem_cons_zero, List.setIfInBounds_toArray, List.set_cons_zero, List.set_cons_succ])
    refine wpAnyH_take (i := 5) (v := .agg cs.toArray) (by rfl) (by kernel_rfl) (by kernel_rfl) (by kernel_rfl) (fun _ _ _ h => h) (Or.inl ⟨by kernel_rfl, (fun w hSw => cload_exec (Operand.tmp 1) (by rfl) (by rfl) hc.out.len hSw.2.2)⟩) (by assumption) ?_; (try simp only [Act.put, List.getElem_toArray, List.getElem_cons_succ, List.getElem_cons_zero, List.setIfInBounds_toArray, List.set_cons_zero, List.set_cons_succ])
    refine wpAnyH_take (i := 7) (v := ?_) (by rfl) (by kernel_rfl) (by kernel_rfl) (by kernel_rfl) (fun _ _ _ h => h) (Or.inl ⟨by kernel_rfl, ?_⟩) (by assumption) ?_; rotate_left 1; (focus (intro w hSw; (try dsimp only at hSw); simp only [List.getElem_toArray, List.getElem_cons_succ, List.getElem_cons_zero]; all_goals go_simp; all_goals (try with_reducible rfl))); (try simp only [Act.put, List.getElem_toArray, List.getElem_cons_succ, List.getElem_cons_zero, List.setIfInBounds_toArray, List.set_cons_zero, List.set_cons_succ])
    refine wpAnyH_ready (rs := [6, 8]) (by kernel_rfl) (by simp) ?_
    refine AllReadyH.cons (by rfl) (fun K hK => ?_) (AllReadyH.cons (by rfl) (fun K hK => ?_) AllReadyH.nil)
    · rw [if_pos (by kernel_rfl)]; simp only [List.getElem_toArray, List.getElem_cons_succ, List.getElem_cons_zero]
      go_wp2_with (first | (go_at_call 135; (with_reducible refine (oplace_is hc x0 hx9 _).mono ?_); rintro e w2 ⟨rfl, hb⟩; have HB2 := Lib.hid (HBd.out.trans (hb.mono HBd.out.size)); clear hb))
      refine hK.out _ _ (HS1.out _ HB2.out) (fun hHeld => ?_)
      clear hK K
      (try simp only [Act.put, List.getElem_toArray, List.getElem_cons_succ, List.getElem_cons_zero, List.setIfInBounds_toArray, List.set_cons_zero, List.set_cons_succ])
      refine wpAnyH_ready (rs := [8]) (by kernel_rfl) (by simp) ?_; refine AllReadyH.cons (by rfl) (fun K hK => ?_) AllReadyH.nil; rw [if_pos (by kernel_rfl)]; simp only [List.getElem_toArray, List.getElem_cons_succ, List.getElem_cons_zero]
      go_wp2_with fail
      generalize hE : World.alloc w2 _ = wE
      obtain ⟨g, hg⟩ : ∃ g, g = w2.heap.size := ⟨_, rfl⟩
      have HE : Hid (Below w1.heap.size w1 wE ∧ wE.cell? ⟨g, 0, none⟩ = some (.int .i64 k)) := Lib.hid (by rw [← hE, hg]; exact ⟨HB2.out.alloc HB2.out.size _, by simp⟩)
      rw [← hg]
      clear hE hg
      refine hK.out _ _ (HS1.out _ HE.out.1) (fun hHeld => ?_)
      clear hK K
      (try simp only [Act.put, List.getElem_toArray, List.getElem_cons_succ, List.getElem_cons_zero, List.setIfInBounds_toArray, List.set_cons_zero, List.set_cons_succ])
      refine wpAnyH_ready (rs := [9]) (by kernel_rfl) (by simp) ?_; refine AllReadyH.cons (by rfl) (fun K hK => ?_) AllReadyH.nil; rw [if_pos (by kernel_rfl)]; simp only [List.getElem_toArray, List.getElem_cons_succ, List.getElem_cons_zero]
      have HME := Lib.hid (HM1.out.below HE.out.1)
      go_wp2_with (first | (go_at_call 150; (with_reducible refine (madd_one x x0 x1 k hn ht t t0 t1 htk _ _ _ HE.out.2 HME.out.t).mono ?_); rintro e w9 ⟨rfl, hM, hb⟩; have H9 : Hid (MS w9 L X th vr pr (upd tk k (t + x)) ∧ PBelow wE w9 X.tR X.tG) := (Lib.hid ⟨HME.out.turn hM hb, hb⟩); clear hM hb)); have HB9 : Hid (PBelow w1 w9 X.tR X.tG) := Lib.hid ((PBelow.of_below (HE).out.1).trans H9.out.2); have hRs : C ≠ X.tR ∧ C ≠ X.tG ∧ R ≠ X.tR ∧ R ≠ X.tG := (by have := hRl.out; omega); have HR9 : Hid (w9.rangeAt C 0 cs) := Lib.hid (range_same HR1.out.1 (HB9.out.2.2.2.2 C HR1.out.2.2.1 hRs.1 hRs.2.1)); refine hK.out _ _ ⟨CallC.cell HR9.out 0 _ hc.out.c0, H9.out.1.b.c2, HR9.out⟩ (fun hHeld => ?_); clear hK K; (try simp only [Act.put, List.getElem_toArray, List.getElem_cons_succ, List.getElem_cons_zero, List.setIfInBounds_toArray, List.set_cons_zero, List.set_cons_succ]); refine wpAnyH_done (by kernel_rfl) ?_ _; refine NoPanic.normal ?_; go_wp2_with fail; go_meet; exact ⟨H9.out.1, (PBelow.of_below HP1.out).trans HB9.out, nthere_same HR1.out.2.1 (HB9.out.2.2.2.2 R HR1.out.2.2.2 hRs.2.2.1 hRs.2.2.2), Nat.lt_of_lt_of_le HR1.out.2.2.2 HB9.out.2.2.2.1⟩
    · rw [if_pos (by kernel_rfl)]; simp only [List.getElem_toArray, List.getElem_cons_succ, List.getElem_cons_zero]
      go_wp2_with fail
      generalize hE : World.alloc wD _ = wE
      obtain ⟨g, hg⟩ : ∃ g, g = wD.heap.size := ⟨_, rfl⟩
      have HE : Hid (Below w1.heap.size w1 wE ∧ wE.cell? ⟨g, 0, none⟩ = some (.int .i64 k)) := Lib.hid (by rw [← hE, hg]; exact ⟨HBd.out.alloc HBd.out.size _, by simp⟩)
      rw [← hg]
      clear hE hg
      refine hK.out _ _ (HS1.out _ HE.out.1) (fun hHeld => ?_)
      clear hK K
      (try simp only [Act.put, List.getElem_toArray, List.getElem_cons_succ, List.getElem_cons_zero, List.setIfInBounds_toArray, List.set_cons_zero, List.set_cons_succ])
      refine wpAnyH_ready (rs := [6]) (by kernel_rfl) (by simp) ?_; refine AllReadyH.cons (by rfl) (fun K hK => ?_) AllReadyH.nil; rw [if_pos (by kernel_rfl)]; simp only [List.getElem_toArray, List.getElem_cons_succ, List.getElem_cons_zero]
      go_wp2_with (first | (go_at_call 135; (with_reducible refine (oplace_is hc x0 hx9 _).mono ?_); rintro e w2 ⟨rfl, hb⟩; have HB2 : Hid (Below w1.heap.size w1 w2 ∧ w2.cell? ⟨g, 0, none⟩ = some (.int .i64 k)) := Lib.hid ⟨HE.out.1.trans (hb.mono HE.out.1.size), (hb.cell (p := ⟨g, 0, none⟩) (cell_lt HE.out.2)).trans HE.out.2⟩; clear hb))
      refine hK.out _ _ (HS1.out _ HB2.out.1) (fun hHeld => ?_)
      clear hK K
      (try simp only [Act.put, List.getElem_toArray, List.getElem_cons_succ, List.getElem_cons_zero, List.setIfInBounds_toArray, List.set_cons_zero, List.set_cons_succ])
      refine wpAnyH_ready (rs := [9]) (by kernel_rfl) (by simp) ?_; refine AllReadyH.cons (by rfl) (fun K hK => ?_) AllReadyH.nil; rw [if_pos (by kernel_rfl)]; simp only [List.getElem_toArray, List.getElem_cons_succ, List.getElem_cons_zero]
      have HME := Lib.hid (HM1.out.below HB2.out.1)
      go_wp2_with (first | (go_at_call 150; (with_reducible refine (madd_one x x0 x1 k hn ht t t0 t1 htk _ _ _ HB2.out.2 HME.out.t).mono ?_); rintro e w9 ⟨rfl, hM, hb⟩; have H9 : Hid (MS w9 L X th vr pr (upd tk k (t + x)) ∧ PBelow w2 w9 X.tR X.tG) := (Lib.hid ⟨HME.out.turn hM hb, hb⟩); clear hM hb)); have HB9 : Hid (PBelow w1 w9 X.tR X.tG) := Lib.hid ((PBelow.of_below (HB2).out.1).trans H9.out.2); have hRs : C ≠ X.tR ∧ C ≠ X.tG ∧ R ≠ X.tR ∧ R ≠ X.tG := (by have := hRl.out; omega); have HR9 : Hid (w9.rangeAt C 0 cs) := Lib.hid (range_same HR1.out.1 (HB9.out.2.2.2.2 C HR1.out.2.2.1 hRs.1 hRs.2.1)); refine hK.out _ _ ⟨CallC.cell HR9.out 0 _ hc.out.c0, H9.out.1.b.c2, HR9.out⟩ (fun hHeld => ?_); clear hK K; (try simp only [Act.put, List.getElem_toArray, List.getElem_cons_succ, List.getElem_cons_zero, List.setIfInBounds_toArray, List.set_cons_zero, List.set_cons_succ]); refine wpAnyH_done (by kernel_rfl) ?_ _; refine NoPanic.normal ?_; go_wp2_with fail; go_meet; exact ⟨H9.out.1, (PBelow.of_below HP1.out).trans HB9.out, nthere_same HR1.out.2.1 (HB9.out.2.2.2.2 R HR1.out.2.2.2 hRs.2.2.1 hRs.2.2.2), Nat.lt_of_lt_of_le HR1.out.2.2.2 HB9.out.2.2.2.1⟩
  case rest =>
    obtain ⟨hm, hp, ht, hl⟩ := hcut
    have HC := Lib.hid (⟨hm, hp, ht, hl⟩ : MS wc L X th vr pr (upd tk k (t + x)) ∧ PBelow w wc X.tR X.tG ∧ World.there wc R 0 19 ∧ R < wc.heap.size)
    clear hm hp ht hl
    go_wp2_with (first
      | (go_at_call 133; (with_reducible refine (owords_none _).mono ?_); rintro e w2 ⟨rfl, hb⟩; have HB2 := Lib.hid hb; have HT2 : Hid (World.there w2 R 0 19) := Lib.hid (nthere_below HC.out.2.2.1 hb HC.out.2.2.2); clear hb)
      | (refine wpList_store_mid (by rfl) _ _ _ (by rfl) R 0 ([.int .u32 0, .int .u32 0, .int .u32 0, .int .u32 0, .int .i64 0, .int .i64 0, .int .i64 0, .int .i64 0, .int .u32 0, .int .i64 0, .int .i64 0, .int .i64 0, .int .i64 0, .int .u32 0, .int .i64 0, .int .i64 0, .int .i64 0, .int .i64 0, .int .u32 0] : List Value).toArray (by rfl) (by rfl) HT2.out infoNote (note_one _ _ _ _ _ _ _ _ _ _ _ _ _ _ _ _ _ _ _) ?_))
    generalize hS : World.setCells w2 _ _ _ = wS
    have HS : Hid (Below w.heap.size wc wS ∧ wS.rangeAt R 0 [.int .u32 0, .int .u32 0, .int .u32 0, .int .u32 0, .int .i64 0, .int .i64 0, .int .i64 0, .int .i64 0, .int .u32 0, .int .i64 0, .int .i64 0, .int .i64 0, .int .i64 0, .int .u32 0, .int .i64 0, .int .i64 0, .int .i64 0, .int .i64 0, .int .u32 0]) := Lib.hid (by rw [← hS]; exact ⟨nbelow_cells (HB2.out.mono HC.out.2.1.2.2.2.1) hRl.out.2.2.1 _ _, World.rangeAt_setCells_same w2 R 0 [.int .u32 0, .int .u32 0, .int .u32 0, .int .u32 0, .int .i64 0, .int .i64 0, .int .i64 0, .int .i64 0, .int .u32 0, .int .i64 0, .int .i64 0, .int .i64 0, .int .i64 0, .int .u32 0, .int .i64 0, .int .i64 0, .int .i64 0, .int .i64 0, .int .u32 0] HT2.out⟩)
    have hld := nload rfl HS.out.2
    refine bodyPost_ret (v := (Value.agg #[.int .u32 0, .int .u32 0, .int .u32 0, .int .u32 0, .int .i64 0, .int .i64 0, .int .i64 0, .int .i64 0, .int .u32 0, .int .i64 0, .int .i64 0, .int .i64 0, .int .i64 0, .int .u32 0, .int .i64 0, .int .i64 0, .int .i64 0, .int .i64 0, .int .u32 0])) (by simp [results, Tryz.results116, Act.put, asAddr, hld]) rfl ⟨rfl, HC.out.1.low HS.out.1 H.out.lts, HC.out.2.1.low HS.out.1⟩
set_option maxRecDepth 100000 in
set_option maxHeartbeats 4000000 in
theorem cmeter_2 (j i : Nat) (hid : Hid (id = (j : Int))) (hi : i = j + 1) (hj7 : j ≤ 6) (hth : Hid (∀ q, q ≤ j → th q = true)) (hpr : Hid (∀ q, q ≤ j → pr q = (q : Int) - 1)) (hyes : Hid (freeB th vr i = true)) (hno : Hid (∀ q, q < i → freeB th vr q = false)) (v : Int) (hv : Hid (vr i = v)) (x0 : 0 ≤ x) (x1 : x ≤ 1000) (hc : Hid (CallC cs X.s 7 id v0 0 0 2 x)) (w : World) (h : MS w L X th vr pr tk) :
    Calls Tryz.prog 116 #[(.agg cs.toArray)] w fun e w' => e = .returned (Value.agg #[.int .u32 0, .int .u32 0, .int .u32 0, .int .u32 0, .int .i64 7, .int .i64 i, .int .i64 v, .int .i64 0, .int .u32 0, .int .i64 0, .int .i64 0, .int .i64 0, .int .i64 0, .int .u32 0, .int .i64 0, .int .i64 0, .int .i64 0, .int .i64 0, .int .u32 0]) ∧ MS w' L X (upd th i true) vr (upd pr i j) (upd tk i x) ∧ PBelow w w' X.tR X.tG := by
  have H := Lib.hid h
  have hn : i < X.tn := by rw [h.n8]; omega
  have hx9 : x ≤ 4294967295 := by omega
  have HI := Lib.hid hi
  have hl : Hid ((thereB X.tn (upd th i true) (i : Int) && (vr ((i : Int)).toNat == v)) = true) := Lib.hid (by
    have h1 : (i : Int).toNat = i := by omega
    have h2 : (i : Int) < X.tn := by omega
    rw [h1, hv.out]
    simp [thereB, upd, h2])
  clear h hi
  go_enter Tryz.func116, Tryz.ntmps116; go_upto_region 1 with fail; generalize hA : World.alloc w _ = wK; obtain ⟨C, hC⟩ : ∃ C, C = w.heap.size := ⟨_, rfl⟩; have HK : Hid (Below w.heap.size w wK ∧ wK.rangeAt C 0 cs ∧ wK.heap.size = C + 1) := Lib.hid (by rw [← hA, hC]; exact ⟨(Below.refl _ _).alloc (Nat.le_refl _) _, cbox _ _ _, by simp⟩); have HCl : Hid (w.heap.size ≤ C) := Lib.hid (by rw [hC]; exact Nat.le_refl _); rw [← hC]; clear hA hC; generalize hA : World.alloc wK _ = wA; obtain ⟨R, hR⟩ : ∃ R, R = C + 1 := ⟨_, rfl⟩; have HA : Hid (Below w.heap.size w wA ∧ wA.rangeAt C 0 cs ∧ World.there wA R 0 19 ∧ C < R ∧ R < wA.heap.size) := Lib.hid (by rw [← hA, hR, ← HK.out.2.2]; exact ⟨HK.out.1.alloc HK.out.1.size _, range_below HK.out.2.1 ((Below.refl _ _).alloc (Nat.le_refl _) _) (by have := HK.out.2.2; omega), nthere_new _ _ 19 (by rfl) _, by have := HK.out.2.2; omega, by simp⟩); rw [← hR]; clear hA hR
  have q0 := CallC.cell HA.out.2.1 0 _ hc.out.c0; have q2 := CallC.cell HA.out.2.1 2 _ hc.out.c2; have q6 := CallC.cell HA.out.2.1 6 _ hc.out.c6
  have hRl : Hid (X.tR < w.heap.size ∧ X.tG < w.heap.size ∧ w.heap.size ≤ R ∧ w.heap.size ≤ C) := Lib.hid (by have := HA.out.2.2.2.1; have := HCl.out; have := H.out.lts.R; have := H.out.lts.G; omega)
  go_upto_region 11 with fail
  rw [hid.out]
  have HM1 := Lib.hid (H.out.below HA.out.1)
  have HR1 : Hid (C < wA.heap.size) := Lib.hid (Nat.lt_trans HA.out.2.2.2.1 HA.out.2.2.2.2)
  have HS1 : Hid (∀ W, Below wA.heap.size wA W → (World.cell? W ⟨C, 0, none⟩ = some (.pointer (some ⟨X.s, 0, none⟩)) ∧ World.cell? W ⟨X.s, 2, none⟩ = some (.pointer (some ⟨X.tP, 0, none⟩)) ∧ World.rangeAt W C 0 cs)) := Lib.hid (fun W hW => ⟨CallC.cell (range_below HA.out.2.1 hW HR1.out) 0 _ hc.out.c0, (HM1.out.below hW).b.c2, range_below HA.out.2.1 hW HR1.out⟩)
  obtain ⟨wD, hwD⟩ : ∃ wD, wD = wA.drew := ⟨_, rfl⟩
  have HBd : Hid (Below wA.heap.size wA wD) := Lib.hid (by rw [hwD]; exact (Below.refl _ _).drew)
  refine wp_region_noPanic ?_
  refine wp_region_held_drew (S := fun w' => (World.cell? w' ⟨C, 0, none⟩ = some (.pointer (some ⟨X.s, 0, none⟩)) ∧ World.cell? w' ⟨X.s, 2, none⟩ = some (.pointer (some ⟨X.tP, 0, none⟩)) ∧ World.rangeAt w' C 0 cs)) (by kernel_rfl) (by rw [← hwD]; exact HS1.out _ HBd.out) (fun hHeld => ?_)
  rw [← hwD] at hHeld ⊢
  clear hwD
  refine wpAnyH_take (i := 0) (v := ?_) (by rfl) (by kernel_rfl) (by kernel_rfl) (by kernel_rfl) (fun _ _ _ h => h) (Or.inl ⟨by kernel_rfl, ?_⟩) (by assumption) ?_; rotate_left 1; (focus (intro w hSw; (try dsimp only at hSw); simp only [List.getElem_toArray, List.getElem_cons_succ, List.getElem_cons_zero]; all_goals go_simp; all_goals (try with_reducible rfl))); (try simp only [Act.put, List.getElem_toArray, List.getElem_cons_succ, List.getElem_cons_zero, List.setIfInBounds_toArray, List.set_cons_zero, List.set_cons_succ])
  refine wpAnyH_take (i := 1) (v := ?_) (by rfl) (by kernel_rfl) (by kernel_rfl) (by kernel_rfl) (fun _ _ _ h => h) (Or.inl ⟨by kernel_rfl, ?_⟩) (by assumption) ?_; rotate_left 1; (focus (intro w hSw; (try dsimp only at hSw); simp only [List.getElem_toArray, List.getElem_cons_succ, List.getElem_cons_zero]; all_goals go_simp; all_goals (try with_reducible rfl))); (try simp only [Act.put, List.getElem_toArray, List.getElem_cons_succ, List.getElem_cons_zero, List.setIfInBounds_toArray, List.set_cons_zero, List.set_cons_succ])
  refine wpAnyH_take (i := 2) (v := ?_) (by rfl) (by kernel_rfl) (by kernel_rfl) (by kernel_rfl) (fun _ _ _ h => h) (Or.inl ⟨by kernel_rfl, ?_⟩) (by assumption) ?_; rotate_left 1; (focus (intro w hSw; (try dsimp only at hSw); simp only [List.getElem_toArray, List.getElem_cons_succ, List.getElem_cons_zero]; all_goals go_simp; all_goals (try with_reducible rfl))); (try simp only [Act.put, List.getElem_toArray, List.getElem_cons_succ, List.getElem_cons_zero, List.setIfInBounds_toArray, List.set_cons_zero, List.set_cons_succ])
  refine wpAnyH_take (i := 3) (v := ?_) (by rfl) (by kernel_rfl) (by kernel_rfl) (by kernel_rfl) (fun _ _ _ h => h) (Or.inl ⟨by kernel_rfl, ?_⟩) (by assumption) ?_; rotate_left 1; (focus (intro w hSw; (try dsimp only at hSw); simp only [List.getElem_toArray, List.getElem_cons_succ, List.getElem_cons_zero]; all_goals go_simp; all_goals (try with_reducible rfl))); (try simp only [Act.put, List.getElem_toArray, List.getElem_cons_succ, List.getElem_cons_zero, List.setIfInBounds_toArray, List.set_cons_zero, List.set_cons_succ])
  refine wpAnyH_take (i := 4) (v := ?_) (by rfl) (by kernel_rfl) (by kernel_rfl) (by kernel_rfl) (fun _ _ _ h => h) (Or.inl ⟨by kernel_rfl, ?_⟩) (by assumption) ?_; rotate_left 1; (focus (intro w hSw; (try dsimp only at hSw); simp only [List.getElem_toArray, List.getElem_cons_succ, List.getElem_cons_zero]; all_goals go_simp; all_goals (try with_reducible rfl))); (try simp only [Act.put, List.getElem_toArray, List.getElem_cons_succ, List.getElem_cons_zero, List.setIfInBounds_toArray, List.set_cons_zero, List.set_cons_succ])
  refine wpAnyH_take (i := 5) (v := ?_) (by rfl) (by kernel_rfl) (by kernel_rfl) (by kernel_rfl) (fun _ _ _ h => h) (Or.inl ⟨by kernel_rfl, ?_⟩) (by assumption) ?_; rotate_left 1; (focus (intro w hSw; (try dsimp only at hSw); simp only [List.getElem_toArray, List.getElem_cons_succ, List.getElem_cons_zero]; all_goals go_simp; all_goals (try with_reducible rfl))); (try simp only [Act.put, List.getElem_toArray, List.getElem_cons_succ, List.getElem_cons_zero, List.setIfInBounds_toArray, List.set_cons_zero, List.set_cons_succ])
  refine wpAnyH_take (i := 6) (v := .agg cs.toArray) (by rfl) (by kernel_rfl) (by kernel_rfl) (by kernel_rfl) (fun _ _ _ h => h) (Or.inl ⟨by kernel_rfl, (fun w hSw => cload_exec (Operand.tmp 1) (by rfl) (by rfl) hc.out.len hSw.2.2)⟩) (by assumption) ?_; (try simp only [Act.put, List.getElem_toArray, List.getElem_cons_succ, List.getElem_cons_zero, List.setIfInBounds_toArray, List.set_cons_zero, List.set_cons_succ])
  refine wpAnyH_ready (rs := [7]) (by kernel_rfl) (by simp) ?_; refine AllReadyH.cons (by rfl) (fun K hK => ?_) AllReadyH.nil; rw [if_pos (by kernel_rfl)]; simp only [List.getElem_toArray, List.getElem_cons_succ, List.getElem_cons_zero]
  go_wp2_with (first | (go_at_call 135; (with_reducible refine (oplace_is hc x0 hx9 _).mono ?_); rintro e w2 ⟨rfl, hb⟩; have HB2 := Lib.hid (HBd.out.trans (hb.mono HBd.out.size)); clear hb))
  refine hK.out _ _ (HS1.out _ HB2.out) (fun hHeld => ?_)
  clear hK K
  (try simp only [Act.put, List.getElem_toArray, List.getElem_cons_succ, List.getElem_cons_zero, List.setIfInBounds_toArray, List.set_cons_zero, List.set_cons_succ])
  have HM2 := Lib.hid (HM1.out.below HB2.out)
  refine wpAnyH_ready (rs := [8]) (by kernel_rfl) (by simp) ?_; refine AllReadyH.cons (by rfl) (fun K hK => ?_) AllReadyH.nil; rw [if_pos (by kernel_rfl)]; simp only [List.getElem_toArray, List.getElem_cons_succ, List.getElem_cons_zero]
  go_wp2_with (first | (go_at_call 19; (with_reducible refine (mmake_next j i HI.out hj7 x x0 x1 hn hth hpr hyes hno v hv _ HM2.out.t).mono ?_); rintro e w9 ⟨rfl, hM, hb⟩; have H9 : Hid (MS w9 L X (upd th i true) vr (upd pr i j) (upd tk i x) ∧ PBelow wA w9 X.tR X.tG) := (Lib.hid ⟨HM2.out.turn hM hb, (PBelow.of_below HB2.out).trans hb⟩); clear hM hb))
  have hRs : C ≠ X.tR ∧ C ≠ X.tG ∧ R ≠ X.tR ∧ R ≠ X.tG := by have := hRl.out; omega
  have HR9 : Hid (w9.rangeAt C 0 cs ∧ World.there w9 R 0 19 ∧ R < w9.heap.size) := Lib.hid ⟨range_same HA.out.2.1 (H9.out.2.2.2.2.2 C HR1.out hRs.1 hRs.2.1), nthere_same HA.out.2.2.1 (H9.out.2.2.2.2.2 R HA.out.2.2.2.2 hRs.2.2.1 hRs.2.2.2), Nat.lt_of_lt_of_le HA.out.2.2.2.2 H9.out.2.2.2.2.1⟩
  refine hK.out _ _ ⟨CallC.cell HR9.out.1 0 _ hc.out.c0, H9.out.1.b.c2, HR9.out.1⟩ (fun hHeld => ?_)
  clear hK K
  (try simp only [Act.put, List.getElem_toArray, List.getElem_cons_succ, List.getElem_cons_zero, List.setIfInBounds_toArray, List.set_cons_zero, List.set_cons_succ])
  refine wpAnyH_take (i := 9) (v := ?_) (by rfl) (by kernel_rfl) (by kernel_rfl) (by kernel_rfl) (fun _ _ _ h => h) (Or.inl ⟨by kernel_rfl, ?_⟩) (by assumption) ?_; rotate_left 1; (focus (intro w hSw; (try dsimp only at hSw); simp only [List.getElem_toArray, List.getElem_cons_succ, List.getElem_cons_zero]; all_goals go_simp; all_goals (try with_reducible rfl))); (try simp only [Act.put, List.getElem_toArray, List.getElem_cons_succ, List.getElem_cons_zero, List.setIfInBounds_toArray, List.set_cons_zero, List.set_cons_succ])
  refine wpAnyH_take (i := 10) (v := ?_) (by rfl) (by kernel_rfl) (by kernel_rfl) (by kernel_rfl) (fun _ _ _ h => h) (Or.inl ⟨by kernel_rfl, ?_⟩) (by assumption) ?_; rotate_left 1; (focus (intro w hSw; (try dsimp only at hSw); simp only [List.getElem_toArray, List.getElem_cons_succ, List.getElem_cons_zero]; all_goals go_simp; all_goals (try with_reducible rfl))); (try simp only [Act.put, List.getElem_toArray, List.getElem_cons_succ, List.getElem_cons_zero, List.setIfInBounds_toArray, List.set_cons_zero, List.set_cons_succ])
  refine wpAnyH_take (i := 11) (v := ?_) (by rfl) (by kernel_rfl) (by kernel_rfl) (by kernel_rfl) (fun _ _ _ h => h) (Or.inl ⟨by kernel_rfl, ?_⟩) (by assumption) ?_; rotate_left 1; (focus (intro w hSw; (try dsimp only at hSw); simp only [List.getElem_toArray, List.getElem_cons_succ, List.getElem_cons_zero]; all_goals go_simp; all_goals (try with_reducible rfl))); (try simp only [Act.put, List.getElem_toArray, List.getElem_cons_succ, List.getElem_cons_zero, List.setIfInBounds_toArray, List.set_cons_zero, List.set_cons_succ])
  refine wpAnyH_take (i := 12) (v := ?_) (by rfl) (by kernel_rfl) (by kernel_rfl) (by kernel_rfl) (fun _ _ _ h => h) (Or.inl ⟨by kernel_rfl, ?_⟩) (by assumption) ?_; rotate_left 1; (focus (intro w hSw; (try dsimp only at hSw); simp only [List.getElem_toArray, List.getElem_cons_succ, List.getElem_cons_zero]; all_goals go_simp; all_goals (try with_reducible rfl))); (try simp only [Act.put, List.getElem_toArray, List.getElem_cons_succ, List.getElem_cons_zero, List.setIfInBounds_toArray, List.set_cons_zero, List.set_cons_succ])
  refine wpAnyH_take (i := 13) (v := ?_) (by rfl) (by kernel_rfl) (by kernel_rfl) (by kernel_rfl) (fun _ _ _ h => h) (Or.inl ⟨by kernel_rfl, ?_⟩) (by assumption) ?_; rotate_left 1; (focus (intro w hSw; (try dsimp only at hSw); simp only [List.getElem_toArray, List.getElem_cons_succ, List.getElem_cons_zero]; all_goals go_simp; all_goals (try with_reducible rfl))); (try simp only [Act.put, List.getElem_toArray, List.getElem_cons_succ, List.getElem_cons_zero, List.setIfInBounds_toArray, List.set_cons_zero, List.set_cons_succ])
  refine wpAnyH_take (i := 14) (v := ?_) (by rfl) (by kernel_rfl) (by kernel_rfl) (by kernel_rfl) (fun _ _ _ h => h) (Or.inl ⟨by kernel_rfl, ?_⟩) (by assumption) ?_; rotate_left 1; (focus (intro w hSw; (try dsimp only at hSw); simp only [List.getElem_toArray, List.getElem_cons_succ, List.getElem_cons_zero]; all_goals go_simp; all_goals (try with_reducible rfl))); (try simp only [Act.put, List.getElem_toArray, List.getElem_cons_succ, List.getElem_cons_zero, List.setIfInBounds_toArray, List.set_cons_zero, List.set_cons_succ])
  refine wpAnyH_take (i := 15) (v := ?_) (by rfl) (by kernel_rfl) (by kernel_rfl) (by kernel_rfl) (fun _ _ _ h => h) (Or.inl ⟨by kernel_rfl, ?_⟩) (by assumption) ?_; rotate_left 1; (focus (intro w hSw; (try dsimp only at hSw); simp only [List.getElem_toArray, List.getElem_cons_succ, List.getElem_cons_zero]; all_goals go_simp; all_goals (try with_reducible rfl))); (try simp only [Act.put, List.getElem_toArray, List.getElem_cons_succ, List.getElem_cons_zero, List.setIfInBounds_toArray, List.set_cons_zero, List.set_cons_succ])
  refine wpAnyH_done (by kernel_rfl) ?_ _
  refine NoPanic.normal ?_
  clear q0 q2 q6
  have q0 := CallC.cell HR9.out.1 0 _ hc.out.c0
  have HKy := Lib.hid (skey_meter (i : Int) v X.tp w9 H9.out.1.b H9.out.1.t.f0 (fun W hW => aver_in i hn v hv W (H9.out.1.below hW).t.ar) (fun W hW => slive_meter (i : Int) v 0 0 X.tp X.tR X.tn X.tn X.tB (upd th i true) vr true hl W (H9.out.1.below hW).b (H9.out.1.below hW).t.f0 (H9.out.1.below hW).t.ar))
  go_wp2_with (first
    | (go_at_call 16; (with_reducible refine HKy.out.mono ?_); rintro e w3 ⟨rfl, hb⟩; have HB3 := Lib.hid hb; clear hb)
    | (go_at_call 137; (with_reducible refine (okeyed_is 7 (i : Int) v 0 0 _).mono ?_); rintro e w4 ⟨rfl, hb⟩; have HB4 := Lib.hid (HB3.out.trans (hb.mono HB3.out.size)); clear hb)
    | (go_at_call 136; (with_reducible refine (otold_nil ([.int .u32 0, .int .u32 0, .int .u32 0, .int .u32 0, .int .i64 7, .int .i64 i, .int .i64 v, .int .i64 0, .int .u32 0, .int .i64 0, .int .i64 0, .int .i64 0, .int .i64 0, .int .u32 0, .int .i64 0, .int .i64 0, .int .i64 0, .int .i64 0, .int .u32 0] : List Value) rfl (by simp [Value.oneCell']) _).mono ?_); rintro e w5 ⟨rfl, hb⟩; have HB5 : Hid (Below w9.heap.size w9 w5) := Lib.hid (HB4.out.trans (hb.mono HB4.out.size)); have HT5 := Lib.hid (nthere_below HR9.out.2.1 HB5.out HR9.out.2.2); clear hb)
    | (refine wpList_store_mid (by rfl) _ _ _ (by rfl) R 0 (([.int .u32 0, .int .u32 0, .int .u32 0, .int .u32 0, .int .i64 7, .int .i64 i, .int .i64 v, .int .i64 0, .int .u32 0, .int .i64 0, .int .i64 0, .int .i64 0, .int .i64 0, .int .u32 0, .int .i64 0, .int .i64 0, .int .i64 0, .int .i64 0, .int .u32 0] : List Value)).toArray (by rfl) (by rfl) HT5.out infoNote (note_one _ _ _ _ _ _ _ _ _ _ _ _ _ _ _ _ _ _ _) ?_))
  generalize hS : World.setCells w5 _ _ _ = wS
  have hHH : w.heap.size ≤ w9.heap.size := Nat.le_trans HA.out.1.size H9.out.2.2.2.2.1
  have HS : Hid (Below w.heap.size w9 wS ∧ wS.rangeAt R 0 ([.int .u32 0, .int .u32 0, .int .u32 0, .int .u32 0, .int .i64 7, .int .i64 i, .int .i64 v, .int .i64 0, .int .u32 0, .int .i64 0, .int .i64 0, .int .i64 0, .int .i64 0, .int .u32 0, .int .i64 0, .int .i64 0, .int .i64 0, .int .i64 0, .int .u32 0] : List Value)) := Lib.hid (by rw [← hS]; exact ⟨nbelow_cells (HB5.out.mono hHH) hRl.out.2.2.1 _ _, World.rangeAt_setCells_same w5 R 0 ([.int .u32 0, .int .u32 0, .int .u32 0, .int .u32 0, .int .i64 7, .int .i64 i, .int .i64 v, .int .i64 0, .int .u32 0, .int .i64 0, .int .i64 0, .int .i64 0, .int .i64 0, .int .u32 0, .int .i64 0, .int .i64 0, .int .i64 0, .int .i64 0, .int .u32 0] : List Value) HT5.out⟩)
  have hld := nload rfl HS.out.2
  refine bodyPost_ret (v := (Value.agg #[.int .u32 0, .int .u32 0, .int .u32 0, .int .u32 0, .int .i64 7, .int .i64 i, .int .i64 v, .int .i64 0, .int .u32 0, .int .i64 0, .int .i64 0, .int .i64 0, .int .i64 0, .int .u32 0, .int .i64 0, .int .i64 0, .int .i64 0, .int .i64 0, .int .u32 0])) (by simp [results, Tryz.results116, Act.put, asAddr, hld]) rfl ⟨rfl, H9.out.1.low HS.out.1 H.out.lts, ((PBelow.of_below HA.out.1).trans H9.out.2).low HS.out.1⟩
end
end Go.Proofs.YtncopdhhchmpeaaGreatDoor
namespace Go.Proofs.YtncopdhhchmpeaaGreatDoor
open Go.ChangeShapes Go.WideShapes Go.ChangeAt Go.RowKit
set_option linter.unusedVariables false
set_option linter.unusedSimpArgs false
section
variable {cs nt : List Value} {s N : Nat} {k1 k2 k3 k4 o x : Int} {Q : World → Prop}
set_option maxRecDepth 100000 in
set_option maxHeartbeats 2000000 in
theorem oanswer_meter (hnl : nt.length = 19) (hn1 : ∀ v, v ∈ nt → v.oneCell' = true) (hc : Hid (CallC cs s 7 k1 k2 k3 k4 o x)) (w : World) (hN : N ≤ w.heap.size) (hQ : ∀ w1 w2, Q w1 → Below N w1 w2 → Q w2)
    (hm : ∀ W, Below w.heap.size w W → Calls Tryz.prog 116 #[(.agg cs.toArray)] W fun e w' => e = .returned (.agg nt.toArray) ∧ Q w' ∧ UpT N W w') :
    Calls Tryz.prog 81 #[(.agg cs.toArray)] w fun e w' => e = .returned (.agg nt.toArray) ∧ Q w' ∧ UpT N w w' := by
  have HQ := Lib.hid hQ
  have HM := Lib.hid hm
  have hsz : nt.toArray.size = 19 := by simp [hnl]
  clear hQ hm
  go_enter Tryz.func81, Tryz.ntmps81; go_upto_region 1 with fail; generalize hA : World.alloc w _ = wK; obtain ⟨C, hC⟩ : ∃ C, C = w.heap.size := ⟨_, rfl⟩; have HK : Hid (Below w.heap.size w wK ∧ wK.rangeAt C 0 cs ∧ wK.heap.size = C + 1) := Lib.hid (by rw [← hA, hC]; exact ⟨(Below.refl _ _).alloc (Nat.le_refl _) _, cbox _ _ _, by simp⟩); have HCl : Hid (w.heap.size ≤ C) := Lib.hid (by rw [hC]; exact Nat.le_refl _); rw [← hC]; clear hA hC; generalize hA : World.alloc wK _ = wA; obtain ⟨R, hR⟩ : ∃ R, R = C + 1 := ⟨_, rfl⟩; have HA : Hid (Below w.heap.size w wA ∧ wA.rangeAt C 0 cs ∧ World.there wA R 0 19 ∧ C < R ∧ R < wA.heap.size) := Lib.hid (by rw [← hA, hR, ← HK.out.2.2]; exact ⟨HK.out.1.alloc HK.out.1.size _, range_below HK.out.2.1 ((Below.refl _ _).alloc (Nat.le_refl _) _) (by have := HK.out.2.2; omega), nthere_new _ _ 19 (by rfl) _, by have := HK.out.2.2; omega, by simp⟩); rw [← hR]; clear hA hR
  have q1 := CallC.cell HA.out.2.1 1 _ hc.out.c1
  go_upto_region 11 with fail
  go_wp2_with (first
    | (refine wpList_load_mid (by rfl) _ _ (by rfl) C 0 (by rfl) cs _ HA.out.2.1 Tryz.underlying129 rfl (by rw [hc.out.len]; exact infoCall) ?_)
    | (go_at_call 116; (with_reducible refine (HM.out _ HA.out.1).mono ?_); rintro e w1 ⟨rfl, hq, hu⟩; have H1 := Lib.hid hq; have HU1 := Lib.hid hu; have HT1 : Hid (World.there w1 R 0 19) := Lib.hid (nthere_same HA.out.2.2.1 (hu.2 R (by have := HA.out.2.2.2.1; have := HCl.out; omega) HA.out.2.2.2.2)); clear hq hu)
    | (refine wpList_store_mid (by rfl) _ _ _ (by rfl) R 0 nt.toArray (by rfl) (by rfl) (by rw [hsz]; exact HT1.out) (by rw [hsz]; exact infoNote) (all_one hn1) ?_))
  have hRn : w.heap.size ≤ R := by have := HA.out.2.2.2.1; have := HCl.out; omega
  have HS : Hid (Below w.heap.size w1 (w1.setCells R 0 nt.toArray.toList) ∧ (w1.setCells R 0 nt.toArray.toList).rangeAt R 0 nt) := Lib.hid ⟨nbelow_cells (Below.refl _ _) hRn _ _, World.rangeAt_setCells_same w1 R 0 nt (by rw [hnl]; exact HT1.out)⟩
  have hld := nload hnl HS.out.2
  refine bodyPost_ret (v := (.agg nt.toArray)) (by simp [results, Tryz.results81, Act.put, asAddr, hld]) rfl ⟨rfl, HQ.out _ _ H1.out (HS.out.1.mono hN), ((UpT.below HA.out.1).trans HU1.out).low HS.out.1 (Nat.le_refl _)⟩
set_option maxRecDepth 100000 in
set_option maxHeartbeats 2000000 in
theorem oanswer_void (hc : Hid (CallC cs s 0 k1 k2 k3 k4 o x)) (w : World) :
    Calls Tryz.prog 81 #[(.agg cs.toArray)] w fun e w' => e = .returned (Value.agg #[.int .u32 1, .int .u32 0, .int .u32 0, .int .u32 0, .int .i64 0, .int .i64 0, .int .i64 0, .int .i64 0, .int .u32 0, .int .i64 0, .int .i64 0, .int .i64 0, .int .i64 0, .int .u32 0, .int .i64 0, .int .i64 0, .int .i64 0, .int .i64 0, .int .u32 0]) ∧ Below w.heap.size w w' := by
  go_enter Tryz.func81, Tryz.ntmps81; go_upto_region 1 with fail; generalize hA : World.alloc w _ = wK; obtain ⟨C, hC⟩ : ∃ C, C = w.heap.size := ⟨_, rfl⟩; have HK : Hid (Below w.heap.size w wK ∧ wK.rangeAt C 0 cs ∧ wK.heap.size = C + 1) := Lib.hid (by rw [← hA, hC]; exact ⟨(Below.refl _ _).alloc (Nat.le_refl _) _, cbox _ _ _, by simp⟩); have HCl : Hid (w.heap.size ≤ C) := Lib.hid (by rw [hC]; exact Nat.le_refl _); rw [← hC]; clear hA hC; generalize hA : World.alloc wK _ = wA; obtain ⟨R, hR⟩ : ∃ R, R = C + 1 := ⟨_, rfl⟩; have HA : Hid (Below w.heap.size w wA ∧ wA.rangeAt C 0 cs ∧ World.there wA R 0 19 ∧ C < R ∧ R < wA.heap.size) := Lib.hid (by rw [← hA, hR, ← HK.out.2.2]; exact ⟨HK.out.1.alloc HK.out.1.size _, range_below HK.out.2.1 ((Below.refl _ _).alloc (Nat.le_refl _) _) (by have := HK.out.2.2; omega), nthere_new _ _ 19 (by rfl) _, by have := HK.out.2.2; omega, by simp⟩); rw [← hR]; clear hA hR
  have q1 := CallC.cell HA.out.2.1 1 _ hc.out.c1
  go_upto_region 26 with fail
  go_wp2_with (first
    | (go_at_call 124; (with_reducible refine (ofails_is 1 (by decide) (by decide) _).mono ?_); rintro e w1 ⟨rfl, hb⟩; have HB1 := Lib.hid hb; have HT1 : Hid (World.there w1 R 0 19) := Lib.hid (nthere_below HA.out.2.2.1 hb HA.out.2.2.2.2); clear hb)
    | (refine wpList_store_mid (by rfl) _ _ _ (by rfl) R 0 ([.int .u32 1, .int .u32 0, .int .u32 0, .int .u32 0, .int .i64 0, .int .i64 0, .int .i64 0, .int .i64 0, .int .u32 0, .int .i64 0, .int .i64 0, .int .i64 0, .int .i64 0, .int .u32 0, .int .i64 0, .int .i64 0, .int .i64 0, .int .i64 0, .int .u32 0] : List Value).toArray (by rfl) (by rfl) HT1.out infoNote (note_one _ _ _ _ _ _ _ _ _ _ _ _ _ _ _ _ _ _ _) ?_))
  have hRn : w.heap.size ≤ R := by have := HA.out.2.2.2.1; have := HCl.out; omega
  generalize hS : World.setCells w1 _ _ _ = wS
  have HS : Hid (Below w.heap.size w wS ∧ wS.rangeAt R 0 [.int .u32 1, .int .u32 0, .int .u32 0, .int .u32 0, .int .i64 0, .int .i64 0, .int .i64 0, .int .i64 0, .int .u32 0, .int .i64 0, .int .i64 0, .int .i64 0, .int .i64 0, .int .u32 0, .int .i64 0, .int .i64 0, .int .i64 0, .int .i64 0, .int .u32 0]) := Lib.hid (by rw [← hS]; exact ⟨nbelow_cells (HA.out.1.trans (HB1.out.mono HA.out.1.size)) hRn _ _, World.rangeAt_setCells_same w1 R 0 [.int .u32 1, .int .u32 0, .int .u32 0, .int .u32 0, .int .i64 0, .int .i64 0, .int .i64 0, .int .i64 0, .int .u32 0, .int .i64 0, .int .i64 0, .int .i64 0, .int .i64 0, .int .u32 0, .int .i64 0, .int .i64 0, .int .i64 0, .int .i64 0, .int .u32 0] HT1.out⟩)
  have hld := nload rfl HS.out.2
  refine bodyPost_ret (v := (Value.agg #[.int .u32 1, .int .u32 0, .int .u32 0, .int .u32 0, .int .i64 0, .int .i64 0, .int .i64 0, .int .i64 0, .int .u32 0, .int .i64 0, .int .i64 0, .int .i64 0, .int .i64 0, .int .u32 0, .int .i64 0, .int .i64 0, .int .i64 0, .int .i64 0, .int .u32 0])) (by simp [results, Tryz.results81, Act.put, asAddr, hld]) rfl ⟨rfl, HS.out.1⟩
end
theorem slive_void (s : Nat) (w : World) : Calls Tryz.prog 21 #[.pointer (some ⟨s, 0, none⟩), .agg #[.int .i64 0, .int .i64 0, .int .i64 0, .int .i64 0, .int .u32 0]] w fun e w' => e = .returned (.bool true) ∧ Below w.heap.size w w' := by
  go_enter Tryz.func21, Tryz.ntmps21
  go_wp2_with fail
  go_ret
  exact ⟨rfl, (Below.refl _ _).alloc (Nat.le_refl _) _⟩
theorem oseen_void (s : Nat) (vs vr : Value) (w : World) (hE : ErrsAt vs vr w) : Calls Tryz.prog 23 #[.pointer (some ⟨s, 0, none⟩), (Value.agg #[.int .i64 0, .int .i64 0, .int .i64 0, .int .i64 0, .int .u32 0])] w fun e w' => e = .returned (Value.agg #[.int .i64 0, .int .i64 0, .int .i64 0, .int .i64 0, .int .u32 0]) ∧ Below w.heap.size w w' :=
  oseen_live 0 0 0 0 0 w (fun W hW => nvalid_ok 0 0 0 0 0 (Lib.hid (by decide)) vs vr W (hE.below hW)) (fun W hW => slive_void s W)
theorem oseen_meter {L : BLoc} {X : SLoc} {th : Nat → Bool} {mv pr tk : Nat → Int} (id v : Int) (hr : Hid (rightB 7 id v 0 0 = true)) (hl : Hid ((thereB X.tn th id && (mv id.toNat == v)) = true)) (vs vr : Value) (w : World) (hE : ErrsAt vs vr w) (h : MS w L X th mv pr tk) : Calls Tryz.prog 23 #[.pointer (some ⟨X.s, 0, none⟩), (Value.agg #[.int .i64 7, .int .i64 id, .int .i64 v, .int .i64 0, .int .u32 0])] w fun e w' => e = .returned (Value.agg #[.int .i64 7, .int .i64 id, .int .i64 v, .int .i64 0, .int .u32 0]) ∧ Below w.heap.size w w' :=
  oseen_live 7 id v 0 0 w (fun W hW => nvalid_ok 7 id v 0 0 hr vs vr W (hE.below hW)) (fun W hW => slive_meter id v 0 0 X.tp X.tR X.tn X.tn X.tB th mv true hl W (h.b.below hW) (h.t.below hW).f0 (h.t.below hW).ar)
end Go.Proofs.YtncopdhhchmpeaaGreatDoor
