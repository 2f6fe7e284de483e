/-
  Chapter 16: first.
-/
import Derived.Test.YtahhnfhnlffmpaaDoorDs3
namespace Go.Proofs.YtahhnfhnlffmpaaDoor
open Go.ChangeShapes Go.WideShapes Go.ChangeAt Go.RowKit
set_option linter.unusedVariables false
set_option linter.unusedSimpArgs false
theorem updS_D1 (W : Nat → Nat → Value) (i j : Nat) (hj : j < 107) : updS W i 0 zsD1 i j = zd1 j := by
  have h := updS_in W i 0 zsD1 j (by rw [zsD1_len]; exact hj)
  rw [Nat.zero_add, zsD1_get j hj] at h
  exact Option.some.inj h
theorem zd1_one (j : Nat) : (zd1 j).oneCell' = true := by
  unfold zd1
  split
  · rfl
  · exact zd_one j
theorem range_at {w : World} {b : Nat} {f : Nat → Value} (h : w.rangeAt b 0 (rowL f)) (j : Nat) (hj : j < 107) : w.cell? ⟨b, j, none⟩ = some (f j) := by
  have := h j _ (rowL_at f j hj)
  rwa [Nat.zero_add] at this
theorem dsize_cells (x : Nat) : ∀ (cs : List Value) (o : Nat) (w : World), (w.setCells x o cs).heap.size = w.heap.size := by
  intro cs
  induction cs with
  | nil => intro o w; rfl
  | cons u r ih => intro o w; exact (ih (o + 1) _).trans (by simp)
theorem z_castD : (0 : Int) = ((0 : Nat) : Int) := rfl
set_option maxRecDepth 100000 in
set_option maxHeartbeats 2000000 in
theorem dfirst_is (w : World) : Calls Tryd.prog 23 #[] w fun e w' => e = .returned (.bool true) ∧ Below w.heap.size w w' := by
  go_enter Tryd.func23, Tryd.ntmps23
  go_upto_region 6 with (first
    | (go_at_call 24; (with_reducible refine (dnew_ok 3 3 (Lib.hid rfl) (by decide) (by decide) _).mono ?_); rintro e w1 ⟨P, p, B, G, Q, rfl, hD, hb⟩; have HD := Lib.hid hD; have HB := Lib.hid hb; clear hD hb)
    | (go_at_call 25; (with_reducible refine (dmake_ok 0 (by decide) (Lib.hid (by decide)) (Lib.hid (by intro i hi; omega)) 0 (Lib.hid rfl) _ HD.out).mono ?_); rintro e w2 ⟨rfl, hD, hb⟩; have HD2 := Lib.hid hD; have HB2 := Lib.hid (HB.out.trans (hb.below HD.out.pl.ar.lt.1 HD.out.pl.gl.1 HB.out.size)); clear hD hb)
    | (go_at_call 31; (with_reducible refine (dget_ok 0 0 (Lib.hid z_castD) (by decide) (Lib.hid (by decide)) zd1 (Lib.hid (fun j hj => updS_D1 _ 0 j hj)) (Lib.hid (fun j _ => zd1_one j)) _ HD2.out).mono ?_); rintro e w3 ⟨rfl, hb⟩; have HB3 := Lib.hid (HB2.out.trans (hb.mono HB2.out.size)); clear hb)
    | (refine wpList_store_mid (by rfl) _ _ _ (by rfl) w3.heap.size 0 (rowL zd1).toArray (by rfl) (by rfl) (by rw [rowL_size]; exact dthere_new _ _ 107 (by rfl) _) (by rw [rowL_size]; exact infoDomS) (rowL_one zd1 (fun j _ => zd1_one j)) ?_))
  generalize hA : World.setCells _ w3.heap.size 0 _ = w5
  have HA : Hid (Below w.heap.size w w5 ∧ w5.rangeAt w3.heap.size 0 (rowL zd1)) := Lib.hid (by
    rw [← hA]
    exact ⟨dbelow_cells (HB3.out.alloc HB3.out.size _) HB3.out.size _ _, World.rangeAt_setCells_same _ _ 0 (rowL zd1) (by rw [rowL_len]; exact dthere_new _ _ 107 (by rfl) _)⟩)
  clear hA
  have c9 : w5.cell? ⟨w3.heap.size, 9, none⟩ = some (.int .i64 1) := range_at HA.out.2 9 (by decide)
  go_wp2_with fail
  go_ret
  exact ⟨rfl, HA.out.1⟩
end Go.Proofs.YtahhnfhnlffmpaaDoor
