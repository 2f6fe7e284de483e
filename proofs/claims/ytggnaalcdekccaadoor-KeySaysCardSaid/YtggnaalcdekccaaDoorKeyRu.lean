/-
  turnkeyref1.KeyText of a right key with data.
-/
import Derived.Test.YtggnaalcdekccaaDoorKeyRt
namespace Go.Proofs.YtggnaalcdekccaaDoor
open Go.ChangeShapes Go.WideShapes Go.ChangeAt Go.RowKit
set_option linter.unusedVariables false
set_option maxRecDepth 100000 in
set_option maxHeartbeats 4000000 in
theorem reftext_full1 (j : Nat) (hj : j < 15) (hj1 : j ≠ 1) (m : Int) (hp : manyOf j = m) (hm : 1 < m) (i v : Nat) (hi : i < 1000) (hv : v < 10000000) (k3 : Int) (h3 : 0 ≤ k3) (h37 : k3 ≤ 7) (u : Nat) (hu : u < 4294967296) (hz : u ≠ 0) (w : World) (hT : Lib.TabIs Tryd.prog w "internal/strconv.uint64pow10" .u64 Lib.pow10Tab) :
    Calls Tryd.prog 38 #[.agg #[.int .i64 j, .int .i64 i, .int .i64 v, .int .i64 k3, .int .u32 u]] w fun e w' => e = .returned (.string ((nmS j ++ ⟨#[32]⟩ ++ decS i ++ ⟨#[46]⟩ ++ decS v) ++ (⟨#[32, 43]⟩ ++ decS u) ++ lackT k3)) ∧ Below w.heap.size w w' := by
  obtain ⟨s, es, hsz⟩ := nm_opaque j hj
  have S0 := Lib.hid (startSP w j i v k3 u)
  have HT := Lib.hid (Lib.tabBelow_of_tabIs hT _ S0.out.1)
  have hne : ((j : Int) == 1) = false := beq_eq_false_iff_ne.2 (by omega)
  have hnm : decide (1 < m) = true := by simpa using hm
  obtain ⟨d1, ed1, hd1⟩ := dec_opaque i (by omega)
  obtain ⟨d2, ed2, hd2⟩ := dec_opaque v (by omega)
  have z1 : (⟨#[32]⟩ : ByteArray).size = 1 := rfl
  have z2 : (⟨#[46]⟩ : ByteArray).size = 1 := rfl
  have f1 := cat_run s ⟨#[32]⟩ (by omega)
  have f2 := cat_run (s ++ ⟨#[32]⟩) d1 (by rw [ByteArray.size_append]; omega)
  have f3 := cat_run (s ++ ⟨#[32]⟩ ++ d1) ⟨#[46]⟩ (by rw [ByteArray.size_append, ByteArray.size_append]; omega)
  have f4 := cat_run (s ++ ⟨#[32]⟩ ++ d1 ++ ⟨#[46]⟩) d2 (by rw [ByteArray.size_append, ByteArray.size_append, ByteArray.size_append]; omega)
  clear z1 z2
  have hze : ((u : Int) == 0) = false := by simp; omega
  have hzn : ((u : Int) != 0) = true := by simp; omega
  clear hT hz
  go_enter Tryd.func38, Tryd.ntmps38
  go_wp2_with (first
    | (go_at_call 35; refine (refname_op j hj s es _).mono ?_; rintro e w1 ⟨rfl, hb⟩; have hS := keepSP j i v k3 u S0.out hb; have hK := hS.2; have ht1 := Lib.hid (Lib.tabBelow_of_tabIs HT.out _ hb); have hB := Lib.hid hS.1; clear hb hS)
    | (go_at_call 46; refine (many_is j m (Lib.hid hp) _).mono ?_; rintro e w2 ⟨rfl, rfl⟩))
  have ST : Hid (Lib.TabIs Tryd.prog w1.drew "internal/strconv.uint64pow10" .u64 Lib.pow10Tab ∧ Below w.heap.size w w1.drew ∧ w.heap.size < w1.drew.heap.size ∧ w1.drew.cell? ⟨w.heap.size, 0, none⟩ = some (.int .i64 j) ∧ w1.drew.cell? ⟨w.heap.size, 1, none⟩ = some (.int .i64 i) ∧ w1.drew.cell? ⟨w.heap.size, 2, none⟩ = some (.int .i64 v) ∧ w1.drew.cell? ⟨w.heap.size, 3, none⟩ = some (.int .i64 k3) ∧ w1.drew.cell? ⟨w.heap.size, 4, none⟩ = some (.int .u32 u)) := Lib.hid ⟨Lib.tabBelow_of_tabIs ht1.out _ ((Below.refl _ _).drew), hB.out.drew, hK⟩
  clear hB hK ht1
  go_region_held3 (fun w' => Lib.TabIs Tryd.prog w' "internal/strconv.uint64pow10" .u64 Lib.pow10Tab ∧ Below w.heap.size w w' ∧ w.heap.size < w'.heap.size ∧ w'.cell? ⟨w.heap.size, 0, none⟩ = some (.int .i64 j) ∧ w'.cell? ⟨w.heap.size, 1, none⟩ = some (.int .i64 i) ∧ w'.cell? ⟨w.heap.size, 2, none⟩ = some (.int .i64 v) ∧ w'.cell? ⟨w.heap.size, 3, none⟩ = some (.int .i64 k3) ∧ w'.cell? ⟨w.heap.size, 4, none⟩ = some (.int .u32 u)) (first | exact ST.out | assumption | exact keepT j i v k3 u (by assumption) hb)
    (first | (go_at_call 53; (with_reducible refine (itoa_T i d1 ed1 (by omega) (by assumption)).mono ?_); rintro e w' ⟨rfl, hb⟩) | (go_at_call 53; (with_reducible refine (itoa_T v d2 ed2 (by omega) (by assumption)).mono ?_); rintro e w' ⟨rfl, hb⟩))
  have hSS : Hid (Lib.TabIs Tryd.prog w' "internal/strconv.uint64pow10" .u64 Lib.pow10Tab ∧ Below w.heap.size w w' ∧ w.heap.size < w'.heap.size ∧ w'.cell? ⟨w.heap.size, 0, none⟩ = some (.int .i64 j) ∧ w'.cell? ⟨w.heap.size, 1, none⟩ = some (.int .i64 i) ∧ w'.cell? ⟨w.heap.size, 2, none⟩ = some (.int .i64 v) ∧ w'.cell? ⟨w.heap.size, 3, none⟩ = some (.int .i64 k3) ∧ w'.cell? ⟨w.heap.size, 4, none⟩ = some (.int .u32 u)) := Lib.hid (by assumption)
  have hKK := hSS.out.2.2.2
  obtain rfl | rfl | rfl | rfl | rfl | rfl | rfl | rfl : k3 = 0 ∨ k3 = 1 ∨ k3 = 2 ∨ k3 = 3 ∨ k3 = 4 ∨ k3 = 5 ∨ k3 = 6 ∨ k3 = 7 := by omega
  all_goals
    go_wp2_with (first | (go_at_call 55; refine (fmt_op u hu _ hSS.out.1).mono ?_; rintro e w4 ⟨d4, rfl, ed4, hd4, hb4⟩; have hK4 := (keepT j i v _ u hSS.out hb4).2.2.2; have hS4 := Lib.hid (keepT j i v _ u hSS.out hb4)))
    go_ret
    refine ⟨ret_str ?_, hS4.out.2.1⟩
    rw [es.out, ed1.out, ed2.out, ed4.out]
    rw [← ByteArray.append_assoc (b := ⟨#[32, 43]⟩)]
    generalize nmS j ++ ⟨#[32]⟩ ++ decS i ++ ⟨#[46]⟩ ++ decS v ++ ⟨#[32, 43]⟩ ++ decS u = X
    first
    | exact lack_tail X ByteArray.empty (lackT 0) (by decide +kernel) (by first | rfl | exact (ByteArray.append_empty).symm | exact ByteArray.append_assoc | (simp only [ByteArray.append_assoc]; rfl))
    | exact lack_tail X tRo (lackT 1) (by decide +kernel) (by first | rfl | exact (ByteArray.append_empty).symm | exact ByteArray.append_assoc | (simp only [ByteArray.append_assoc]; rfl))
    | exact lack_tail X tNo (lackT 2) (by decide +kernel) (by first | rfl | exact (ByteArray.append_empty).symm | exact ByteArray.append_assoc | (simp only [ByteArray.append_assoc]; rfl))
    | exact lack_tail X (tRo ++ tNo) (lackT 3) (by decide +kernel) (by first | rfl | exact (ByteArray.append_empty).symm | exact ByteArray.append_assoc | (simp only [ByteArray.append_assoc]; rfl))
    | exact lack_tail X tWe (lackT 4) (by decide +kernel) (by first | rfl | exact (ByteArray.append_empty).symm | exact ByteArray.append_assoc | (simp only [ByteArray.append_assoc]; rfl))
    | exact lack_tail X (tRo ++ tWe) (lackT 5) (by decide +kernel) (by first | rfl | exact (ByteArray.append_empty).symm | exact ByteArray.append_assoc | (simp only [ByteArray.append_assoc]; rfl))
    | exact lack_tail X (tNo ++ tWe) (lackT 6) (by decide +kernel) (by first | rfl | exact (ByteArray.append_empty).symm | exact ByteArray.append_assoc | (simp only [ByteArray.append_assoc]; rfl))
    | exact lack_tail X (tRo ++ (tNo ++ tWe)) (lackT 7) (by decide +kernel) (by first | rfl | exact (ByteArray.append_empty).symm | exact ByteArray.append_assoc | (simp only [ByteArray.append_assoc]; rfl))
end Go.Proofs.YtggnaalcdekccaaDoor
