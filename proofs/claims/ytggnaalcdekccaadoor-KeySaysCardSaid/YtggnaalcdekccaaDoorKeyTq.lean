/-
  key.Text and turnkeyref1.KeyText of any right key: one function of its fields.
-/
import Derived.Test.YtggnaalcdekccaaDoorKeyInj
import Derived.Test.YtggnaalcdekccaaDoorKeyRu
namespace Go.Proofs.YtggnaalcdekccaaDoor
open Go.ChangeShapes Go.WideShapes Go.ChangeAt Go.RowKit
set_option linter.unusedVariables false
theorem many_places (k : Int) : manyOf k = if placesOf k = 0 then 1 else placesOf k := by
  unfold manyOf placesOf
  repeat' split
  all_goals first | rfl | omega | (exfalso; simp_all)
theorem ktext_right (k0 k1 k2 k3 k4 : Int) (vs vr : Value) (h : Hid (rightB k0 k1 k2 k3 k4 = true)) (g8 : 0 ≤ k4) (g9 : k4 ≤ 4294967295) (s : ByteArray) (hs : Hid (txB k0 k1 k2 k3 k4 = s)) (w : World) (hT : Tx vs vr w) :
    Calls Tryd.prog 37 #[(Value.agg #[.int .i64 k0, .int .i64 k1, .int .i64 k2, .int .i64 k3, .int .u32 k4])] w fun e w' => e = .returned (.string s) ∧ Below w.heap.size w w' := by
  have b := right_bounds h.out
  obtain ⟨n0, rfl⟩ : ∃ n : Nat, k0 = n := ⟨k0.toNat, by omega⟩
  obtain ⟨n1, rfl⟩ : ∃ n : Nat, k1 = n := ⟨k1.toNat, by omega⟩
  obtain ⟨n2, rfl⟩ : ∃ n : Nat, k2 = n := ⟨k2.toNat, by omega⟩
  obtain ⟨n4, rfl⟩ : ∃ n : Nat, k4 = n := ⟨k4.toNat, by omega⟩
  rw [← hs.out]
  unfold txB
  by_cases h1 : n0 = 1
  · subst h1
    rw [if_pos (by rfl)]
    exact ktext_num vs vr n1 n2 k3 n4 (by omega) h w hT
  · rw [if_neg (by omega)]
    by_cases h2 : placesOf n0 = 0
    · rw [if_pos h2]
      exact ktext_plain vs vr n0 (by omega) h1 h2 n1 n2 k3 n4 (by omega) h w hT
    · rw [if_neg h2]
      by_cases h3 : n4 = 0
      · rw [if_pos (by omega)]
        exact ktext_full0 vs vr n0 (by omega) h1 _ rfl h2 n1 n2 (by omega) (by omega) k3 (by omega) (by omega) n4 (by omega) h w hT h3
      · rw [if_neg (by omega)]
        exact ktext_full1 vs vr n0 (by omega) h1 _ rfl h2 n1 n2 (by omega) (by omega) k3 (by omega) (by omega) n4 (by omega) h w hT h3
theorem reftext_right (k0 k1 k2 k3 k4 : Int) (h : Hid (rightB k0 k1 k2 k3 k4 = true)) (g8 : 0 ≤ k4) (g9 : k4 ≤ 4294967295) (s : ByteArray) (hs : Hid (txB k0 k1 k2 k3 k4 = s)) (w : World) (hT : Lib.TabIs Tryd.prog w "internal/strconv.uint64pow10" .u64 Lib.pow10Tab) :
    Calls Tryd.prog 38 #[(Value.agg #[.int .i64 k0, .int .i64 k1, .int .i64 k2, .int .i64 k3, .int .u32 k4])] w fun e w' => e = .returned (.string s) ∧ Below w.heap.size w w' := by
  have b := right_bounds h.out
  have mp := many_places k0
  have pg := placesOf_ge k0
  have p1 : placesOf k0 ≠ 1 := by unfold placesOf; repeat' split
                                  all_goals omega
  have pl := fun hp hk => right_plain h.out hp hk g8
  obtain ⟨n0, rfl⟩ : ∃ n : Nat, k0 = n := ⟨k0.toNat, by omega⟩
  obtain ⟨n1, rfl⟩ : ∃ n : Nat, k1 = n := ⟨k1.toNat, by omega⟩
  obtain ⟨n2, rfl⟩ : ∃ n : Nat, k2 = n := ⟨k2.toNat, by omega⟩
  obtain ⟨n4, rfl⟩ : ∃ n : Nat, k4 = n := ⟨k4.toNat, by omega⟩
  rw [← hs.out]
  unfold txB
  by_cases h1 : n0 = 1
  · subst h1
    rw [if_pos (by rfl)]
    exact reftext_num n1 n2 k3 n4 (by omega) w hT
  · rw [if_neg (by omega)]
    by_cases h2 : placesOf n0 = 0
    · rw [if_pos h2]
      obtain ⟨e1, e2, e3, e4⟩ := pl h2 (by omega)
      rw [if_pos h2] at mp
      rw [e3, e4]
      exact reftext_plain n0 (by omega) h1 mp n1 n2 w
    · rw [if_neg h2]
      rw [if_neg h2] at mp
      by_cases h3 : n4 = 0
      · rw [if_pos (by omega)]
        exact reftext_full0 n0 (by omega) h1 _ mp (by omega) n1 n2 (by omega) (by omega) k3 (by omega) (by omega) n4 h3 w hT
      · rw [if_neg (by omega)]
        exact reftext_full1 n0 (by omega) h1 _ mp (by omega) n1 n2 (by omega) (by omega) k3 (by omega) (by omega) n4 (by omega) h3 w hT
end Go.Proofs.YtggnaalcdekccaaDoor
