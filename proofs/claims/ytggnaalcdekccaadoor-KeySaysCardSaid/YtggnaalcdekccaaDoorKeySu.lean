/-
  What KeySays carries: the codes of wrong keys, the document's Unpack of any two words.
-/
import Derived.Test.YtggnaalcdekccaaDoorKeySy
import Derived.Test.YtggnaalcdekccaaDoorKeyRk
import Derived.Test.YtggnaalcdekccaaDoorSee
import Derived.Test.YtggnaalcdekccaaDoorKeyTq
import Derived.Test.YtggnaalcdekccaaDoorKeyLd
namespace Go.Proofs.YtggnaalcdekccaaDoor
open Go.ChangeShapes Go.WideShapes Go.ChangeAt Go.RowKit
set_option linter.unusedVariables false
theorem hid_many (k : Int) : hidOf k = manyOf k - 1 := by
  unfold hidOf
  rw [many_places]
  have := placesOf_ge k
  split <;> split <;> omega
theorem hver_most (k : Int) : hverOf k = mostOf k := by
  unfold hverOf mostOf
  rw [many_places]
  have := placesOf_ge k
  have p1 : placesOf k ≠ 1 := by unfold placesOf; repeat' split
                                 all_goals omega
  by_cases h : placesOf k = 0
  · rw [if_pos h, if_neg (by omega), if_neg (by omega)]
  · rw [if_neg h, if_pos (by omega), if_pos (by omega)]
theorem hr_rights (k : Int) : hrOf k = rightsOf k := by
  unfold hrOf rightsOf
  by_cases h : k = 2 ∨ k = 3
  · rw [if_pos h, if_pos (by simpa using h)]
  · rw [if_neg h, if_neg (by simpa using h)]
theorem data_most (k : Int) : dataMost k = dataOf k := by
  unfold dataMost dataOf
  repeat' split
  all_goals first | rfl | omega
theorem right_in (k0 k1 k2 k3 k4 : Int) : rightB k0 k1 k2 k3 k4 = decide ((0 ≤ k0 ∧ k0 ≤ 14) ∧ InB k0 k1 k2 k3 k4) := by
  unfold rightB InB
  rw [hid_many, hver_most, hr_rights, data_most]
  rw [Bool.eq_iff_iff]
  simp only [wB, Bool.and_eq_true, decide_eq_true_eq]
  omega
theorem code_right {k0 k1 k2 k3 k4 : Int} (h : rightB k0 k1 k2 k3 k4 = true) : codeOf k0 k1 k2 k3 k4 = 0 := by
  rw [right_in, decide_eq_true_iff] at h
  exact codeOf_0 _ _ _ _ _ (by omega) h.2
/-- A wrong key: its error's address, its number, and that the one tells the other. -/
theorem wrong_is {k0 k1 k2 k3 k4 : Int} (h : rightB k0 k1 k2 k3 k4 = false) (A : Nat → Addr) (w : World) (hS : Sen A w) :
    ∃ (cc : Addr) (c : Int), Hid ((if wB k0 14 = true then sA A 2 else sA A 1) = cc) ∧ Hid (codeOf k0 k1 k2 k3 k4 = c) ∧ ¬ c = 0 ∧ FaultIs (errV cc) c 0 false w := by
  rw [right_in, decide_eq_false_iff_not] at h
  by_cases h0 : 0 ≤ k0 ∧ k0 ≤ 14
  · refine ⟨_, 103, Lib.hid (if_pos (by simpa [wB] using h0)), Lib.hid (codeOf_103 _ _ _ _ _ (by omega) (fun hi => h ⟨h0, hi⟩)), by omega, ?_⟩
    exact FaultIs.err hS 2 (by decide)
  · refine ⟨_, 102, Lib.hid (if_neg (by simpa [wB] using h0)), Lib.hid (codeOf_102 _ _ _ _ _ (by omega)), by omega, ?_⟩
    exact FaultIs.err hS 1 (by decide)
theorem refunpack_is (lo hi p0 p1 p2 p3 p4 : Int) (w : World) (g0 : 0 ≤ lo) (g1 : lo ≤ 4294967295) (g2 : 0 ≤ hi) (g3 : hi ≤ 4294967295) (hp : Hid (Parts lo hi p0 p1 p2 p3 p4)) (h : Hid (codeOf p0 p1 p2 p3 p4 = 0)) :
    Calls Tryd.prog 30 #[.int .u32 lo, .int .u32 hi] w fun e w' => e = .returned (.tuple #[(Value.agg #[.int .i64 p0, .int .i64 p1, .int .i64 p2, .int .i64 p3, .int .u32 p4]), .int .i64 0]) ∧ Below w.heap.size w w' := by
  obtain ⟨e0, e1, e2, ho⟩ := hp.out
  have m1 : bits BinOp.and IntKind.u32 (lo / 1048576) 255 = p1 := by rw [and_mod 8 _ 255 (by omega) (by omega) (by decide) (by decide)]; exact e1
  have m2 : bits BinOp.and IntKind.u32 lo 1048575 = p2 := by rw [and_mod 20 _ 1048575 (by omega) (by omega) (by decide) (by decide)]; exact e2
  rcases ho with ⟨rfl, rfl, rfl⟩ | ⟨n0, e3, e4⟩
  · exact refunpack_n_ok lo _ p1 p2 w g0 g1 g2 g3 m1 m2 (by omega) (by omega) (by omega) (by omega) e0 h
  · have m3 : bits BinOp.and IntKind.u32 hi 536870911 = p4 := by rw [and_mod 29 _ 536870911 (by omega) (by omega) (by decide) (by decide)]; exact e4
    exact refunpack_a_ok lo hi p0 p1 p2 p3 p4 w g0 g1 g2 g3 m1 m2 (by omega) (by omega) (by omega) (by omega) (by omega) (by omega) e0 (by simpa using n0) e3 m3 (by omega) (by omega) (by omega) h
theorem refunpack_no (lo hi p0 p1 p2 p3 p4 : Int) (w : World) (g0 : 0 ≤ lo) (g1 : lo ≤ 4294967295) (g2 : 0 ≤ hi) (g3 : hi ≤ 4294967295) (hp : Hid (Parts lo hi p0 p1 p2 p3 p4)) (c : Int) (hc0 : ¬ c = 0) (h : Hid (codeOf p0 p1 p2 p3 p4 = c)) :
    Calls Tryd.prog 30 #[.int .u32 lo, .int .u32 hi] w fun e w' => e = .returned (.tuple #[.agg #[.int .i64 0, .int .i64 0, .int .i64 0, .int .i64 0, .int .u32 0], .int .i64 c]) ∧ Below w.heap.size w w' := by
  obtain ⟨e0, e1, e2, ho⟩ := hp.out
  have m1 : bits BinOp.and IntKind.u32 (lo / 1048576) 255 = p1 := by rw [and_mod 8 _ 255 (by omega) (by omega) (by decide) (by decide)]; exact e1
  have m2 : bits BinOp.and IntKind.u32 lo 1048575 = p2 := by rw [and_mod 20 _ 1048575 (by omega) (by omega) (by decide) (by decide)]; exact e2
  have c0 : (c == 0) = false := beq_eq_false_iff_ne.2 hc0
  have c1 : (c != 0) = true := by simp [hc0]
  rcases ho with ⟨rfl, rfl, rfl⟩ | ⟨n0, e3, e4⟩
  · exact refunpack_n_bad lo _ p1 p2 w g0 g1 g2 g3 m1 m2 (by omega) (by omega) (by omega) (by omega) e0 c c0 c1 h
  · have m3 : bits BinOp.and IntKind.u32 hi 536870911 = p4 := by rw [and_mod 29 _ 536870911 (by omega) (by omega) (by decide) (by decide)]; exact e4
    exact refunpack_a_bad lo hi p0 p1 p2 p3 p4 w g0 g1 g2 g3 m1 m2 (by omega) (by omega) (by omega) (by omega) (by omega) (by omega) e0 (by simpa using n0) e3 m3 (by omega) (by omega) (by omega) c c0 c1 h
/-- Is, of an error whose number is known from an earlier world on. -/
theorem is_yes {e : Value} {c : Int} {W w : World} (hF : FaultIs e c 0 false W) (hB : Below W.heap.size W w) : Calls Tryd.prog 31 #[e, .int .i64 c] w fun e' w' => e' = .returned (.bool true) ∧ Below w.heap.size w w' := by
  have h := is_any e c 0 c false w (hF.later hB)
  have hb : faultB c 0 c 0 false false = true := by simp [faultB]
  rwa [hb] at h
theorem kkind_is (k : Int) (s : ByteArray) (hs : Hid (nmT k = s)) (h1 : -9223372036854775808 ≤ k) (h2 : k ≤ 9223372036854775807) (w : World) (hN : Names w) : Calls Tryd.prog 34 #[.int .i64 k] w fun e w' => e = .returned (.string s) ∧ w = w' := by
  rw [← hs.out]; exact kkind_any k h1 h2 w hN
theorem refname_is (k : Int) (s : ByteArray) (hs : Hid (nmT k = s)) (w : World) : Calls Tryd.prog 35 #[.int .i64 k] w fun e w' => e = .returned (.string s) ∧ Below w.heap.size w w' := by
  rw [← hs.out]; exact refname_any k w
theorem refpack_is (k0 k1 k2 k3 k4 : Int) (l h : Int) (w : World) (hr : Hid (rightB k0 k1 k2 k3 k4 = true)) (g8 : 0 ≤ k4) (g9 : k4 ≤ 4294967295) (h1 : Hid (packLo k0 k1 k2 = l)) (h2 : Hid (packHi k3 k4 = h)) :
    Calls Tryd.prog 36 #[(Value.agg #[.int .i64 k0, .int .i64 k1, .int .i64 k2, .int .i64 k3, .int .u32 k4])] w fun e w' => e = .returned (.tuple #[.int .u32 l, .int .u32 h]) ∧ Below w.heap.size w w' := by
  rw [← h1.out, ← h2.out]; exact refpack_ok k0 k1 k2 k3 k4 w hr g8 g9
end Go.Proofs.YtggnaalcdekccaaDoor
