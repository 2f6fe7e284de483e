import Derived.Test.YtahhnfhnlffmpaaValidB
import Derived.Test.YtahhnfhnlffmpaaValidC
import Derived.Test.YtahhnfhnlffmpaaValidD
import Derived.Test.YtahhnfhnlffmpaaValidE
namespace Go.Proofs.Ytahhnfhnlffmpaa
open Go.ChangeShapes Go.WideShapes Go.ChangeAt Go.RowKit
set_option linter.unusedVariables false
def mostOf (k : Int) : Int := if 1 < manyOf k then 1048575 else 0
def rightsOf (k : Int) : Int := if k = 2 ∨ k = 3 then 7 else 0
def dataOf (k : Int) : Int := if k = 1 then 4294967295 else if k = 2 then 4 else if k = 5 ∨ k = 6 then 536870911 else 0
def InB (k0 k1 k2 k3 k4 : Int) : Prop := 0 ≤ k1 ∧ k1 < manyOf k0 ∧ 0 ≤ k2 ∧ k2 ≤ mostOf k0 ∧ 0 ≤ k3 ∧ k3 ≤ rightsOf k0 ∧ k4 ≤ dataOf k0
instance (k0 k1 k2 k3 k4 : Int) : Decidable (InB k0 k1 k2 k3 k4) := by unfold InB; infer_instance
/-- The error's number of a key that may not be; 0: it may. -/
def codeOf (k0 k1 k2 k3 k4 : Int) : Int := if k0 < 0 ∨ 14 < k0 then 102 else if InB k0 k1 k2 k3 k4 then 0 else 103
theorem codeOf_102 (k0 k1 k2 k3 k4 : Int) (h : k0 < 0 ∨ 14 < k0) : codeOf k0 k1 k2 k3 k4 = 102 := by unfold codeOf; rw [if_pos h]
theorem codeOf_0 (k0 k1 k2 k3 k4 : Int) (h : ¬ (k0 < 0 ∨ 14 < k0)) (hi : InB k0 k1 k2 k3 k4) : codeOf k0 k1 k2 k3 k4 = 0 := by unfold codeOf; rw [if_neg h, if_pos hi]
theorem codeOf_103 (k0 k1 k2 k3 k4 : Int) (h : ¬ (k0 < 0 ∨ 14 < k0)) (hi : ¬ InB k0 k1 k2 k3 k4) : codeOf k0 k1 k2 k3 k4 = 103 := by unfold codeOf; rw [if_neg h, if_neg hi]
theorem valid_1 (k1 k2 k3 k4 : Int) (gu : k4 ≤ 4294967295) (w : World) : Calls Try.prog 8 #[Value.agg #[.int .i64 1, .int .i64 k1, .int .i64 k2, .int .i64 k3, .int .u32 k4]] w fun e w' => e = .returned (.int .i64 (codeOf 1 k1 k2 k3 k4)) ∧ Below w.heap.size w w' := by
  have hm : manyOf 1 = 1 := rfl
  have nk : ¬ ((1 : Int) < 0 ∨ 14 < (1 : Int)) := by omega
  have hmo : mostOf 1 = 0 := rfl
  have hrg : rightsOf 1 = 0 := rfl
  have hda : dataOf 1 = 4294967295 := rfl
  by_cases g0 : 0 ≤ k1
  rotate_left
  · rw [codeOf_103 _ _ _ _ _ nk (by unfold InB; rw [hm, hmo, hrg, hda]; omega)]; exact valid_1_b0 k1 k2 k3 k4 (Lib.hid hm)  g0 w
  by_cases g1 : k1 < 1
  rotate_left
  · rw [codeOf_103 _ _ _ _ _ nk (by unfold InB; rw [hm, hmo, hrg, hda]; omega)]; exact valid_1_b1 k1 k2 k3 k4 (Lib.hid hm) g0 g1 w
  by_cases g2 : 0 ≤ k2
  rotate_left
  · rw [codeOf_103 _ _ _ _ _ nk (by unfold InB; rw [hm, hmo, hrg, hda]; omega)]; exact valid_1_b2 k1 k2 k3 k4 (Lib.hid hm) g0 g1 g2 w
  by_cases g3 : k2 ≤ 0
  rotate_left
  · rw [codeOf_103 _ _ _ _ _ nk (by unfold InB; rw [hm, hmo, hrg, hda]; omega)]; exact valid_1_b3 k1 k2 k3 k4 (Lib.hid hm) g0 g1 g2 g3 w
  by_cases g4 : 0 ≤ k3
  rotate_left
  · rw [codeOf_103 _ _ _ _ _ nk (by unfold InB; rw [hm, hmo, hrg, hda]; omega)]; exact valid_1_b4 k1 k2 k3 k4 (Lib.hid hm) g0 g1 g2 g3 g4 w
  by_cases g5 : k3 ≤ 0
  rotate_left
  · rw [codeOf_103 _ _ _ _ _ nk (by unfold InB; rw [hm, hmo, hrg, hda]; omega)]; exact valid_1_b5 k1 k2 k3 k4 (Lib.hid hm) g0 g1 g2 g3 g4 g5 w
  by_cases g6 : k4 ≤ 4294967295
  rotate_left
  · rw [codeOf_103 _ _ _ _ _ nk (by unfold InB; rw [hm, hmo, hrg, hda]; omega)]; exact valid_1_b6 k1 k2 k3 k4 (Lib.hid hm) g0 g1 g2 g3 g4 g5 g6 gu w
  rw [codeOf_0 _ _ _ _ _ nk (by unfold InB; rw [hm, hmo, hrg, hda]; omega)]; exact valid_1_ok k1 k2 k3 k4 (Lib.hid hm) g0 g1 g2 g3 g4 g5 g6 w
theorem valid_2 (k1 k2 k3 k4 : Int) (gu : k4 ≤ 4294967295) (w : World) : Calls Try.prog 8 #[Value.agg #[.int .i64 2, .int .i64 k1, .int .i64 k2, .int .i64 k3, .int .u32 k4]] w fun e w' => e = .returned (.int .i64 (codeOf 2 k1 k2 k3 k4)) ∧ Below w.heap.size w w' := by
  have hm : manyOf 2 = 256 := rfl
  have nk : ¬ ((2 : Int) < 0 ∨ 14 < (2 : Int)) := by omega
  have hmo : mostOf 2 = 1048575 := rfl
  have hrg : rightsOf 2 = 7 := rfl
  have hda : dataOf 2 = 4 := rfl
  by_cases g0 : 0 ≤ k1
  rotate_left
  · rw [codeOf_103 _ _ _ _ _ nk (by unfold InB; rw [hm, hmo, hrg, hda]; omega)]; exact valid_2_b0 k1 k2 k3 k4 (Lib.hid hm)  g0 w
  by_cases g1 : k1 < 256
  rotate_left
  · rw [codeOf_103 _ _ _ _ _ nk (by unfold InB; rw [hm, hmo, hrg, hda]; omega)]; exact valid_2_b1 k1 k2 k3 k4 (Lib.hid hm) g0 g1 w
  by_cases g2 : 0 ≤ k2
  rotate_left
  · rw [codeOf_103 _ _ _ _ _ nk (by unfold InB; rw [hm, hmo, hrg, hda]; omega)]; exact valid_2_b2 k1 k2 k3 k4 (Lib.hid hm) g0 g1 g2 w
  by_cases g3 : k2 ≤ 1048575
  rotate_left
  · rw [codeOf_103 _ _ _ _ _ nk (by unfold InB; rw [hm, hmo, hrg, hda]; omega)]; exact valid_2_b3 k1 k2 k3 k4 (Lib.hid hm) g0 g1 g2 g3 w
  by_cases g4 : 0 ≤ k3
  rotate_left
  · rw [codeOf_103 _ _ _ _ _ nk (by unfold InB; rw [hm, hmo, hrg, hda]; omega)]; exact valid_2_b4 k1 k2 k3 k4 (Lib.hid hm) g0 g1 g2 g3 g4 w
  by_cases g5 : k3 ≤ 7
  rotate_left
  · rw [codeOf_103 _ _ _ _ _ nk (by unfold InB; rw [hm, hmo, hrg, hda]; omega)]; exact valid_2_b5 k1 k2 k3 k4 (Lib.hid hm) g0 g1 g2 g3 g4 g5 w
  by_cases g6 : k4 ≤ 4
  rotate_left
  · rw [codeOf_103 _ _ _ _ _ nk (by unfold InB; rw [hm, hmo, hrg, hda]; omega)]; exact valid_2_b6 k1 k2 k3 k4 (Lib.hid hm) g0 g1 g2 g3 g4 g5 g6 w
  rw [codeOf_0 _ _ _ _ _ nk (by unfold InB; rw [hm, hmo, hrg, hda]; omega)]; exact valid_2_ok k1 k2 k3 k4 (Lib.hid hm) g0 g1 g2 g3 g4 g5 g6 w
theorem valid_3 (k1 k2 k3 k4 : Int) (gu : k4 ≤ 4294967295) (w : World) : Calls Try.prog 8 #[Value.agg #[.int .i64 3, .int .i64 k1, .int .i64 k2, .int .i64 k3, .int .u32 k4]] w fun e w' => e = .returned (.int .i64 (codeOf 3 k1 k2 k3 k4)) ∧ Below w.heap.size w w' := by
  have hm : manyOf 3 = 256 := rfl
  have nk : ¬ ((3 : Int) < 0 ∨ 14 < (3 : Int)) := by omega
  have hmo : mostOf 3 = 1048575 := rfl
  have hrg : rightsOf 3 = 7 := rfl
  have hda : dataOf 3 = 0 := rfl
  by_cases g0 : 0 ≤ k1
  rotate_left
  · rw [codeOf_103 _ _ _ _ _ nk (by unfold InB; rw [hm, hmo, hrg, hda]; omega)]; exact valid_3_b0 k1 k2 k3 k4 (Lib.hid hm)  g0 w
  by_cases g1 : k1 < 256
  rotate_left
  · rw [codeOf_103 _ _ _ _ _ nk (by unfold InB; rw [hm, hmo, hrg, hda]; omega)]; exact valid_3_b1 k1 k2 k3 k4 (Lib.hid hm) g0 g1 w
  by_cases g2 : 0 ≤ k2
  rotate_left
  · rw [codeOf_103 _ _ _ _ _ nk (by unfold InB; rw [hm, hmo, hrg, hda]; omega)]; exact valid_3_b2 k1 k2 k3 k4 (Lib.hid hm) g0 g1 g2 w
  by_cases g3 : k2 ≤ 1048575
  rotate_left
  · rw [codeOf_103 _ _ _ _ _ nk (by unfold InB; rw [hm, hmo, hrg, hda]; omega)]; exact valid_3_b3 k1 k2 k3 k4 (Lib.hid hm) g0 g1 g2 g3 w
  by_cases g4 : 0 ≤ k3
  rotate_left
  · rw [codeOf_103 _ _ _ _ _ nk (by unfold InB; rw [hm, hmo, hrg, hda]; omega)]; exact valid_3_b4 k1 k2 k3 k4 (Lib.hid hm) g0 g1 g2 g3 g4 w
  by_cases g5 : k3 ≤ 7
  rotate_left
  · rw [codeOf_103 _ _ _ _ _ nk (by unfold InB; rw [hm, hmo, hrg, hda]; omega)]; exact valid_3_b5 k1 k2 k3 k4 (Lib.hid hm) g0 g1 g2 g3 g4 g5 w
  by_cases g6 : k4 ≤ 0
  rotate_left
  · rw [codeOf_103 _ _ _ _ _ nk (by unfold InB; rw [hm, hmo, hrg, hda]; omega)]; exact valid_3_b6 k1 k2 k3 k4 (Lib.hid hm) g0 g1 g2 g3 g4 g5 g6 w
  rw [codeOf_0 _ _ _ _ _ nk (by unfold InB; rw [hm, hmo, hrg, hda]; omega)]; exact valid_3_ok k1 k2 k3 k4 (Lib.hid hm) g0 g1 g2 g3 g4 g5 g6 w
theorem valid_5 (k1 k2 k3 k4 : Int) (gu : k4 ≤ 4294967295) (w : World) : Calls Try.prog 8 #[Value.agg #[.int .i64 5, .int .i64 k1, .int .i64 k2, .int .i64 k3, .int .u32 k4]] w fun e w' => e = .returned (.int .i64 (codeOf 5 k1 k2 k3 k4)) ∧ Below w.heap.size w w' := by
  have hm : manyOf 5 = 32 := rfl
  have nk : ¬ ((5 : Int) < 0 ∨ 14 < (5 : Int)) := by omega
  have hmo : mostOf 5 = 1048575 := rfl
  have hrg : rightsOf 5 = 0 := rfl
  have hda : dataOf 5 = 536870911 := rfl
  by_cases g0 : 0 ≤ k1
  rotate_left
  · rw [codeOf_103 _ _ _ _ _ nk (by unfold InB; rw [hm, hmo, hrg, hda]; omega)]; exact valid_5_b0 k1 k2 k3 k4 (Lib.hid hm)  g0 w
  by_cases g1 : k1 < 32
  rotate_left
  · rw [codeOf_103 _ _ _ _ _ nk (by unfold InB; rw [hm, hmo, hrg, hda]; omega)]; exact valid_5_b1 k1 k2 k3 k4 (Lib.hid hm) g0 g1 w
  by_cases g2 : 0 ≤ k2
  rotate_left
  · rw [codeOf_103 _ _ _ _ _ nk (by unfold InB; rw [hm, hmo, hrg, hda]; omega)]; exact valid_5_b2 k1 k2 k3 k4 (Lib.hid hm) g0 g1 g2 w
  by_cases g3 : k2 ≤ 1048575
  rotate_left
  · rw [codeOf_103 _ _ _ _ _ nk (by unfold InB; rw [hm, hmo, hrg, hda]; omega)]; exact valid_5_b3 k1 k2 k3 k4 (Lib.hid hm) g0 g1 g2 g3 w
  by_cases g4 : 0 ≤ k3
  rotate_left
  · rw [codeOf_103 _ _ _ _ _ nk (by unfold InB; rw [hm, hmo, hrg, hda]; omega)]; exact valid_5_b4 k1 k2 k3 k4 (Lib.hid hm) g0 g1 g2 g3 g4 w
  by_cases g5 : k3 ≤ 0
  rotate_left
  · rw [codeOf_103 _ _ _ _ _ nk (by unfold InB; rw [hm, hmo, hrg, hda]; omega)]; exact valid_5_b5 k1 k2 k3 k4 (Lib.hid hm) g0 g1 g2 g3 g4 g5 w
  by_cases g6 : k4 ≤ 536870911
  rotate_left
  · rw [codeOf_103 _ _ _ _ _ nk (by unfold InB; rw [hm, hmo, hrg, hda]; omega)]; exact valid_5_b6 k1 k2 k3 k4 (Lib.hid hm) g0 g1 g2 g3 g4 g5 g6 w
  rw [codeOf_0 _ _ _ _ _ nk (by unfold InB; rw [hm, hmo, hrg, hda]; omega)]; exact valid_5_ok k1 k2 k3 k4 (Lib.hid hm) g0 g1 g2 g3 g4 g5 g6 w
theorem valid_6 (k1 k2 k3 k4 : Int) (gu : k4 ≤ 4294967295) (w : World) : Calls Try.prog 8 #[Value.agg #[.int .i64 6, .int .i64 k1, .int .i64 k2, .int .i64 k3, .int .u32 k4]] w fun e w' => e = .returned (.int .i64 (codeOf 6 k1 k2 k3 k4)) ∧ Below w.heap.size w w' := by
  have hm : manyOf 6 = 32 := rfl
  have nk : ¬ ((6 : Int) < 0 ∨ 14 < (6 : Int)) := by omega
  have hmo : mostOf 6 = 1048575 := rfl
  have hrg : rightsOf 6 = 0 := rfl
  have hda : dataOf 6 = 536870911 := rfl
  by_cases g0 : 0 ≤ k1
  rotate_left
  · rw [codeOf_103 _ _ _ _ _ nk (by unfold InB; rw [hm, hmo, hrg, hda]; omega)]; exact valid_6_b0 k1 k2 k3 k4 (Lib.hid hm)  g0 w
  by_cases g1 : k1 < 32
  rotate_left
  · rw [codeOf_103 _ _ _ _ _ nk (by unfold InB; rw [hm, hmo, hrg, hda]; omega)]; exact valid_6_b1 k1 k2 k3 k4 (Lib.hid hm) g0 g1 w
  by_cases g2 : 0 ≤ k2
  rotate_left
  · rw [codeOf_103 _ _ _ _ _ nk (by unfold InB; rw [hm, hmo, hrg, hda]; omega)]; exact valid_6_b2 k1 k2 k3 k4 (Lib.hid hm) g0 g1 g2 w
  by_cases g3 : k2 ≤ 1048575
  rotate_left
  · rw [codeOf_103 _ _ _ _ _ nk (by unfold InB; rw [hm, hmo, hrg, hda]; omega)]; exact valid_6_b3 k1 k2 k3 k4 (Lib.hid hm) g0 g1 g2 g3 w
  by_cases g4 : 0 ≤ k3
  rotate_left
  · rw [codeOf_103 _ _ _ _ _ nk (by unfold InB; rw [hm, hmo, hrg, hda]; omega)]; exact valid_6_b4 k1 k2 k3 k4 (Lib.hid hm) g0 g1 g2 g3 g4 w
  by_cases g5 : k3 ≤ 0
  rotate_left
  · rw [codeOf_103 _ _ _ _ _ nk (by unfold InB; rw [hm, hmo, hrg, hda]; omega)]; exact valid_6_b5 k1 k2 k3 k4 (Lib.hid hm) g0 g1 g2 g3 g4 g5 w
  by_cases g6 : k4 ≤ 536870911
  rotate_left
  · rw [codeOf_103 _ _ _ _ _ nk (by unfold InB; rw [hm, hmo, hrg, hda]; omega)]; exact valid_6_b6 k1 k2 k3 k4 (Lib.hid hm) g0 g1 g2 g3 g4 g5 g6 w
  rw [codeOf_0 _ _ _ _ _ nk (by unfold InB; rw [hm, hmo, hrg, hda]; omega)]; exact valid_6_ok k1 k2 k3 k4 (Lib.hid hm) g0 g1 g2 g3 g4 g5 g6 w
theorem valid_D (k0 k1 k2 k3 k4 : Int) (h0 : 0 ≤ k0) (h14 : k0 ≤ 14) (h1 : ¬ k0 = 1) (h2 : ¬ k0 = 2) (h3 : ¬ k0 = 3) (h5 : ¬ k0 = 5) (h6 : ¬ k0 = 6) (hm1 : 1 < manyOf k0) (gu : k4 ≤ 4294967295) (w : World) : Calls Try.prog 8 #[Value.agg #[.int .i64 k0, .int .i64 k1, .int .i64 k2, .int .i64 k3, .int .u32 k4]] w fun e w' => e = .returned (.int .i64 (codeOf k0 k1 k2 k3 k4)) ∧ Below w.heap.size w w' := by
  have hm : manyOf k0 = (manyOf k0) := rfl
  have nk : ¬ ((k0 : Int) < 0 ∨ 14 < (k0 : Int)) := by omega
  have hmo : mostOf k0 = 1048575 := by unfold mostOf; rw [if_pos hm1]
  have hrg : rightsOf k0 = 0 := by unfold rightsOf; rw [if_neg (by omega)]
  have hda : dataOf k0 = 0 := by unfold dataOf; rw [if_neg h1, if_neg h2, if_neg (by omega)]
  by_cases g0 : 0 ≤ k1
  rotate_left
  · rw [codeOf_103 _ _ _ _ _ nk (by unfold InB; rw [hm, hmo, hrg, hda]; omega)]; exact valid_D_b0 k0 k1 k2 k3 k4 (manyOf k0) h0 h14 h1 h2 h3 h5 h6 (Lib.hid hm) hm1  g0 w
  by_cases g1 : k1 < (manyOf k0)
  rotate_left
  · rw [codeOf_103 _ _ _ _ _ nk (by unfold InB; rw [hm, hmo, hrg, hda]; omega)]; exact valid_D_b1 k0 k1 k2 k3 k4 (manyOf k0) h0 h14 h1 h2 h3 h5 h6 (Lib.hid hm) hm1 g0 g1 w
  by_cases g2 : 0 ≤ k2
  rotate_left
  · rw [codeOf_103 _ _ _ _ _ nk (by unfold InB; rw [hm, hmo, hrg, hda]; omega)]; exact valid_D_b2 k0 k1 k2 k3 k4 (manyOf k0) h0 h14 h1 h2 h3 h5 h6 (Lib.hid hm) hm1 g0 g1 g2 w
  by_cases g3 : k2 ≤ 1048575
  rotate_left
  · rw [codeOf_103 _ _ _ _ _ nk (by unfold InB; rw [hm, hmo, hrg, hda]; omega)]; exact valid_D_b3 k0 k1 k2 k3 k4 (manyOf k0) h0 h14 h1 h2 h3 h5 h6 (Lib.hid hm) hm1 g0 g1 g2 g3 w
  by_cases g4 : 0 ≤ k3
  rotate_left
  · rw [codeOf_103 _ _ _ _ _ nk (by unfold InB; rw [hm, hmo, hrg, hda]; omega)]; exact valid_D_b4 k0 k1 k2 k3 k4 (manyOf k0) h0 h14 h1 h2 h3 h5 h6 (Lib.hid hm) hm1 g0 g1 g2 g3 g4 w
  by_cases g5 : k3 ≤ 0
  rotate_left
  · rw [codeOf_103 _ _ _ _ _ nk (by unfold InB; rw [hm, hmo, hrg, hda]; omega)]; exact valid_D_b5 k0 k1 k2 k3 k4 (manyOf k0) h0 h14 h1 h2 h3 h5 h6 (Lib.hid hm) hm1 g0 g1 g2 g3 g4 g5 w
  by_cases g6 : k4 ≤ 0
  rotate_left
  · rw [codeOf_103 _ _ _ _ _ nk (by unfold InB; rw [hm, hmo, hrg, hda]; omega)]; exact valid_D_b6 k0 k1 k2 k3 k4 (manyOf k0) h0 h14 h1 h2 h3 h5 h6 (Lib.hid hm) hm1 g0 g1 g2 g3 g4 g5 g6 w
  rw [codeOf_0 _ _ _ _ _ nk (by unfold InB; rw [hm, hmo, hrg, hda]; omega)]; exact valid_D_ok k0 k1 k2 k3 k4 (manyOf k0) h0 h14 h1 h2 h3 h5 h6 (Lib.hid hm) hm1 g0 g1 g2 g3 g4 g5 g6 w
theorem valid_F (k0 k1 k2 k3 k4 : Int) (h0 : 0 ≤ k0) (h14 : k0 ≤ 14) (h1 : ¬ k0 = 1) (h2 : ¬ k0 = 2) (h3 : ¬ k0 = 3) (h5 : ¬ k0 = 5) (h6 : ¬ k0 = 6) (hm0 : manyOf k0 = 1) (gu : k4 ≤ 4294967295) (w : World) : Calls Try.prog 8 #[Value.agg #[.int .i64 k0, .int .i64 k1, .int .i64 k2, .int .i64 k3, .int .u32 k4]] w fun e w' => e = .returned (.int .i64 (codeOf k0 k1 k2 k3 k4)) ∧ Below w.heap.size w w' := by
  have hm : manyOf k0 = 1 := hm0
  have nk : ¬ ((k0 : Int) < 0 ∨ 14 < (k0 : Int)) := by omega
  have hmo : mostOf k0 = 0 := by unfold mostOf; rw [hm0]; rfl
  have hrg : rightsOf k0 = 0 := by unfold rightsOf; rw [if_neg (by omega)]
  have hda : dataOf k0 = 0 := by unfold dataOf; rw [if_neg h1, if_neg h2, if_neg (by omega)]
  by_cases g0 : 0 ≤ k1
  rotate_left
  · rw [codeOf_103 _ _ _ _ _ nk (by unfold InB; rw [hm, hmo, hrg, hda]; omega)]; exact valid_F_b0 k0 k1 k2 k3 k4 h0 h14 h1 h2 h3 h5 h6 (Lib.hid hm)  g0 w
  by_cases g1 : k1 < 1
  rotate_left
  · rw [codeOf_103 _ _ _ _ _ nk (by unfold InB; rw [hm, hmo, hrg, hda]; omega)]; exact valid_F_b1 k0 k1 k2 k3 k4 h0 h14 h1 h2 h3 h5 h6 (Lib.hid hm) g0 g1 w
  by_cases g2 : 0 ≤ k2
  rotate_left
  · rw [codeOf_103 _ _ _ _ _ nk (by unfold InB; rw [hm, hmo, hrg, hda]; omega)]; exact valid_F_b2 k0 k1 k2 k3 k4 h0 h14 h1 h2 h3 h5 h6 (Lib.hid hm) g0 g1 g2 w
  by_cases g3 : k2 ≤ 0
  rotate_left
  · rw [codeOf_103 _ _ _ _ _ nk (by unfold InB; rw [hm, hmo, hrg, hda]; omega)]; exact valid_F_b3 k0 k1 k2 k3 k4 h0 h14 h1 h2 h3 h5 h6 (Lib.hid hm) g0 g1 g2 g3 w
  by_cases g4 : 0 ≤ k3
  rotate_left
  · rw [codeOf_103 _ _ _ _ _ nk (by unfold InB; rw [hm, hmo, hrg, hda]; omega)]; exact valid_F_b4 k0 k1 k2 k3 k4 h0 h14 h1 h2 h3 h5 h6 (Lib.hid hm) g0 g1 g2 g3 g4 w
  by_cases g5 : k3 ≤ 0
  rotate_left
  · rw [codeOf_103 _ _ _ _ _ nk (by unfold InB; rw [hm, hmo, hrg, hda]; omega)]; exact valid_F_b5 k0 k1 k2 k3 k4 h0 h14 h1 h2 h3 h5 h6 (Lib.hid hm) g0 g1 g2 g3 g4 g5 w
  by_cases g6 : k4 ≤ 0
  rotate_left
  · rw [codeOf_103 _ _ _ _ _ nk (by unfold InB; rw [hm, hmo, hrg, hda]; omega)]; exact valid_F_b6 k0 k1 k2 k3 k4 h0 h14 h1 h2 h3 h5 h6 (Lib.hid hm) g0 g1 g2 g3 g4 g5 g6 w
  rw [codeOf_0 _ _ _ _ _ nk (by unfold InB; rw [hm, hmo, hrg, hda]; omega)]; exact valid_F_ok k0 k1 k2 k3 k4 h0 h14 h1 h2 h3 h5 h6 (Lib.hid hm) g0 g1 g2 g3 g4 g5 g6 w
theorem valid_any (k0 k1 k2 k3 k4 : Int) (gu : k4 ≤ 4294967295) (w : World) : Calls Try.prog 8 #[(Value.agg #[.int .i64 k0, .int .i64 k1, .int .i64 k2, .int .i64 k3, .int .u32 k4])] w fun e w' => e = .returned (.int .i64 (codeOf k0 k1 k2 k3 k4)) ∧ Below w.heap.size w w' := by
  by_cases hk : k0 < 0
  · rw [codeOf_102 _ _ _ _ _ (.inl hk)]; exact valid_kind0 k0 k1 k2 k3 k4 hk w
  by_cases hk' : 14 < k0
  · rw [codeOf_102 _ _ _ _ _ (.inr hk')]; exact valid_kind1 k0 k1 k2 k3 k4 hk' w
  by_cases h1 : k0 = 1
  · subst h1; exact valid_1 k1 k2 k3 k4 gu w
  by_cases h2 : k0 = 2
  · subst h2; exact valid_2 k1 k2 k3 k4 gu w
  by_cases h3 : k0 = 3
  · subst h3; exact valid_3 k1 k2 k3 k4 gu w
  by_cases h5 : k0 = 5
  · subst h5; exact valid_5 k1 k2 k3 k4 gu w
  by_cases h6 : k0 = 6
  · subst h6; exact valid_6 k1 k2 k3 k4 gu w
  by_cases hD : k0 = 4 ∨ k0 = 7 ∨ k0 = 8 ∨ k0 = 9 ∨ k0 = 10
  · exact valid_D k0 k1 k2 k3 k4 (by omega) (by omega) h1 h2 h3 h5 h6 (by rcases hD with rfl | rfl | rfl | rfl | rfl <;> decide) gu w
  · exact valid_F k0 k1 k2 k3 k4 (by omega) (by omega) h1 h2 h3 h5 h6 (by unfold manyOf; rw [if_neg (by omega), if_neg (by omega), if_neg (by omega)]) gu w
theorem valid_is (k0 k1 k2 k3 k4 : Int) (c : Int) (h : Hid (codeOf k0 k1 k2 k3 k4 = c)) (gu : k4 ≤ 4294967295) (w : World) : Calls Try.prog 8 #[(Value.agg #[.int .i64 k0, .int .i64 k1, .int .i64 k2, .int .i64 k3, .int .u32 k4])] w fun e w' => e = .returned (.int .i64 c) ∧ Below w.heap.size w w' := by
  rw [← h.out]; exact valid_any k0 k1 k2 k3 k4 gu w
end Go.Proofs.Ytahhnfhnlffmpaa
