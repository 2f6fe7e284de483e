/-
  turnkeyref1.ValidInstr: ops 8, 9, 10, 11, 12, 13.
-/
import Derived.Test.YtaekccgcnlepaaaGreatDoorCodeV0
namespace Go.Proofs.YtaekccgcnlepaaaGreatDoor
open Go.ChangeShapes Go.WideShapes Go.ChangeAt Go.RowKit
set_option linter.unusedVariables false
set_option linter.unusedSimpArgs false
set_option maxRecDepth 100000 in
set_option maxHeartbeats 4000000 in
theorem vi_8 (a b c i : Int) (w : World) : Calls Tryz.prog 38 #[.agg #[.int .i64 8, .int .i64 a, .int .i64 b, .int .i64 c, .int .i64 i]] w fun e w' => e = .returned (.int .i64 (codeI 8 a b c i)) ∧ Below w.heap.size w w' := by
  cases h0 : wiB a 16
  · rw [codeI_no (by rw [okt_8, h0]; rfl) (by decide)]
    have E0 := Lib.hid h0
    clear h0
    go_enter Tryz.func38, Tryz.ntmps38
    go_wp2_with (first | (go_at_call 57; (with_reducible refine (within_is a 16 false E0 _).mono ?_); rintro e w1 ⟨rfl, rfl⟩))
    go_ret
    exact ⟨rfl, by first | exact (Below.refl _ _).alloc (Nat.le_refl _) _ | exact ((Below.refl _ _).alloc (Nat.le_refl _) _).alloc (by simp) _⟩
  cases h1 : wiB b 16
  · rw [codeI_no (by rw [okt_8, h0, h1]; rfl) (by decide)]
    have E0 := Lib.hid h0
    have E1 := Lib.hid h1
    clear h0 h1
    go_enter Tryz.func38, Tryz.ntmps38
    go_wp2_with (first | (go_at_call 57; (with_reducible refine (within_is a 16 true E0 _).mono ?_); rintro e w1 ⟨rfl, rfl⟩) | (go_at_call 57; (with_reducible refine (within_is b 16 false E1 _).mono ?_); rintro e w1 ⟨rfl, rfl⟩))
    go_ret
    exact ⟨rfl, by first | exact (Below.refl _ _).alloc (Nat.le_refl _) _ | exact ((Below.refl _ _).alloc (Nat.le_refl _) _).alloc (by simp) _⟩
  cases h2 : nnB [c, i]
  · rw [codeI_no (by rw [okt_8, h0, h1, h2]; rfl) (by decide)]
    have E0 := Lib.hid h0
    have E1 := Lib.hid h1
    have E2 := Lib.hid h2
    clear h0 h1 h2
    go_enter Tryz.func38, Tryz.ntmps38
    go_wp2_with (first | (go_at_call 57; (with_reducible refine (within_is a 16 true E0 _).mono ?_); rintro e w1 ⟨rfl, rfl⟩) | (go_at_call 57; (with_reducible refine (within_is b 16 true E1 _).mono ?_); rintro e w1 ⟨rfl, rfl⟩) | (go_at_call 58; refine (refnone_is _ 2 _ [c, i] (by rfl) false E2 (by decide) _ (nat2 c i _ _ _ (by simp))).mono ?_; rintro e w1 ⟨rfl, rfl⟩))
    go_ret
    exact ⟨rfl, by first | exact (Below.refl _ _).alloc (Nat.le_refl _) _ | exact ((Below.refl _ _).alloc (Nat.le_refl _) _).alloc (by simp) _⟩
  rw [codeI_ok (by rw [okt_8, h0, h1, h2]; rfl)]
  have E0 := Lib.hid h0
  have E1 := Lib.hid h1
  have E2 := Lib.hid h2
  clear h0 h1 h2
  go_enter Tryz.func38, Tryz.ntmps38
  go_wp2_with (first | (go_at_call 57; (with_reducible refine (within_is a 16 true E0 _).mono ?_); rintro e w1 ⟨rfl, rfl⟩) | (go_at_call 57; (with_reducible refine (within_is b 16 true E1 _).mono ?_); rintro e w1 ⟨rfl, rfl⟩) | (go_at_call 58; refine (refnone_is _ 2 _ [c, i] (by rfl) true E2 (by decide) _ (nat2 c i _ _ _ (by simp))).mono ?_; rintro e w1 ⟨rfl, rfl⟩))
  go_ret
  exact ⟨rfl, by first | exact (Below.refl _ _).alloc (Nat.le_refl _) _ | exact ((Below.refl _ _).alloc (Nat.le_refl _) _).alloc (by simp) _⟩
set_option maxRecDepth 100000 in
set_option maxHeartbeats 4000000 in
theorem vi_9 (a b c i : Int) (w : World) : Calls Tryz.prog 38 #[.agg #[.int .i64 9, .int .i64 a, .int .i64 b, .int .i64 c, .int .i64 i]] w fun e w' => e = .returned (.int .i64 (codeI 9 a b c i)) ∧ Below w.heap.size w w' := by
  cases h0 : wiB a 16
  · rw [codeI_no (by rw [okt_9, h0]; rfl) (by decide)]
    have E0 := Lib.hid h0
    clear h0
    go_enter Tryz.func38, Tryz.ntmps38
    go_wp2_with (first | (go_at_call 57; (with_reducible refine (within_is a 16 false E0 _).mono ?_); rintro e w1 ⟨rfl, rfl⟩))
    go_ret
    exact ⟨rfl, by first | exact (Below.refl _ _).alloc (Nat.le_refl _) _ | exact ((Below.refl _ _).alloc (Nat.le_refl _) _).alloc (by simp) _⟩
  cases h1 : wiB b 8
  · rw [codeI_no (by rw [okt_9, h0, h1]; rfl) (by decide)]
    have E0 := Lib.hid h0
    have E1 := Lib.hid h1
    clear h0 h1
    go_enter Tryz.func38, Tryz.ntmps38
    go_wp2_with (first | (go_at_call 57; (with_reducible refine (within_is a 16 true E0 _).mono ?_); rintro e w1 ⟨rfl, rfl⟩) | (go_at_call 57; (with_reducible refine (within_is b 8 false E1 _).mono ?_); rintro e w1 ⟨rfl, rfl⟩))
    go_ret
    exact ⟨rfl, by first | exact (Below.refl _ _).alloc (Nat.le_refl _) _ | exact ((Below.refl _ _).alloc (Nat.le_refl _) _).alloc (by simp) _⟩
  cases h2 : nnB [c, i]
  · rw [codeI_no (by rw [okt_9, h0, h1, h2]; rfl) (by decide)]
    have E0 := Lib.hid h0
    have E1 := Lib.hid h1
    have E2 := Lib.hid h2
    clear h0 h1 h2
    go_enter Tryz.func38, Tryz.ntmps38
    go_wp2_with (first | (go_at_call 57; (with_reducible refine (within_is a 16 true E0 _).mono ?_); rintro e w1 ⟨rfl, rfl⟩) | (go_at_call 57; (with_reducible refine (within_is b 8 true E1 _).mono ?_); rintro e w1 ⟨rfl, rfl⟩) | (go_at_call 58; refine (refnone_is _ 2 _ [c, i] (by rfl) false E2 (by decide) _ (nat2 c i _ _ _ (by simp))).mono ?_; rintro e w1 ⟨rfl, rfl⟩))
    go_ret
    exact ⟨rfl, by first | exact (Below.refl _ _).alloc (Nat.le_refl _) _ | exact ((Below.refl _ _).alloc (Nat.le_refl _) _).alloc (by simp) _⟩
  rw [codeI_ok (by rw [okt_9, h0, h1, h2]; rfl)]
  have E0 := Lib.hid h0
  have E1 := Lib.hid h1
  have E2 := Lib.hid h2
  clear h0 h1 h2
  go_enter Tryz.func38, Tryz.ntmps38
  go_wp2_with (first | (go_at_call 57; (with_reducible refine (within_is a 16 true E0 _).mono ?_); rintro e w1 ⟨rfl, rfl⟩) | (go_at_call 57; (with_reducible refine (within_is b 8 true E1 _).mono ?_); rintro e w1 ⟨rfl, rfl⟩) | (go_at_call 58; refine (refnone_is _ 2 _ [c, i] (by rfl) true E2 (by decide) _ (nat2 c i _ _ _ (by simp))).mono ?_; rintro e w1 ⟨rfl, rfl⟩))
  go_ret
  exact ⟨rfl, by first | exact (Below.refl _ _).alloc (Nat.le_refl _) _ | exact ((Below.refl _ _).alloc (Nat.le_refl _) _).alloc (by simp) _⟩
set_option maxRecDepth 100000 in
set_option maxHeartbeats 4000000 in
theorem vi_10 (a b c i : Int) (w : World) : Calls Tryz.prog 38 #[.agg #[.int .i64 10, .int .i64 a, .int .i64 b, .int .i64 c, .int .i64 i]] w fun e w' => e = .returned (.int .i64 (codeI 10 a b c i)) ∧ Below w.heap.size w w' := by
  cases h0 : wiB a 8
  · rw [codeI_no (by rw [okt_10, h0]; rfl) (by decide)]
    have E0 := Lib.hid h0
    clear h0
    go_enter Tryz.func38, Tryz.ntmps38
    go_wp2_with (first | (go_at_call 57; (with_reducible refine (within_is a 8 false E0 _).mono ?_); rintro e w1 ⟨rfl, rfl⟩))
    go_ret
    exact ⟨rfl, by first | exact (Below.refl _ _).alloc (Nat.le_refl _) _ | exact ((Below.refl _ _).alloc (Nat.le_refl _) _).alloc (by simp) _⟩
  cases h1 : wiB b 16
  · rw [codeI_no (by rw [okt_10, h0, h1]; rfl) (by decide)]
    have E0 := Lib.hid h0
    have E1 := Lib.hid h1
    clear h0 h1
    go_enter Tryz.func38, Tryz.ntmps38
    go_wp2_with (first | (go_at_call 57; (with_reducible refine (within_is a 8 true E0 _).mono ?_); rintro e w1 ⟨rfl, rfl⟩) | (go_at_call 57; (with_reducible refine (within_is b 16 false E1 _).mono ?_); rintro e w1 ⟨rfl, rfl⟩))
    go_ret
    exact ⟨rfl, by first | exact (Below.refl _ _).alloc (Nat.le_refl _) _ | exact ((Below.refl _ _).alloc (Nat.le_refl _) _).alloc (by simp) _⟩
  cases h2 : nnB [c, i]
  · rw [codeI_no (by rw [okt_10, h0, h1, h2]; rfl) (by decide)]
    have E0 := Lib.hid h0
    have E1 := Lib.hid h1
    have E2 := Lib.hid h2
    clear h0 h1 h2
    go_enter Tryz.func38, Tryz.ntmps38
    go_wp2_with (first | (go_at_call 57; (with_reducible refine (within_is a 8 true E0 _).mono ?_); rintro e w1 ⟨rfl, rfl⟩) | (go_at_call 57; (with_reducible refine (within_is b 16 true E1 _).mono ?_); rintro e w1 ⟨rfl, rfl⟩) | (go_at_call 58; refine (refnone_is _ 2 _ [c, i] (by rfl) false E2 (by decide) _ (nat2 c i _ _ _ (by simp))).mono ?_; rintro e w1 ⟨rfl, rfl⟩))
    go_ret
    exact ⟨rfl, by first | exact (Below.refl _ _).alloc (Nat.le_refl _) _ | exact ((Below.refl _ _).alloc (Nat.le_refl _) _).alloc (by simp) _⟩
  rw [codeI_ok (by rw [okt_10, h0, h1, h2]; rfl)]
  have E0 := Lib.hid h0
  have E1 := Lib.hid h1
  have E2 := Lib.hid h2
  clear h0 h1 h2
  go_enter Tryz.func38, Tryz.ntmps38
  go_wp2_with (first | (go_at_call 57; (with_reducible refine (within_is a 8 true E0 _).mono ?_); rintro e w1 ⟨rfl, rfl⟩) | (go_at_call 57; (with_reducible refine (within_is b 16 true E1 _).mono ?_); rintro e w1 ⟨rfl, rfl⟩) | (go_at_call 58; refine (refnone_is _ 2 _ [c, i] (by rfl) true E2 (by decide) _ (nat2 c i _ _ _ (by simp))).mono ?_; rintro e w1 ⟨rfl, rfl⟩))
  go_ret
  exact ⟨rfl, by first | exact (Below.refl _ _).alloc (Nat.le_refl _) _ | exact ((Below.refl _ _).alloc (Nat.le_refl _) _).alloc (by simp) _⟩
set_option maxRecDepth 100000 in
set_option maxHeartbeats 4000000 in
theorem vi_11 (a b c i : Int) (w : World) : Calls Tryz.prog 38 #[.agg #[.int .i64 11, .int .i64 a, .int .i64 b, .int .i64 c, .int .i64 i]] w fun e w' => e = .returned (.int .i64 (codeI 11 a b c i)) ∧ Below w.heap.size w w' := by
  cases h0 : wiB a 3
  · rw [codeI_no (by rw [okt_11, h0]; rfl) (by decide)]
    have E0 := Lib.hid h0
    clear h0
    go_enter Tryz.func38, Tryz.ntmps38
    go_wp2_with (first | (go_at_call 57; (with_reducible refine (within_is a 3 false E0 _).mono ?_); rintro e w1 ⟨rfl, rfl⟩))
    go_ret
    exact ⟨rfl, by first | exact (Below.refl _ _).alloc (Nat.le_refl _) _ | exact ((Below.refl _ _).alloc (Nat.le_refl _) _).alloc (by simp) _⟩
  cases h1 : wiB b 16
  · rw [codeI_no (by rw [okt_11, h0, h1]; rfl) (by decide)]
    have E0 := Lib.hid h0
    have E1 := Lib.hid h1
    clear h0 h1
    go_enter Tryz.func38, Tryz.ntmps38
    go_wp2_with (first | (go_at_call 57; (with_reducible refine (within_is a 3 true E0 _).mono ?_); rintro e w1 ⟨rfl, rfl⟩) | (go_at_call 57; (with_reducible refine (within_is b 16 false E1 _).mono ?_); rintro e w1 ⟨rfl, rfl⟩))
    go_ret
    exact ⟨rfl, by first | exact (Below.refl _ _).alloc (Nat.le_refl _) _ | exact ((Below.refl _ _).alloc (Nat.le_refl _) _).alloc (by simp) _⟩
  cases h2 : wiB c 16
  · rw [codeI_no (by rw [okt_11, h0, h1, h2]; rfl) (by decide)]
    have E0 := Lib.hid h0
    have E1 := Lib.hid h1
    have E2 := Lib.hid h2
    clear h0 h1 h2
    go_enter Tryz.func38, Tryz.ntmps38
    go_wp2_with (first | (go_at_call 57; (with_reducible refine (within_is a 3 true E0 _).mono ?_); rintro e w1 ⟨rfl, rfl⟩) | (go_at_call 57; (with_reducible refine (within_is b 16 true E1 _).mono ?_); rintro e w1 ⟨rfl, rfl⟩) | (go_at_call 57; (with_reducible refine (within_is c 16 false E2 _).mono ?_); rintro e w1 ⟨rfl, rfl⟩))
    go_ret
    exact ⟨rfl, by first | exact (Below.refl _ _).alloc (Nat.le_refl _) _ | exact ((Below.refl _ _).alloc (Nat.le_refl _) _).alloc (by simp) _⟩
  cases h3 : nnB [i]
  · rw [codeI_no (by rw [okt_11, h0, h1, h2, h3]; rfl) (by decide)]
    have E0 := Lib.hid h0
    have E1 := Lib.hid h1
    have E2 := Lib.hid h2
    have E3 := Lib.hid h3
    clear h0 h1 h2 h3
    go_enter Tryz.func38, Tryz.ntmps38
    go_wp2_with (first | (go_at_call 57; (with_reducible refine (within_is a 3 true E0 _).mono ?_); rintro e w1 ⟨rfl, rfl⟩) | (go_at_call 57; (with_reducible refine (within_is b 16 true E1 _).mono ?_); rintro e w1 ⟨rfl, rfl⟩) | (go_at_call 57; (with_reducible refine (within_is c 16 true E2 _).mono ?_); rintro e w1 ⟨rfl, rfl⟩) | (go_at_call 58; refine (refnone_is _ 1 _ [i] (by rfl) false E3 (by decide) _ (nat1 i _ _ _ (by simp))).mono ?_; rintro e w1 ⟨rfl, rfl⟩))
    go_ret
    exact ⟨rfl, by first | exact (Below.refl _ _).alloc (Nat.le_refl _) _ | exact ((Below.refl _ _).alloc (Nat.le_refl _) _).alloc (by simp) _⟩
  rw [codeI_ok (by rw [okt_11, h0, h1, h2, h3]; rfl)]
  have E0 := Lib.hid h0
  have E1 := Lib.hid h1
  have E2 := Lib.hid h2
  have E3 := Lib.hid h3
  clear h0 h1 h2 h3
  go_enter Tryz.func38, Tryz.ntmps38
  go_wp2_with (first | (go_at_call 57; (with_reducible refine (within_is a 3 true E0 _).mono ?_); rintro e w1 ⟨rfl, rfl⟩) | (go_at_call 57; (with_reducible refine (within_is b 16 true E1 _).mono ?_); rintro e w1 ⟨rfl, rfl⟩) | (go_at_call 57; (with_reducible refine (within_is c 16 true E2 _).mono ?_); rintro e w1 ⟨rfl, rfl⟩) | (go_at_call 58; refine (refnone_is _ 1 _ [i] (by rfl) true E3 (by decide) _ (nat1 i _ _ _ (by simp))).mono ?_; rintro e w1 ⟨rfl, rfl⟩))
  go_ret
  exact ⟨rfl, by first | exact (Below.refl _ _).alloc (Nat.le_refl _) _ | exact ((Below.refl _ _).alloc (Nat.le_refl _) _).alloc (by simp) _⟩
set_option maxRecDepth 100000 in
set_option maxHeartbeats 4000000 in
theorem vi_12 (a b c i : Int) (w : World) : Calls Tryz.prog 38 #[.agg #[.int .i64 12, .int .i64 a, .int .i64 b, .int .i64 c, .int .i64 i]] w fun e w' => e = .returned (.int .i64 (codeI 12 a b c i)) ∧ Below w.heap.size w w' := by
  cases h0 : nnB [a, b, c, i]
  · rw [codeI_no (by rw [okt_12, h0]) (by decide)]
    have E0 := Lib.hid h0
    clear h0
    go_enter Tryz.func38, Tryz.ntmps38
    go_wp2_with (first | (go_at_call 58; refine (refnone_is _ 4 _ [a, b, c, i] (by rfl) false E0 (by decide) _ (nat4 a b c i _ _ _ (by simp))).mono ?_; rintro e w1 ⟨rfl, rfl⟩))
    go_ret
    exact ⟨rfl, by first | exact (Below.refl _ _).alloc (Nat.le_refl _) _ | exact ((Below.refl _ _).alloc (Nat.le_refl _) _).alloc (by simp) _⟩
  rw [codeI_ok (by rw [okt_12, h0])]
  have E0 := Lib.hid h0
  clear h0
  go_enter Tryz.func38, Tryz.ntmps38
  go_wp2_with (first | (go_at_call 58; refine (refnone_is _ 4 _ [a, b, c, i] (by rfl) true E0 (by decide) _ (nat4 a b c i _ _ _ (by simp))).mono ?_; rintro e w1 ⟨rfl, rfl⟩))
  go_ret
  exact ⟨rfl, by first | exact (Below.refl _ _).alloc (Nat.le_refl _) _ | exact ((Below.refl _ _).alloc (Nat.le_refl _) _).alloc (by simp) _⟩
set_option maxRecDepth 100000 in
set_option maxHeartbeats 4000000 in
theorem vi_13 (a b c i : Int) (w : World) : Calls Tryz.prog 38 #[.agg #[.int .i64 13, .int .i64 a, .int .i64 b, .int .i64 c, .int .i64 i]] w fun e w' => e = .returned (.int .i64 (codeI 13 a b c i)) ∧ Below w.heap.size w w' := by
  cases h0 : nnB [a, b, c, i]
  · rw [codeI_no (by rw [okt_13, h0]) (by decide)]
    have E0 := Lib.hid h0
    clear h0
    go_enter Tryz.func38, Tryz.ntmps38
    go_wp2_with (first | (go_at_call 58; refine (refnone_is _ 4 _ [a, b, c, i] (by rfl) false E0 (by decide) _ (nat4 a b c i _ _ _ (by simp))).mono ?_; rintro e w1 ⟨rfl, rfl⟩))
    go_ret
    exact ⟨rfl, by first | exact (Below.refl _ _).alloc (Nat.le_refl _) _ | exact ((Below.refl _ _).alloc (Nat.le_refl _) _).alloc (by simp) _⟩
  rw [codeI_ok (by rw [okt_13, h0])]
  have E0 := Lib.hid h0
  clear h0
  go_enter Tryz.func38, Tryz.ntmps38
  go_wp2_with (first | (go_at_call 58; refine (refnone_is _ 4 _ [a, b, c, i] (by rfl) true E0 (by decide) _ (nat4 a b c i _ _ _ (by simp))).mono ?_; rintro e w1 ⟨rfl, rfl⟩))
  go_ret
  exact ⟨rfl, by first | exact (Below.refl _ _).alloc (Nat.le_refl _) _ | exact ((Below.refl _ _).alloc (Nat.le_refl _) _).alloc (by simp) _⟩
end Go.Proofs.YtaekccgcnlepaaaGreatDoor
