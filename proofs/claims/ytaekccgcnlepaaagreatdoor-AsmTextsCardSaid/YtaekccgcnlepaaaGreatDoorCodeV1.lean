/-
  turnkeyref1.ValidInstr: ops 1, 2, 3.
-/
import Derived.Test.YtaekccgcnlepaaaGreatDoorCodeV0
namespace Go.Proofs.YtaekccgcnlepaaaGreatDoor
open Go.ChangeShapes Go.WideShapes Go.ChangeAt Go.RowKit
set_option linter.unusedVariables false
set_option linter.unusedSimpArgs false
set_option maxRecDepth 100000 in
set_option maxHeartbeats 4000000 in
theorem vi_1 (a b c i : Int) (w : World) : Calls Tryz.prog 38 #[.agg #[.int .i64 1, .int .i64 a, .int .i64 b, .int .i64 c, .int .i64 i]] w fun e w' => e = .returned (.int .i64 (codeI 1 a b c i)) ∧ Below w.heap.size w w' := by
  cases h0 : wiB a 8
  · rw [codeI_no (by rw [okt_1, h0]; rfl) (by decide)]
    have E0 := Lib.hid h0
    clear h0
    go_enter Tryz.func38, Tryz.ntmps38
    go_wp2_with (first | (go_at_call 57; (with_reducible refine (within_is a 8 false E0 _).mono ?_); rintro e w1 ⟨rfl, rfl⟩))
    go_ret
    exact ⟨rfl, by first | exact (Below.refl _ _).alloc (Nat.le_refl _) _ | exact ((Below.refl _ _).alloc (Nat.le_refl _) _).alloc (by simp) _⟩
  cases h1 : nnB [b, c]
  · rw [codeI_no (by rw [okt_1, h0, h1]; rfl) (by decide)]
    have E0 := Lib.hid h0
    have E1 := Lib.hid h1
    clear h0 h1
    go_enter Tryz.func38, Tryz.ntmps38
    go_wp2_with (first | (go_at_call 57; (with_reducible refine (within_is a 8 true E0 _).mono ?_); rintro e w1 ⟨rfl, rfl⟩) | (go_at_call 58; refine (refnone_is _ 2 _ [b, c] (by rfl) false E1 (by decide) _ (nat2 b c _ _ _ (by simp))).mono ?_; rintro e w1 ⟨rfl, rfl⟩))
    go_ret
    exact ⟨rfl, by first | exact (Below.refl _ _).alloc (Nat.le_refl _) _ | exact ((Below.refl _ _).alloc (Nat.le_refl _) _).alloc (by simp) _⟩
  cases h2 : wiB i 4096
  · rw [codeI_no (by rw [okt_1, h0, h1, h2]; rfl) (by decide)]
    have E0 := Lib.hid h0
    have E1 := Lib.hid h1
    have E2 := Lib.hid h2
    clear h0 h1 h2
    go_enter Tryz.func38, Tryz.ntmps38
    go_wp2_with (first | (go_at_call 57; (with_reducible refine (within_is a 8 true E0 _).mono ?_); rintro e w1 ⟨rfl, rfl⟩) | (go_at_call 58; refine (refnone_is _ 2 _ [b, c] (by rfl) true E1 (by decide) _ (nat2 b c _ _ _ (by simp))).mono ?_; rintro e w1 ⟨rfl, rfl⟩) | (go_at_call 57; (with_reducible refine (within_is i 4096 false E2 _).mono ?_); rintro e w1 ⟨rfl, rfl⟩))
    go_ret
    exact ⟨rfl, by first | exact (Below.refl _ _).alloc (Nat.le_refl _) _ | exact ((Below.refl _ _).alloc (Nat.le_refl _) _).alloc (by simp) _⟩
  rw [codeI_ok (by rw [okt_1, h0, h1, h2]; rfl)]
  have E0 := Lib.hid h0
  have E1 := Lib.hid h1
  have E2 := Lib.hid h2
  clear h0 h1 h2
  go_enter Tryz.func38, Tryz.ntmps38
  go_wp2_with (first | (go_at_call 57; (with_reducible refine (within_is a 8 true E0 _).mono ?_); rintro e w1 ⟨rfl, rfl⟩) | (go_at_call 58; refine (refnone_is _ 2 _ [b, c] (by rfl) true E1 (by decide) _ (nat2 b c _ _ _ (by simp))).mono ?_; rintro e w1 ⟨rfl, rfl⟩) | (go_at_call 57; (with_reducible refine (within_is i 4096 true E2 _).mono ?_); rintro e w1 ⟨rfl, rfl⟩))
  go_ret
  exact ⟨rfl, by first | exact (Below.refl _ _).alloc (Nat.le_refl _) _ | exact ((Below.refl _ _).alloc (Nat.le_refl _) _).alloc (by simp) _⟩
set_option maxRecDepth 100000 in
set_option maxHeartbeats 4000000 in
theorem vi_2 (a b c i : Int) (w : World) : Calls Tryz.prog 38 #[.agg #[.int .i64 2, .int .i64 a, .int .i64 b, .int .i64 c, .int .i64 i]] w fun e w' => e = .returned (.int .i64 (codeI 2 a b c i)) ∧ Below w.heap.size w w' := by
  cases h0 : wiB a 8
  · rw [codeI_no (by rw [okt_2, h0]; rfl) (by decide)]
    have E0 := Lib.hid h0
    clear h0
    go_enter Tryz.func38, Tryz.ntmps38
    go_wp2_with (first | (go_at_call 57; (with_reducible refine (within_is a 8 false E0 _).mono ?_); rintro e w1 ⟨rfl, rfl⟩))
    go_ret
    exact ⟨rfl, by first | exact (Below.refl _ _).alloc (Nat.le_refl _) _ | exact ((Below.refl _ _).alloc (Nat.le_refl _) _).alloc (by simp) _⟩
  cases h1 : nnB [b, c]
  · rw [codeI_no (by rw [okt_2, h0, h1]; rfl) (by decide)]
    have E0 := Lib.hid h0
    have E1 := Lib.hid h1
    clear h0 h1
    go_enter Tryz.func38, Tryz.ntmps38
    go_wp2_with (first | (go_at_call 57; (with_reducible refine (within_is a 8 true E0 _).mono ?_); rintro e w1 ⟨rfl, rfl⟩) | (go_at_call 58; refine (refnone_is _ 2 _ [b, c] (by rfl) false E1 (by decide) _ (nat2 b c _ _ _ (by simp))).mono ?_; rintro e w1 ⟨rfl, rfl⟩))
    go_ret
    exact ⟨rfl, by first | exact (Below.refl _ _).alloc (Nat.le_refl _) _ | exact ((Below.refl _ _).alloc (Nat.le_refl _) _).alloc (by simp) _⟩
  cases h2 : wiB i 4096
  · rw [codeI_no (by rw [okt_2, h0, h1, h2]; rfl) (by decide)]
    have E0 := Lib.hid h0
    have E1 := Lib.hid h1
    have E2 := Lib.hid h2
    clear h0 h1 h2
    go_enter Tryz.func38, Tryz.ntmps38
    go_wp2_with (first | (go_at_call 57; (with_reducible refine (within_is a 8 true E0 _).mono ?_); rintro e w1 ⟨rfl, rfl⟩) | (go_at_call 58; refine (refnone_is _ 2 _ [b, c] (by rfl) true E1 (by decide) _ (nat2 b c _ _ _ (by simp))).mono ?_; rintro e w1 ⟨rfl, rfl⟩) | (go_at_call 57; (with_reducible refine (within_is i 4096 false E2 _).mono ?_); rintro e w1 ⟨rfl, rfl⟩))
    go_ret
    exact ⟨rfl, by first | exact (Below.refl _ _).alloc (Nat.le_refl _) _ | exact ((Below.refl _ _).alloc (Nat.le_refl _) _).alloc (by simp) _⟩
  rw [codeI_ok (by rw [okt_2, h0, h1, h2]; rfl)]
  have E0 := Lib.hid h0
  have E1 := Lib.hid h1
  have E2 := Lib.hid h2
  clear h0 h1 h2
  go_enter Tryz.func38, Tryz.ntmps38
  go_wp2_with (first | (go_at_call 57; (with_reducible refine (within_is a 8 true E0 _).mono ?_); rintro e w1 ⟨rfl, rfl⟩) | (go_at_call 58; refine (refnone_is _ 2 _ [b, c] (by rfl) true E1 (by decide) _ (nat2 b c _ _ _ (by simp))).mono ?_; rintro e w1 ⟨rfl, rfl⟩) | (go_at_call 57; (with_reducible refine (within_is i 4096 true E2 _).mono ?_); rintro e w1 ⟨rfl, rfl⟩))
  go_ret
  exact ⟨rfl, by first | exact (Below.refl _ _).alloc (Nat.le_refl _) _ | exact ((Below.refl _ _).alloc (Nat.le_refl _) _).alloc (by simp) _⟩
set_option maxRecDepth 100000 in
set_option maxHeartbeats 4000000 in
theorem vi_3 (a b c i : Int) (w : World) : Calls Tryz.prog 38 #[.agg #[.int .i64 3, .int .i64 a, .int .i64 b, .int .i64 c, .int .i64 i]] w fun e w' => e = .returned (.int .i64 (codeI 3 a b c i)) ∧ Below w.heap.size w w' := by
  cases h0 : wiB a 8
  · rw [codeI_no (by rw [okt_3, h0]; rfl) (by decide)]
    have E0 := Lib.hid h0
    clear h0
    go_enter Tryz.func38, Tryz.ntmps38
    go_wp2_with (first | (go_at_call 57; (with_reducible refine (within_is a 8 false E0 _).mono ?_); rintro e w1 ⟨rfl, rfl⟩))
    go_ret
    exact ⟨rfl, by first | exact (Below.refl _ _).alloc (Nat.le_refl _) _ | exact ((Below.refl _ _).alloc (Nat.le_refl _) _).alloc (by simp) _⟩
  cases h1 : wiB b 8
  · rw [codeI_no (by rw [okt_3, h0, h1]; rfl) (by decide)]
    have E0 := Lib.hid h0
    have E1 := Lib.hid h1
    clear h0 h1
    go_enter Tryz.func38, Tryz.ntmps38
    go_wp2_with (first | (go_at_call 57; (with_reducible refine (within_is a 8 true E0 _).mono ?_); rintro e w1 ⟨rfl, rfl⟩) | (go_at_call 57; (with_reducible refine (within_is b 8 false E1 _).mono ?_); rintro e w1 ⟨rfl, rfl⟩))
    go_ret
    exact ⟨rfl, by first | exact (Below.refl _ _).alloc (Nat.le_refl _) _ | exact ((Below.refl _ _).alloc (Nat.le_refl _) _).alloc (by simp) _⟩
  cases h2 : wiB c 8
  · rw [codeI_no (by rw [okt_3, h0, h1, h2]; rfl) (by decide)]
    have E0 := Lib.hid h0
    have E1 := Lib.hid h1
    have E2 := Lib.hid h2
    clear h0 h1 h2
    go_enter Tryz.func38, Tryz.ntmps38
    go_wp2_with (first | (go_at_call 57; (with_reducible refine (within_is a 8 true E0 _).mono ?_); rintro e w1 ⟨rfl, rfl⟩) | (go_at_call 57; (with_reducible refine (within_is b 8 true E1 _).mono ?_); rintro e w1 ⟨rfl, rfl⟩) | (go_at_call 57; (with_reducible refine (within_is c 8 false E2 _).mono ?_); rintro e w1 ⟨rfl, rfl⟩))
    go_ret
    exact ⟨rfl, by first | exact (Below.refl _ _).alloc (Nat.le_refl _) _ | exact ((Below.refl _ _).alloc (Nat.le_refl _) _).alloc (by simp) _⟩
  cases h3 : wiB i 12
  · rw [codeI_no (by rw [okt_3, h0, h1, h2, h3]; rfl) (by decide)]
    have E0 := Lib.hid h0
    have E1 := Lib.hid h1
    have E2 := Lib.hid h2
    have E3 := Lib.hid h3
    clear h0 h1 h2 h3
    go_enter Tryz.func38, Tryz.ntmps38
    go_wp2_with (first | (go_at_call 57; (with_reducible refine (within_is a 8 true E0 _).mono ?_); rintro e w1 ⟨rfl, rfl⟩) | (go_at_call 57; (with_reducible refine (within_is b 8 true E1 _).mono ?_); rintro e w1 ⟨rfl, rfl⟩) | (go_at_call 57; (with_reducible refine (within_is c 8 true E2 _).mono ?_); rintro e w1 ⟨rfl, rfl⟩) | (go_at_call 57; (with_reducible refine (within_is i 12 false E3 _).mono ?_); rintro e w1 ⟨rfl, rfl⟩))
    go_ret
    exact ⟨rfl, by first | exact (Below.refl _ _).alloc (Nat.le_refl _) _ | exact ((Below.refl _ _).alloc (Nat.le_refl _) _).alloc (by simp) _⟩
  rw [codeI_ok (by rw [okt_3, h0, h1, h2, h3]; rfl)]
  have E0 := Lib.hid h0
  have E1 := Lib.hid h1
  have E2 := Lib.hid h2
  have E3 := Lib.hid h3
  clear h0 h1 h2 h3
  go_enter Tryz.func38, Tryz.ntmps38
  go_wp2_with (first | (go_at_call 57; (with_reducible refine (within_is a 8 true E0 _).mono ?_); rintro e w1 ⟨rfl, rfl⟩) | (go_at_call 57; (with_reducible refine (within_is b 8 true E1 _).mono ?_); rintro e w1 ⟨rfl, rfl⟩) | (go_at_call 57; (with_reducible refine (within_is c 8 true E2 _).mono ?_); rintro e w1 ⟨rfl, rfl⟩) | (go_at_call 57; (with_reducible refine (within_is i 12 true E3 _).mono ?_); rintro e w1 ⟨rfl, rfl⟩))
  go_ret
  exact ⟨rfl, by first | exact (Below.refl _ _).alloc (Nat.le_refl _) _ | exact ((Below.refl _ _).alloc (Nat.le_refl _) _).alloc (by simp) _⟩
end Go.Proofs.YtaekccgcnlepaaaGreatDoor
