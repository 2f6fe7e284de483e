/-
  turnkeyref1.AsmLine: a line of no words, of no such first word, of another count of words.
-/
import Derived.Test.YtaekccgcnlepaaaGreatDoorRd
namespace Go.Proofs.YtaekccgcnlepaaaGreatDoor
open Go.ChangeShapes Go.WideShapes Go.ChangeAt Go.RowKit Go.Maps
set_option linter.unusedVariables false
set_option linter.unusedSimpArgs false
set_option maxRecDepth 100000 in
set_option maxHeartbeats 2000000 in
theorem rasm_none (s : ByteArray) (hs : s.size ≤ 900) (h : tokB s = []) (w : World) : Calls Tryz.prog 40 #[.string s] w fun e w' => e = .returned (.tuple #[.agg #[.int .i64 0, .int .i64 0, .int .i64 0, .int .i64 0, .int .i64 0], .int .i64 111]) ∧ Below w.heap.size w w' := by
  have HSp := Lib.hid (rsplit_is s hs (w.alloc (.cells #[.int .i64 0, .int .i64 0, .int .i64 0, .int .i64 0, .int .i64 0] 66)))
  have H0 := Lib.hid h
  have HB0 : Hid (Below w.heap.size w (w.alloc (.cells #[.int .i64 0, .int .i64 0, .int .i64 0, .int .i64 0, .int .i64 0] 66))) := Lib.hid ((Below.refl _ _).alloc (Nat.le_refl _) _)
  have HR0 := Lib.hid (I5.new w 66 0 0 0 0 0)
  clear h
  go_enter Tryz.func40, Tryz.ntmps40
  go_upto_region 2 with (first
    | (go_at_call 15; refine HSp.out.mono ?_; rintro e w1 ⟨ad, n, cp, rfl, hl⟩; obtain rfl : n = 0 := (by have := hl.len; rw [H0.out] at this; exact this.symm); have HB1 := Lib.hid (HB0.out.trans (hl.bel.mono HB0.out.size)); have HR1 := Lib.hid (HR0.out.below hl.bel); clear hl))
  obtain ⟨R, hR⟩ : ∃ R, R = w.heap.size := ⟨_, rfl⟩
  rw [← hR] at HR1 ⊢
  have HRR : Hid (w.heap.size ≤ R) := Lib.hid (by rw [hR]; exact Nat.le_refl _)
  clear hR
  have q0 := HR1.out.c0
  have q1 := HR1.out.c1
  have q2 := HR1.out.c2
  have q3 := HR1.out.c3
  have q4 := HR1.out.c4
  have qf := HR1.out.fz
  go_wp2_with fail
  have HI := HR1.out.set5 0 0 0 0 0
  clear q0 q1 q2 q3 q4
  have q0 := HI.c0; have q1 := HI.c1; have q2 := HI.c2; have q3 := HI.c3; have q4 := HI.c4; refine bodyPost_ret (v := .tuple #[.agg #[.int .i64 0, .int .i64 0, .int .i64 0, .int .i64 0, .int .i64 0], .int .i64 111]) (by simp [results, Tryz.results40, go_sem, q0, q1, q2, q3, q4]) rfl ⟨rfl, (bel5 HB1.out HRR.out)⟩
end Go.Proofs.YtaekccgcnlepaaaGreatDoor
