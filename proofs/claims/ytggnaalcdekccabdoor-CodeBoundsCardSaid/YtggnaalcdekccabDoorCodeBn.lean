/-
  CodeBounds: the closures, what each op asks.
-/
import Derived.Test.YtggnaalcdekccabDoorCodeBk
import Derived.Deep.DeepCutAuto
import Derived.Deep.Cut
namespace Go.Proofs.YtggnaalcdekccabDoor
open Go.ChangeShapes Go.WideShapes Go.ChangeAt Go.RowKit
set_option linter.unusedVariables false
set_option linter.unusedSimpArgs false
theorem cl1_is (n : Int) (t : Bool) (h : Hid (decide (0 ≤ n ∧ n ≤ 7) = t)) (w : World) : Calls Tryd.prog 23 #[.int .i64 n] w fun e w' => e = .returned (.bool t) ∧ w = w' := by
  have h := h.out
  cases t
  · rw [decide_eq_false_iff_not] at h
    by_cases h0 : 0 ≤ n
    · have d0 : decide (0 ≤ n) = true := decide_eq_true h0
      have d1 : decide (n ≤ 7) = false := by rw [decide_eq_false_iff_not]; omega
      clear h h0
      go_enter Tryd.func23, Tryd.ntmps23
      go_wp2
      go_ret
      exact ⟨rfl, rfl⟩
    · have d0 : decide (0 ≤ n) = false := decide_eq_false h0
      clear h h0
      go_enter Tryd.func23, Tryd.ntmps23
      go_wp2
      go_ret
      exact ⟨rfl, rfl⟩
  · rw [decide_eq_true_iff] at h
    have d0 : decide (0 ≤ n) = true := decide_eq_true h.1
    have d1 : decide (n ≤ 7) = true := decide_eq_true h.2
    clear h
    go_enter Tryd.func23, Tryd.ntmps23
    go_wp2
    go_ret
    exact ⟨rfl, rfl⟩
theorem cl2_is (n : Int) (t : Bool) (h : Hid (decide (0 ≤ n ∧ n ≤ 15) = t)) (w : World) : Calls Tryd.prog 24 #[.int .i64 n] w fun e w' => e = .returned (.bool t) ∧ w = w' := by
  have h := h.out
  cases t
  · rw [decide_eq_false_iff_not] at h
    by_cases h0 : 0 ≤ n
    · have d0 : decide (0 ≤ n) = true := decide_eq_true h0
      have d1 : decide (n ≤ 15) = false := by rw [decide_eq_false_iff_not]; omega
      clear h h0
      go_enter Tryd.func24, Tryd.ntmps24
      go_wp2
      go_ret
      exact ⟨rfl, rfl⟩
    · have d0 : decide (0 ≤ n) = false := decide_eq_false h0
      clear h h0
      go_enter Tryd.func24, Tryd.ntmps24
      go_wp2
      go_ret
      exact ⟨rfl, rfl⟩
  · rw [decide_eq_true_iff] at h
    have d0 : decide (0 ≤ n) = true := decide_eq_true h.1
    have d1 : decide (n ≤ 15) = true := decide_eq_true h.2
    clear h
    go_enter Tryd.func24, Tryd.ntmps24
    go_wp2
    go_ret
    exact ⟨rfl, rfl⟩
theorem cl3_is (n : Int) (t : Bool) (h : Hid (decide (0 ≤ n ∧ n ≤ 4095) = t)) (w : World) : Calls Tryd.prog 25 #[.int .i64 n] w fun e w' => e = .returned (.bool t) ∧ w = w' := by
  have h := h.out
  cases t
  · rw [decide_eq_false_iff_not] at h
    by_cases h0 : 0 ≤ n
    · have d0 : decide (0 ≤ n) = true := decide_eq_true h0
      have d1 : decide (n ≤ 4095) = false := by rw [decide_eq_false_iff_not]; omega
      clear h h0
      go_enter Tryd.func25, Tryd.ntmps25
      go_wp2
      go_ret
      exact ⟨rfl, rfl⟩
    · have d0 : decide (0 ≤ n) = false := decide_eq_false h0
      clear h h0
      go_enter Tryd.func25, Tryd.ntmps25
      go_wp2
      go_ret
      exact ⟨rfl, rfl⟩
  · rw [decide_eq_true_iff] at h
    have d0 : decide (0 ≤ n) = true := decide_eq_true h.1
    have d1 : decide (n ≤ 4095) = true := decide_eq_true h.2
    clear h
    go_enter Tryd.func25, Tryd.ntmps25
    go_wp2
    go_ret
    exact ⟨rfl, rfl⟩
section
variable {x y : Addr} {B : Nat} {a b c i : Int} {W w w' : World}
theorem sqkeep (h : VC x y W w ∧ B + 3 < w.heap.size ∧ w.cell? ⟨B, 0, none⟩ = some (.int .i64 a) ∧ w.cell? ⟨B + 1, 0, none⟩ = some (.int .i64 b) ∧ w.cell? ⟨B + 2, 0, none⟩ = some (.int .i64 c) ∧ w.cell? ⟨B + 3, 0, none⟩ = some (.int .i64 i)) (hb : Below w.heap.size w w') : VC x y W w' ∧ B + 3 < w'.heap.size ∧ w'.cell? ⟨B, 0, none⟩ = some (.int .i64 a) ∧ w'.cell? ⟨B + 1, 0, none⟩ = some (.int .i64 b) ∧ w'.cell? ⟨B + 2, 0, none⟩ = some (.int .i64 c) ∧ w'.cell? ⟨B + 3, 0, none⟩ = some (.int .i64 i) := by
  obtain ⟨h0, hl, h1, h2, h3, h4⟩ := h
  have hc := (bcell hb).1
  have hz := hb.size
  exact ⟨h0.step hb, by omega, by rw [hc _ _ (by omega)]; exact h1, by rw [hc _ _ (by omega)]; exact h2, by rw [hc _ _ (by omega)]; exact h3, by rw [hc _ _ (by omega)]; exact h4⟩
theorem sqbegin (h : VC x y w w) (a b c i : Int) : VC x y w ((((w.alloc (.cells #[.int .i64 a] 3)).alloc (.cells #[.int .i64 b] 3)).alloc (.cells #[.int .i64 c] 3)).alloc (.cells #[.int .i64 i] 3)) ∧ w.heap.size + 3 < ((((w.alloc (.cells #[.int .i64 a] 3)).alloc (.cells #[.int .i64 b] 3)).alloc (.cells #[.int .i64 c] 3)).alloc (.cells #[.int .i64 i] 3)).heap.size ∧ ((((w.alloc (.cells #[.int .i64 a] 3)).alloc (.cells #[.int .i64 b] 3)).alloc (.cells #[.int .i64 c] 3)).alloc (.cells #[.int .i64 i] 3)).cell? ⟨w.heap.size, 0, none⟩ = some (.int .i64 a) ∧ ((((w.alloc (.cells #[.int .i64 a] 3)).alloc (.cells #[.int .i64 b] 3)).alloc (.cells #[.int .i64 c] 3)).alloc (.cells #[.int .i64 i] 3)).cell? ⟨w.heap.size + 1, 0, none⟩ = some (.int .i64 b) ∧ ((((w.alloc (.cells #[.int .i64 a] 3)).alloc (.cells #[.int .i64 b] 3)).alloc (.cells #[.int .i64 c] 3)).alloc (.cells #[.int .i64 i] 3)).cell? ⟨w.heap.size + 2, 0, none⟩ = some (.int .i64 c) ∧ ((((w.alloc (.cells #[.int .i64 a] 3)).alloc (.cells #[.int .i64 b] 3)).alloc (.cells #[.int .i64 c] 3)).alloc (.cells #[.int .i64 i] 3)).cell? ⟨w.heap.size + 3, 0, none⟩ = some (.int .i64 i) := by
  have e1 : (w.alloc (.cells #[.int .i64 a] 3)).cell? ⟨w.heap.size, 0, none⟩ = some (.int .i64 a) := by simp
  have e2 : ((w.alloc (.cells #[.int .i64 a] 3)).alloc (.cells #[.int .i64 b] 3)).cell? ⟨w.heap.size + 1, 0, none⟩ = some (.int .i64 b) := by
    simp
  have e3 : (((w.alloc (.cells #[.int .i64 a] 3)).alloc (.cells #[.int .i64 b] 3)).alloc (.cells #[.int .i64 c] 3)).cell? ⟨w.heap.size + 2, 0, none⟩ = some (.int .i64 c) := by
    have := World.cell?_alloc_new ((w.alloc (.cells #[.int .i64 a] 3)).alloc (.cells #[.int .i64 b] 3)) #[.int .i64 c] 3 0
    simpa using this
  have e4 : ((((w.alloc (.cells #[.int .i64 a] 3)).alloc (.cells #[.int .i64 b] 3)).alloc (.cells #[.int .i64 c] 3)).alloc (.cells #[.int .i64 i] 3)).cell? ⟨w.heap.size + 3, 0, none⟩ = some (.int .i64 i) := by
    have := World.cell?_alloc_new (((w.alloc (.cells #[.int .i64 a] 3)).alloc (.cells #[.int .i64 b] 3)).alloc (.cells #[.int .i64 c] 3)) #[.int .i64 i] 3 0
    simpa using this
  refine ⟨(((h.alloc _).alloc _).alloc _).alloc _, by simp, ?_, ?_, ?_, e4⟩
  · rw [World.cell?_alloc_lt _ _ _ (by simp; omega), World.cell?_alloc_lt _ _ _ (by simp; omega), World.cell?_alloc_lt _ _ _ (by simp)]; exact e1
  · rw [World.cell?_alloc_lt _ _ _ (by simp), World.cell?_alloc_lt _ _ _ (by simp)]; exact e2
  · rw [World.cell?_alloc_lt _ _ _ (by simp)]; exact e3
theorem cl4_yes (op : Int) (hok : Hid (okB op a b c i = true)) (h : VC x y W w ∧ B + 3 < w.heap.size ∧ w.cell? ⟨B, 0, none⟩ = some (.int .i64 a) ∧ w.cell? ⟨B + 1, 0, none⟩ = some (.int .i64 b) ∧ w.cell? ⟨B + 2, 0, none⟩ = some (.int .i64 c) ∧ w.cell? ⟨B + 3, 0, none⟩ = some (.int .i64 i)) : Calls Tryd.prog 26 #[.int .i64 (op), .pointer (some ⟨B, 0, none⟩), .pointer (some ⟨B + 1, 0, none⟩), .pointer (some ⟨B + 2, 0, none⟩), .pointer (some ⟨B + 3, 0, none⟩)] w fun e w' => e = .returned (.bool true) ∧ Below w.heap.size w w' := by
  obtain ⟨h0, hl, h1, h2, h3, h4⟩ := h
  have HC := Lib.hid h0.code
  clear h0 hl
  go_enter Tryd.func26, Tryd.ntmps26
  go_wp2_with (first | (go_at_call 14; (with_reducible refine (cvalid_yes _ _ _ _ _ _ _ hok _ HC.out).mono ?_); rintro e w1 ⟨rfl, hb⟩))
  go_ret
  exact ⟨rfl, hb⟩
theorem cl4_no (op : Int) (hok : Hid (okB op a b c i = false)) (h : VC x y W w ∧ B + 3 < w.heap.size ∧ w.cell? ⟨B, 0, none⟩ = some (.int .i64 a) ∧ w.cell? ⟨B + 1, 0, none⟩ = some (.int .i64 b) ∧ w.cell? ⟨B + 2, 0, none⟩ = some (.int .i64 c) ∧ w.cell? ⟨B + 3, 0, none⟩ = some (.int .i64 i)) : Calls Tryd.prog 26 #[.int .i64 (op), .pointer (some ⟨B, 0, none⟩), .pointer (some ⟨B + 1, 0, none⟩), .pointer (some ⟨B + 2, 0, none⟩), .pointer (some ⟨B + 3, 0, none⟩)] w fun e w' => e = .returned (.bool false) ∧ Below w.heap.size w w' := by
  obtain ⟨h0, hl, h1, h2, h3, h4⟩ := h
  have HC := Lib.hid h0.code
  obtain ⟨z, hz⟩ : ∃ z, Hid ((if decide (1 ≤ op ∧ op ≤ 13) = true then y else x) = z) := ⟨_, Lib.hid rfl⟩
  clear h0 hl
  go_enter Tryd.func26, Tryd.ntmps26
  go_wp2_with (first | (go_at_call 14; (with_reducible refine (cvalid_no _ _ _ _ _ x y z hz hok _ HC.out).mono ?_); rintro e w1 ⟨rfl, hb⟩))
  go_ret
  exact ⟨rfl, hb⟩
theorem cl4_is (op : Int) (t : Bool) (hok : Hid (okB op a b c i = t)) (h : VC x y W w ∧ B + 3 < w.heap.size ∧ w.cell? ⟨B, 0, none⟩ = some (.int .i64 a) ∧ w.cell? ⟨B + 1, 0, none⟩ = some (.int .i64 b) ∧ w.cell? ⟨B + 2, 0, none⟩ = some (.int .i64 c) ∧ w.cell? ⟨B + 3, 0, none⟩ = some (.int .i64 i)) : Calls Tryd.prog 26 #[.int .i64 (op), .pointer (some ⟨B, 0, none⟩), .pointer (some ⟨B + 1, 0, none⟩), .pointer (some ⟨B + 2, 0, none⟩), .pointer (some ⟨B + 3, 0, none⟩)] w fun e w' => e = .returned (.bool t) ∧ Below w.heap.size w w' := by
  cases t
  · exact cl4_no op hok h
  · exact cl4_yes op hok h
theorem cl_quiet {f : FuncId} {args : Array Value} {v : Value} (h : Calls Tryd.prog f args w fun e w' => e = .returned v ∧ w = w') : Calls Tryd.prog f args w fun e w' => e = .returned v ∧ Below w.heap.size w w' := h.mono fun e w' ⟨he, hw⟩ => ⟨he, by subst hw; exact Below.refl _ _⟩
end
theorem ok_op6 (a b c i : Int) : okB 6 a b c i = decide ((0 ≤ a ∧ a ≤ 7) ∧ (0 ≤ b ∧ b ≤ 7) ∧ (c = 0) ∧ (0 ≤ i ∧ i ≤ 4095)) := by
  show (true && (fitB a 1 && (fitB b 1 && (fitB c 0 && fitB i 3)))) = _
  rw [Bool.eq_iff_iff]
  simp [fitB, hiOf]
  try omega
theorem ok_op3 (a b c i : Int) : okB 3 a b c i = decide ((0 ≤ a ∧ a ≤ 7) ∧ (0 ≤ b ∧ b ≤ 7) ∧ (0 ≤ c ∧ c ≤ 7) ∧ (0 ≤ i) ∧ (i ≤ 11)) := by
  show (true && (fitB a 1 && (fitB b 1 && (fitB c 1 && fitB i 4)))) = _
  rw [Bool.eq_iff_iff]
  simp [fitB, hiOf]
  try omega
theorem ok_op8 (a b c i : Int) : okB 8 a b c i = decide ((0 ≤ a ∧ a ≤ 15) ∧ (0 ≤ b ∧ b ≤ 15) ∧ (c = 0) ∧ (i = 0)) := by
  show (true && (fitB a 2 && (fitB b 2 && (fitB c 0 && fitB i 0)))) = _
  rw [Bool.eq_iff_iff]
  simp [fitB, hiOf]
  try omega
theorem ok_op11 (a b c i : Int) : okB 11 a b c i = decide ((0 ≤ a) ∧ (a ≤ 2) ∧ (0 ≤ b ∧ b ≤ 15) ∧ (0 ≤ c ∧ c ≤ 15) ∧ (i = 0)) := by
  show (true && (fitB a 5 && (fitB b 2 && (fitB c 2 && fitB i 0)))) = _
  rw [Bool.eq_iff_iff]
  simp [fitB, hiOf]
  try omega
theorem ok_op4 (a b c i : Int) : okB 4 a b c i = decide ((a = 0) ∧ (b = 0) ∧ (c = 0) ∧ (0 ≤ i ∧ i ≤ 4095)) := by
  show (true && (fitB a 0 && (fitB b 0 && (fitB c 0 && fitB i 3)))) = _
  rw [Bool.eq_iff_iff]
  simp [fitB, hiOf]
  try omega
theorem ok_op13 (a b c i : Int) : okB 13 a b c i = decide ((a = 0) ∧ (b = 0) ∧ (c = 0) ∧ (i = 0)) := by
  show (true && (fitB a 0 && (fitB b 0 && (fitB c 0 && fitB i 0)))) = _
  rw [Bool.eq_iff_iff]
  simp [fitB, hiOf]
  try omega
theorem ok_op0 (a b c i : Int) : okB 0 a b c i = false := rfl
theorem ok_op14 (a b c i : Int) : okB 14 a b c i = false := rfl
end Go.Proofs.YtggnaalcdekccabDoor
