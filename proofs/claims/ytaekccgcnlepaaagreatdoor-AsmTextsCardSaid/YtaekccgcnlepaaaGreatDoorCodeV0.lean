/-
  turnkeyref1.ValidInstr: none, within.
-/
import Derived.Test.YtaekccgcnlepaaaGreatDoorCodeBk
namespace Go.Proofs.YtaekccgcnlepaaaGreatDoor
open Go.ChangeShapes Go.WideShapes Go.ChangeAt Go.RowKit
set_option linter.unusedVariables false
set_option linter.unusedSimpArgs false
theorem ret_bool {a b : Bool} (h : a = b) : Ending.returned (.bool a) = .returned (.bool b) := by rw [h]
def wiB (n m : Int) : Bool := decide (0 ≤ n ∧ n < m)
def nnB (l : List Int) : Bool := l.all (· == 0)
theorem within_is (n m : Int) (t : Bool) (h : Hid (wiB n m = t)) (w : World) : Calls Tryz.prog 57 #[.int .i64 n, .int .i64 m] w fun e w' => e = .returned (.bool t) ∧ w = w' := by
  have h := h.out
  unfold wiB at h
  cases t
  · rw [decide_eq_false_iff_not] at h
    by_cases h0 : 0 ≤ n
    · have d0 : decide (0 ≤ n) = true := decide_eq_true h0
      have d1 : decide (n < m) = false := by rw [decide_eq_false_iff_not]; omega
      clear h h0
      go_enter Tryz.func57, Tryz.ntmps57
      go_wp2
      go_ret
      exact ⟨rfl, rfl⟩
    · have d0 : decide (0 ≤ n) = false := decide_eq_false h0
      clear h h0
      go_enter Tryz.func57, Tryz.ntmps57
      go_wp2
      go_ret
      exact ⟨rfl, rfl⟩
  · rw [decide_eq_true_iff] at h
    have d0 : decide (0 ≤ n) = true := decide_eq_true h.1
    have d1 : decide (n < m) = true := decide_eq_true h.2
    clear h
    go_enter Tryz.func57, Tryz.ntmps57
    go_wp2
    go_ret
    exact ⟨rfl, rfl⟩
def NAt (w : World) (b : Nat) (zs : List Int) : Prop := ∀ i, i < zs.length → w.cell? ⟨b, i, none⟩ = some (.int .i64 (zs.getD i 0))
theorem all_take (zs : List Int) (k : Nat) (hk : k < zs.length) : nnB (zs.take (k + 1)) = (nnB (zs.take k) && (zs.getD k 0 == 0)) := by
  unfold nnB
  rw [List.take_succ_eq_append_getElem hk, List.all_append]
  simp [List.getD, hk]
theorem refnone_is (b n cap : Nat) (zs : List Int) (hn : n = zs.length) (t : Bool) (h : Hid (nnB zs = t)) (hs : n ≤ 1000) (w : World) (hz : NAt w b zs) : Calls Tryz.prog 58 #[.slice (some ⟨b, 0, none⟩) n cap] w fun e w' => e = .returned (.bool t) ∧ w = w' := by
  have HZ := Lib.hid hz
  have HN := Lib.hid hn
  clear hz hn
  go_enter Tryz.func58, Tryz.ntmps58
  go_wp2_with fail
  go_loop [3] (fun i => ∃ k : Nat, k ≤ n ∧ i = .int .i64 k ∧ Hid (nnB (zs.take k) = true)) (fun i => n - (intOf i).toNat)
  case atStart => exact ⟨0, by omega, rfl, Lib.hid rfl⟩
  case round =>
    obtain ⟨k, hk, rfl, hall⟩ := hrel
    by_cases hlt : k < n
    · have hl : k < zs.length := by rw [← HN.out]; exact hlt
      have hc := HZ.out k hl
      have ha := all_take zs k hl
      rw [hall.out, Bool.true_and] at ha
      generalize zs.getD k 0 = z at hc ha
      by_cases h0 : z = 0
      · have hb : (z != 0) = false := by simp [h0]
        have hall' : Hid (nnB (zs.take (k + 1)) = true) := Lib.hid (by rw [ha]; simp [h0])
        clear ha h0 hl
        go_wp2
        go_round
        case rel => exact ⟨k + 1, by omega, by go_num, hall'⟩
        case measure => simp [intOf]; omega
      · have hb : (z != 0) = true := by simp [h0]
        have hb2 : (z == 0) = false := by simp [h0]
        have hf : nnB zs = false := by
          have h1 : nnB (zs.take (k + 1)) = false := by rw [ha]; simp [h0]
          cases hx : nnB zs
          · rfl
          · exfalso
            unfold nnB at hx h1
            rw [List.all_eq_true] at hx
            rw [List.all_eq_false] at h1
            obtain ⟨y, hy, hy2⟩ := h1
            exact hy2 (hx y (List.mem_of_mem_take hy))
        have ht : false = t := by rw [← hf]; exact h.out
        have HT := Lib.hid ht
        clear ha h0 hl hf ht
        go_wp2
        go_ret
        exact ⟨ret_bool HT.out, rfl⟩
    · have he : k = zs.length := by rw [← HN.out]; omega
      have ht : true = t := by
        have := hall.out
        rw [he, List.take_length] at this
        rw [← this]; exact h.out
      have HT := Lib.hid ht
      have hdd : decide (k < n) = false := by simp; omega
      clear he ht
      go_wp2
      go_ret
      exact ⟨ret_bool HT.out, rfl⟩
theorem nat1 (z0 : Int) (T : TypeId) (w : World) (b : Nat) (hb : b = w.heap.size) : NAt (w.alloc (.cells #[.int .i64 z0] T)) b [z0] := by
  subst hb
  intro j hj
  match j, hj with
  | 0, _ => simp
  | (j + 1), hj => simp at hj
theorem nat2 (z0 z1 : Int) (T : TypeId) (w : World) (b : Nat) (hb : b = w.heap.size) : NAt (w.alloc (.cells #[.int .i64 z0, .int .i64 z1] T)) b [z0, z1] := by
  subst hb
  intro j hj
  match j, hj with
  | 0, _ => simp
  | 1, _ => simp
  | (j + 2), hj => simp at hj; omega
theorem nat3 (z0 z1 z2 : Int) (T : TypeId) (w : World) (b : Nat) (hb : b = w.heap.size) : NAt (w.alloc (.cells #[.int .i64 z0, .int .i64 z1, .int .i64 z2] T)) b [z0, z1, z2] := by
  subst hb
  intro j hj
  match j, hj with
  | 0, _ => simp
  | 1, _ => simp
  | 2, _ => simp
  | (j + 3), hj => simp at hj; omega
theorem nat4 (z0 z1 z2 z3 : Int) (T : TypeId) (w : World) (b : Nat) (hb : b = w.heap.size) : NAt (w.alloc (.cells #[.int .i64 z0, .int .i64 z1, .int .i64 z2, .int .i64 z3] T)) b [z0, z1, z2, z3] := by
  subst hb
  intro j hj
  match j, hj with
  | 0, _ => simp
  | 1, _ => simp
  | 2, _ => simp
  | 3, _ => simp
  | (j + 4), hj => simp at hj; omega
/-- The error's number of an instruction that may not be; 0: it may. -/
def codeI (op a b c i : Int) : Int := if okB op a b c i = true then 0 else if 1 ≤ op ∧ op ≤ 13 then 103 else 111
theorem codeI_ok {op a b c i : Int} (h : okB op a b c i = true) : codeI op a b c i = 0 := by unfold codeI; rw [if_pos h]
theorem codeI_no {op a b c i : Int} (h : okB op a b c i = false) (h0 : 1 ≤ op ∧ op ≤ 13) : codeI op a b c i = 103 := by unfold codeI; rw [if_neg (by rw [h]; decide), if_pos h0]
theorem codeI_word {op a b c i : Int} (h0 : ¬ (1 ≤ op ∧ op ≤ 13)) : codeI op a b c i = 111 := by
  unfold codeI
  rw [if_neg (by unfold okB; rw [decide_eq_false h0]; simp), if_neg h0]
theorem okt_1 (a b c i : Int) : okB 1 a b c i = (wiB a 8 && (nnB [b, c] && (wiB i 4096))) := by
  show (true && (fitB a 1 && (fitB b 0 && (fitB c 0 && fitB i 3)))) = _
  rw [Bool.eq_iff_iff]
  simp [fitB, hiOf, wiB, nnB]
  try omega
theorem okt_2 (a b c i : Int) : okB 2 a b c i = (wiB a 8 && (nnB [b, c] && (wiB i 4096))) := by
  show (true && (fitB a 1 && (fitB b 0 && (fitB c 0 && fitB i 3)))) = _
  rw [Bool.eq_iff_iff]
  simp [fitB, hiOf, wiB, nnB]
  try omega
theorem okt_3 (a b c i : Int) : okB 3 a b c i = (wiB a 8 && (wiB b 8 && (wiB c 8 && (wiB i 12)))) := by
  show (true && (fitB a 1 && (fitB b 1 && (fitB c 1 && fitB i 4)))) = _
  rw [Bool.eq_iff_iff]
  simp [fitB, hiOf, wiB, nnB]
  try omega
theorem okt_4 (a b c i : Int) : okB 4 a b c i = (nnB [a, b, c] && (wiB i 4096)) := by
  show (true && (fitB a 0 && (fitB b 0 && (fitB c 0 && fitB i 3)))) = _
  rw [Bool.eq_iff_iff]
  simp [fitB, hiOf, wiB, nnB]
  try omega
theorem okt_5 (a b c i : Int) : okB 5 a b c i = (wiB a 8 && (nnB [b, c] && (wiB i 4096))) := by
  show (true && (fitB a 1 && (fitB b 0 && (fitB c 0 && fitB i 3)))) = _
  rw [Bool.eq_iff_iff]
  simp [fitB, hiOf, wiB, nnB]
  try omega
theorem okt_6 (a b c i : Int) : okB 6 a b c i = (wiB a 8 && (wiB b 8 && (nnB [c] && (wiB i 4096)))) := by
  show (true && (fitB a 1 && (fitB b 1 && (fitB c 0 && fitB i 3)))) = _
  rw [Bool.eq_iff_iff]
  simp [fitB, hiOf, wiB, nnB]
  try omega
theorem okt_7 (a b c i : Int) : okB 7 a b c i = (wiB a 8 && (wiB b 8 && (nnB [c] && (wiB i 4096)))) := by
  show (true && (fitB a 1 && (fitB b 1 && (fitB c 0 && fitB i 3)))) = _
  rw [Bool.eq_iff_iff]
  simp [fitB, hiOf, wiB, nnB]
  try omega
theorem okt_8 (a b c i : Int) : okB 8 a b c i = (wiB a 16 && (wiB b 16 && (nnB [c, i]))) := by
  show (true && (fitB a 2 && (fitB b 2 && (fitB c 0 && fitB i 0)))) = _
  rw [Bool.eq_iff_iff]
  simp [fitB, hiOf, wiB, nnB]
  try omega
theorem okt_9 (a b c i : Int) : okB 9 a b c i = (wiB a 16 && (wiB b 8 && (nnB [c, i]))) := by
  show (true && (fitB a 2 && (fitB b 1 && (fitB c 0 && fitB i 0)))) = _
  rw [Bool.eq_iff_iff]
  simp [fitB, hiOf, wiB, nnB]
  try omega
theorem okt_10 (a b c i : Int) : okB 10 a b c i = (wiB a 8 && (wiB b 16 && (nnB [c, i]))) := by
  show (true && (fitB a 1 && (fitB b 2 && (fitB c 0 && fitB i 0)))) = _
  rw [Bool.eq_iff_iff]
  simp [fitB, hiOf, wiB, nnB]
  try omega
theorem okt_11 (a b c i : Int) : okB 11 a b c i = (wiB a 3 && (wiB b 16 && (wiB c 16 && (nnB [i])))) := by
  show (true && (fitB a 5 && (fitB b 2 && (fitB c 2 && fitB i 0)))) = _
  rw [Bool.eq_iff_iff]
  simp [fitB, hiOf, wiB, nnB]
  try omega
theorem okt_12 (a b c i : Int) : okB 12 a b c i = (nnB [a, b, c, i]) := by
  show (true && (fitB a 0 && (fitB b 0 && (fitB c 0 && fitB i 0)))) = _
  rw [Bool.eq_iff_iff]
  simp [fitB, hiOf, wiB, nnB]
  try omega
theorem okt_13 (a b c i : Int) : okB 13 a b c i = (nnB [a, b, c, i]) := by
  show (true && (fitB a 0 && (fitB b 0 && (fitB c 0 && fitB i 0)))) = _
  rw [Bool.eq_iff_iff]
  simp [fitB, hiOf, wiB, nnB]
  try omega
end Go.Proofs.YtaekccgcnlepaaaGreatDoor
