/-
  package asm: value, of each kind.
-/
import Derived.Test.YtaekccgcnlepaaaGreatDoorAs2
namespace Go.Proofs.YtaekccgcnlepaaaGreatDoor
open Go.ChangeShapes Go.WideShapes Go.ChangeAt Go.RowKit
set_option linter.unusedVariables false
set_option linter.unusedSimpArgs false
/-- A register: its letter, its number. -/
def regS (k : UInt8) (l : List UInt8) : Int × Option Nat := if Lib.hasPrefix l [k] = true then decS2 (Lib.trimPrefix l [k]) else (0, some 11)
theorem regv (k : UInt8) (s : ByteArray) (n : Int) (o : Option Nat) (h : Hid (regS k s.data.toList = (n, o))) :
    (Lib.hasPrefix s.data.toList [k] = true ∧ Hid (decS2 (⟨(Lib.trimPrefix s.data.toList [k]).toArray⟩ : ByteArray).data.toList = (n, o))) ∨ (Lib.hasPrefix s.data.toList [k] = false ∧ n = 0 ∧ o = some 11) := by
  have hh := h.out
  unfold regS at hh
  cases hp : Lib.hasPrefix s.data.toList [k]
  · rw [hp, if_neg (by simp)] at hh
    exact .inr ⟨rfl, (Prod.mk.inj hh).1.symm, (Prod.mk.inj hh).2.symm⟩
  · rw [hp, if_pos rfl] at hh
    exact .inl ⟨rfl, Lib.hid hh⟩
theorem trim_size (s : ByteArray) (p : List UInt8) : (⟨(Lib.trimPrefix s.data.toList p).toArray⟩ : ByteArray).size ≤ s.size := by
  show (Lib.trimPrefix s.data.toList p).toArray.size ≤ _
  rw [List.size_toArray]
  unfold Lib.trimPrefix
  split
  · rw [List.length_drop, ba_len]; omega
  · rw [ba_len]; exact Nat.le_refl _
theorem enc_r : (Utf8.encode 114).data.toList = [114] := by decide +kernel
theorem enc_k : (Utf8.encode 107).data.toList = [107] := by decide +kernel
set_option maxRecDepth 100000 in
set_option maxHeartbeats 1000000 in
theorem val_r {A : Nat → Addr} (s : ByteArray) (hs : s.size ≤ 1000000) (n : Int) (o : Option Nat) (mo : Option Nat) (h : Hid (regS 114 s.data.toList = (n, o))) (w : World) (hA : AsmAt A w) :
    Calls Tryz.prog 56 #[.string s, .int .i32 114, .map mo] w fun e w' => e = .returned (.tuple #[.int .i64 n, erV A o]) ∧ Below w.heap.size w w' := by
  have HA := Lib.hid hA
  clear hA
  rcases regv 114 s n o h with ⟨hp, HD⟩ | ⟨hp, rfl, rfl⟩
  · have HC := Lib.hid (fun W => Tryz.strings_CutPrefix s (Utf8.encode 114) W)
    have hz := trim_size s [114]
    rw [enc_r, hp] at HC
    obtain ⟨rs, hrs⟩ : ∃ rs : ByteArray, rs = ⟨(Lib.trimPrefix s.data.toList [114]).toArray⟩ := ⟨_, rfl⟩
    rw [← hrs] at HC HD hz
    clear hrs hp
    go_enter Tryz.func56, Tryz.ntmps56
    go_wp2_with (first
      | (go_at_call 76; (with_reducible refine (HC.out _).mono ?_); rintro e w1 ⟨rfl, rfl⟩)
      | (go_at_call 30; (with_reducible refine (dec_is rs (by omega) n o HD _ HA.out).mono ?_); rintro e w2 ⟨rfl, hb⟩; have HB := Lib.hid hb; clear hb))
    go_ret2
    exact ⟨rfl, HB.out⟩
  · have HC := Lib.hid (fun W => Tryz.strings_CutPrefix s (Utf8.encode 114) W)
    rw [enc_r, hp] at HC
    obtain ⟨rs, hrs⟩ : ∃ rs : ByteArray, rs = ⟨(Lib.trimPrefix s.data.toList [114]).toArray⟩ := ⟨_, rfl⟩
    rw [← hrs] at HC
    have c11 := HA.out.sen.c11
    clear hrs hp
    go_enter Tryz.func56, Tryz.ntmps56
    go_wp2_with (first
      | (go_at_call 76; (with_reducible refine (HC.out _).mono ?_); rintro e w1 ⟨rfl, rfl⟩))
    go_quiet (fail)
    go_wp2
    go_ret2
    exact ⟨rfl, below_dN2 (Below.refl _ _) _⟩
set_option maxRecDepth 100000 in
set_option maxHeartbeats 1000000 in
theorem val_k {A : Nat → Addr} (s : ByteArray) (hs : s.size ≤ 1000000) (n : Int) (o : Option Nat) (mo : Option Nat) (h : Hid (regS 107 s.data.toList = (n, o))) (w : World) (hA : AsmAt A w) :
    Calls Tryz.prog 56 #[.string s, .int .i32 107, .map mo] w fun e w' => e = .returned (.tuple #[.int .i64 n, erV A o]) ∧ Below w.heap.size w w' := by
  have HA := Lib.hid hA
  clear hA
  rcases regv 107 s n o h with ⟨hp, HD⟩ | ⟨hp, rfl, rfl⟩
  · have HC := Lib.hid (fun W => Tryz.strings_CutPrefix s (Utf8.encode 107) W)
    have hz := trim_size s [107]
    rw [enc_k, hp] at HC
    obtain ⟨rs, hrs⟩ : ∃ rs : ByteArray, rs = ⟨(Lib.trimPrefix s.data.toList [107]).toArray⟩ := ⟨_, rfl⟩
    rw [← hrs] at HC HD hz
    clear hrs hp
    go_enter Tryz.func56, Tryz.ntmps56
    go_wp2_with (first
      | (go_at_call 76; (with_reducible refine (HC.out _).mono ?_); rintro e w1 ⟨rfl, rfl⟩)
      | (go_at_call 30; (with_reducible refine (dec_is rs (by omega) n o HD _ HA.out).mono ?_); rintro e w2 ⟨rfl, hb⟩; have HB := Lib.hid hb; clear hb))
    go_ret2
    exact ⟨rfl, HB.out⟩
  · have HC := Lib.hid (fun W => Tryz.strings_CutPrefix s (Utf8.encode 107) W)
    rw [enc_k, hp] at HC
    obtain ⟨rs, hrs⟩ : ∃ rs : ByteArray, rs = ⟨(Lib.trimPrefix s.data.toList [107]).toArray⟩ := ⟨_, rfl⟩
    rw [← hrs] at HC
    have c11 := HA.out.sen.c11
    clear hrs hp
    go_enter Tryz.func56, Tryz.ntmps56
    go_wp2_with (first
      | (go_at_call 76; (with_reducible refine (HC.out _).mono ?_); rintro e w1 ⟨rfl, rfl⟩))
    go_quiet (fail)
    go_wp2
    go_ret2
    exact ⟨rfl, below_dN2 (Below.refl _ _) _⟩
set_option maxRecDepth 100000 in
theorem val_o {A : Nat → Addr} (s : ByteArray) (n : Int) (o : Option Nat) (mo : Option Nat) (h : Hid (nmS wNm s.data.toList = (n, o))) (w : World) (hA : AsmAt A w) :
    Calls Tryz.prog 56 #[.string s, .int .i32 111, .map mo] w fun e w' => e = .returned (.tuple #[.int .i64 n, erV A o]) ∧ Below w.heap.size w w' := by
  have HC := Lib.hid (nmof_w s n o h w hA)
  clear hA
  go_enter Tryz.func56, Tryz.ntmps56
  go_wp2_with (first
    | (go_at_call 74; (with_reducible refine HC.out.mono ?_); rintro e w2 ⟨rfl, hb⟩; have HB := Lib.hid hb; clear hb))
  go_ret2
  exact ⟨rfl, HB.out⟩
set_option maxRecDepth 100000 in
theorem val_m {A : Nat → Addr} (s : ByteArray) (n : Int) (o : Option Nat) (mo : Option Nat) (h : Hid (nmS mNm s.data.toList = (n, o))) (w : World) (hA : AsmAt A w) :
    Calls Tryz.prog 56 #[.string s, .int .i32 109, .map mo] w fun e w' => e = .returned (.tuple #[.int .i64 n, erV A o]) ∧ Below w.heap.size w w' := by
  have HC := Lib.hid (nmof_m s n o h w hA)
  clear hA
  go_enter Tryz.func56, Tryz.ntmps56
  go_wp2_with (first
    | (go_at_call 74; (with_reducible refine HC.out.mono ?_); rintro e w2 ⟨rfl, hb⟩; have HB := Lib.hid hb; clear hb))
  go_ret2
  exact ⟨rfl, HB.out⟩
theorem neq_labels (m : Option Nat) (w : World) : (binOp .neq 41 (.map m) (.map none)).run Tryz.prog w = .ok (.bool m.isSome) w := by
  simp only [binOp]
  simp [run_equal_map_nil w 41 9 71 m Tryz.underlying41]
set_option maxRecDepth 100000 in
theorem val_n {A : Nat → Addr} (s : ByteArray) (hs : s.size ≤ 1000000) (n : Int) (o : Option Nat) (h : Hid (decS2 s.data.toList = (n, o))) (w : World) (hA : AsmAt A w) :
    Calls Tryz.prog 56 #[.string s, .int .i32 110, .map none] w fun e w' => e = .returned (.tuple #[.int .i64 n, erV A o]) ∧ Below w.heap.size w w' := by
  have HC := Lib.hid (dec_is s hs n o h w hA)
  have hq : ∀ W : World, (binOp .neq 41 (.map none) (.map none)).run Tryz.prog W = .ok (.bool false) W := fun W => neq_labels none W
  clear hA
  go_enter Tryz.func56, Tryz.ntmps56
  go_wp2_with (first
    | (go_at_call 30; (with_reducible refine HC.out.mono ?_); rintro e w2 ⟨rfl, hb⟩; have HB := Lib.hid hb; clear hb))
  go_ret2
  exact ⟨rfl, HB.out⟩
end Go.Proofs.YtaekccgcnlepaaaGreatDoor
