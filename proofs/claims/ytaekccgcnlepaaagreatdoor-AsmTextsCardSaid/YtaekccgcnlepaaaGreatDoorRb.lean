/-
  turnkeyref1: Number, operand.
-/
import Derived.Test.YtaekccgcnlepaaaGreatDoorRa
import Derived.Test.YtaekccgcnlepaaaGreatDoorBm
namespace Go.Proofs.YtaekccgcnlepaaaGreatDoor
open Go.ChangeShapes Go.WideShapes Go.ChangeAt Go.RowKit Go.Maps
set_option linter.unusedVariables false
set_option linter.unusedSimpArgs false
def numO (o : Option Nat) : Int × Bool := match o with | some n => ((n : Int), true) | none => (0, false)
theorem num_empty (l : List UInt8) (h : l = []) : numL l = none := by subst h; rfl
theorem num_long (l : List UInt8) (h : 9 < l.length) : numL l = none := by unfold numL; rw [if_pos (.inr (.inl h))]
theorem num_zero (l : List UInt8) (h : l.head? = some 48) (h2 : 1 < l.length) : numL l = none := by
  unfold numL
  rw [if_pos (.inr (.inr (.inl ⟨h, fun e => by rw [e] at h2; simp at h2⟩)))]
theorem num_bad (l : List UInt8) (h : l.all (inB 48 57) = false) : numL l = none := by unfold numL; rw [if_pos (.inr (.inr (.inr h)))]
theorem num_good (l : List UInt8) (n : Nat) (h0 : l ≠ []) (h1 : l.length ≤ 9) (h2 : ¬ (l.head? = some 48 ∧ 1 < l.length)) (h3 : l.all (inB 48 57) = true) (hf : Lib.decFrom 0 l = some n) : numL l = some n := by
  unfold numL
  rw [if_neg]
  · unfold Lib.decNat
    rw [if_neg (by simpa using h0)]
    exact hf
  · rintro (h | h | ⟨a, b⟩ | h)
    · exact h0 h
    · omega
    · refine h2 ⟨a, ?_⟩
      cases l with
      | nil => cases a
      | cons c r =>
        simp only [List.head?_cons, Option.some.injEq] at a
        cases r with
        | nil => rw [a] at b; exact absurd rfl b
        | cons d r => simp
    · rw [h3] at h; cases h
theorem decF_snoc (l : List UInt8) (b : UInt8) (n : Nat) (h : Lib.decFrom 0 l = some n) (hb : inB 48 57 b = true) : Lib.decFrom 0 (l ++ [b]) = some (n * 10 + (b.toNat - 48)) := by
  rw [decF_append _ _ _ _ h, Lib.decFrom]
  have : 48 ≤ b.toNat ∧ b.toNat ≤ 57 := by simpa [inB] using hb
  unfold Lib.digitVal
  rw [if_pos this]
  rfl
set_option maxRecDepth 100000 in
set_option maxHeartbeats 2000000 in
theorem rnum_is (s : ByteArray) (hs : s.size ≤ 1000000) (v : Int) (t : Bool) (h : Hid (numO (numL s.data.toList) = (v, t))) (w : World) :
    Calls Tryz.prog 36 #[.string s] w fun e w' => e = .returned (.tuple #[.int .i64 v, .bool t]) ∧ Below w.heap.size w w' := by
  have hlen := ba_len s
  have fin0 : numL s.data.toList = none → v = 0 ∧ t = false := fun e => by
    have := h.out
    rw [e] at this
    simp only [numO, Prod.mk.injEq] at this
    exact ⟨this.1.symm, this.2.symm⟩
  by_cases hz : s.size = 0
  · obtain ⟨rfl, rfl⟩ := fin0 (num_empty _ (List.length_eq_zero_iff.1 (by omega)))
    have d1 : decide ((s.size : Int) < 1) = true := by simp; omega
    clear fin0 hlen
    go_enter Tryz.func36, Tryz.ntmps36
    go_wp2_with fail
    go_ret2
    exact ⟨rfl, Below.refl _ _⟩
  have d1 : decide ((s.size : Int) < 1) = false := by simp; omega
  by_cases h9 : 9 < s.size
  · obtain ⟨rfl, rfl⟩ := fin0 (num_long _ (by omega))
    have d2 : decide ((9 : Int) < (s.size : Int)) = true := by simp; omega
    clear fin0 hlen
    go_enter Tryz.func36, Tryz.ntmps36
    go_wp2_with fail
    go_ret2
    exact ⟨rfl, Below.refl _ _⟩
  have d2 : decide ((9 : Int) < (s.size : Int)) = false := by simp; omega
  have hs0 : 0 < s.size := by omega
  have hg0 := ba_get s 0 hs0
  have hhd : s.data.toList.head? = some (s[0]'hs0) := by rw [List.head?_eq_getElem?]; exact hg0
  have i0 : (0 : Int) < (s.size : Int) := by omega
  obtain ⟨b0, hb0⟩ : ∃ b, (((s[0]'hs0).toNat : Int) == 48) = b := ⟨_, rfl⟩
  obtain ⟨b1, hb1⟩ : ∃ b, decide ((1 : Int) < (s.size : Int)) = b := ⟨_, rfl⟩
  have hbz : b0 = true → s[0]'hs0 = 48 := fun e => by
    rw [e] at hb0
    have h8 : (((s[0]'hs0).toNat : Nat) : Int) = 48 := by simpa using hb0
    have h7 : (s[0]'hs0).toNat = 48 := by omega
    exact UInt8.toNat_inj.1 (by rw [h7]; rfl)
  have hnb : ∀ b, s[0]'hs0 = b → b = 48 → b0 = true := fun b e e2 => by rw [← hb0, e, e2]; rfl
  by_cases hbb : b0 = true ∧ b1 = true
  · obtain ⟨rfl, rfl⟩ := hbb
    have h1 : 1 < s.size := by have := of_decide_eq_true hb1; omega
    obtain ⟨rfl, rfl⟩ := fin0 (num_zero _ (by rw [hhd, hbz rfl]) (by omega))
    clear fin0 hlen hbz hhd hg0 h1 hnb
    go_enter Tryz.func36, Tryz.ntmps36
    go_wp2_with fail
    go_ret2
    exact ⟨rfl, Below.refl _ _⟩
  have HH : Hid (¬ (s.data.toList.head? = some 48 ∧ 1 < s.data.toList.length)) := Lib.hid (fun ⟨x, y⟩ => by
    rw [hhd] at x
    injection x with x
    exact hbb ⟨hnb _ x rfl, by rw [← hb1]; exact decide_eq_true (by omega)⟩)
  have HV := Lib.hid fin0
  have HL := Lib.hid hlen
  clear hbz hhd hg0 fin0 hlen hnb
  have main : Calls Tryz.prog 36 #[.string s] w fun e w' => e = .returned (.tuple #[.int .i64 v, .bool t]) ∧ Below w.heap.size w w' := by
    cases b0
    all_goals cases b1
    all_goals try exact absurd ⟨rfl, rfl⟩ hbb
    all_goals
      clear hbb
      go_enter Tryz.func36, Tryz.ntmps36
      go_wp2_with fail
      go_loopw [4, 5] (fun n i wr => ∃ (k m : Nat), k ≤ s.size ∧ i = .int .i64 k ∧ n = .int .i64 m ∧ m < 10 ^ k ∧ Below w.heap.size w wr ∧ Lib.decFrom 0 (s.data.toList.take k) = some m ∧ (s.data.toList.take k).all (inB 48 57) = true) (fun _ i _ => s.size - (intOf i).toNat)
      case atStart => exact ⟨0, 0, by omega, rfl, rfl, by decide, Below.refl _ _, rfl, rfl⟩
      case round =>
        obtain ⟨k, m, hk, rfl, rfl, hm, hb, hd, hall⟩ := hrel
        have HB := Lib.hid hb
        have HD := Lib.hid hd
        have HA := Lib.hid hall
        by_cases hlt : k < s.size
        · have hg := ba_get s k hlt
          have HN : Hid ((s.data.toList.take (k + 1)).all (inB 48 57) = inB 48 57 (s[k]'hlt)) := Lib.hid (take_all _ _ _ hall hg)
          have HG := Lib.hid hg
          have HT : Hid (s.data.toList.take (k + 1) = s.data.toList.take k ++ [s[k]'hlt]) := Lib.hid (by
            obtain ⟨hk2, e⟩ := List.getElem?_eq_some_iff.1 hg
            rw [List.take_succ_eq_append_getElem hk2, e])
          have k0 : (0 : Int) ≤ (k : Int) := by omega
          have k1 : (k : Int) < (s.size : Int) := by omega
          have HM : Hid (m < 1000000000) := Lib.hid (Nat.lt_of_lt_of_le hm (by
            have : (10 : Nat) ^ k ≤ 10 ^ 8 := Nat.pow_le_pow_right (by decide) (by omega)
            omega))
          obtain ⟨c, hc⟩ : ∃ c, s[k]'hlt = c := ⟨_, rfl⟩
          have hcl : c.toNat < 256 := UInt8.toNat_lt c
          rw [hc] at HN HG HT
          by_cases hin : inB 48 57 c = true
          · have h2 : 48 ≤ c.toNat ∧ c.toNat ≤ 57 := by simpa [inB] using hin
            have e1 : decide (((s[k]'hlt).toNat : Int) < 48) = false := by rw [hc]; simp; omega
            have e2 : decide ((57 : Int) < ((s[k]'hlt).toNat : Int)) = false := by rw [hc]; simp; omega
            obtain ⟨d, hdd⟩ : ∃ d : Nat, c.toNat = 48 + d := ⟨c.toNat - 48, by omega⟩
            have hd9 : d ≤ 9 := by omega
            have e3 : (((s[k]'hlt).toNat : Int)) = (48 : Int) + (d : Int) := by rw [hc, hdd]; omega
            have HD2 : Hid (Lib.decFrom 0 (s.data.toList.take (k + 1)) = some (m * 10 + d)) := Lib.hid (by
              rw [HT.out, decF_snoc _ _ _ HD.out hin, hdd]; congr 2; omega)
            have HA2 : Hid ((s.data.toList.take (k + 1)).all (inB 48 57) = true) := Lib.hid (by rw [HN.out, hin])
            have HP : Hid (m * 10 + d < 10 ^ (k + 1)) := Lib.hid (by rw [Nat.pow_succ]; omega)
            have hm9 : m < 1000000000 := HM.out
            clear hb hd hall hg hin h2 hdd hc hm
            go_wp2_with fail
            go_roundw
            case rel => exact ⟨k + 1, m * 10 + d, by omega, by go_num, by go_num, HP.out, HB.out, HD2.out, HA2.out⟩
            case measure => simp [intOf]; omega
          · have hin2 : inB 48 57 c = false := by simpa using hin
            obtain ⟨rfl, rfl⟩ := HV.out (num_bad _ (all_not _ _ _ HG.out hin2))
            by_cases hlo : c.toNat < 48
            · have e1 : decide (((s[k]'hlt).toNat : Int) < 48) = true := by rw [hc]; simp; omega
              clear hb hd hall hg hin hin2 hc hlo hm
              go_wp2_with fail
              go_ret2
              exact ⟨rfl, HB.out⟩
            · have e1 : decide (((s[k]'hlt).toNat : Int) < 48) = false := by rw [hc]; simp; omega
              have hhi : 57 < c.toNat := by
                unfold inB at hin2
                simp only [decide_eq_false_iff_not] at hin2
                omega
              have e2 : decide ((57 : Int) < ((s[k]'hlt).toNat : Int)) = true := by rw [hc]; simp; omega
              clear hb hd hall hg hin hin2 hc hlo hm hhi
              go_wp2_with fail
              go_ret2
              exact ⟨rfl, HB.out⟩
        · obtain rfl : k = s.size := by omega
          have ht : s.data.toList.take s.size = s.data.toList := List.take_of_length_le (by rw [HL.out]; exact Nat.le_refl _)
          rw [ht] at hd hall
          have hne : s.data.toList ≠ [] := fun e => by
            have := HL.out
            rw [e] at this
            simp at this
            omega
          have HQ : Hid (v = (m : Int) ∧ t = true) := Lib.hid (by
            have := h.out
            rw [num_good _ m hne (by rw [HL.out]; omega) HH.out hall hd] at this
            simp only [numO, Prod.mk.injEq] at this
            exact ⟨this.1.symm, this.2.symm⟩)
          have hdd : decide (s.size < s.size) = false := by simp
          clear hb hd hall ht hne
          obtain ⟨rfl, rfl⟩ := HQ.out
          go_wp2_with fail
          go_ret2
          exact ⟨rfl, HB.out⟩
  exact main
/-- An operand: its number; none: it has none. -/
def opdO (k : UInt8) (l : List UInt8) : Option Nat := if k = 110 then numL l else if Lib.hasPrefix l [k] = true then numL (Lib.trimPrefix l [k]) else none
theorem pfx (l : List UInt8) (k : UInt8) : Lib.hasPrefix l [k] = true ↔ l.head? = some k := by
  cases l with
  | nil => simp [Lib.hasPrefix, List.isPrefixOf]
  | cons b r =>
    simp only [Lib.hasPrefix, List.isPrefixOf, Bool.and_true, beq_iff_eq, List.head?_cons, Option.some.injEq]
    exact eq_comm
set_option maxRecDepth 100000 in
theorem roperand_is (s : ByteArray) (hs : s.size ≤ 1000000) (kk : UInt8) (v : Int) (t : Bool) (h : Hid (numO (opdO kk s.data.toList) = (v, t))) (w : World) :
    Calls Tryz.prog 37 #[.string s, .int .u8 ((kk.toNat : Nat) : Int)] w fun e w' => e = .returned (.tuple #[.int .i64 v, .bool t]) ∧ Below w.heap.size w w' := by
  have hlen := ba_len s
  have hh := h.out
  unfold opdO at hh
  by_cases hk : kk = 110
  · rw [if_pos hk] at hh
    have HH := Lib.hid hh
    subst hk
    clear hh hlen
    go_enter Tryz.func37, Tryz.ntmps37
    go_wp2_with (first
      | (go_at_call 36; (with_reducible refine (rnum_is s hs v t HH _).mono ?_); rintro e w1 ⟨rfl, hb⟩))
    go_ret2
    exact ⟨rfl, hb⟩
  rw [if_neg hk] at hh
  have e0 : (((kk.toNat : Nat) : Int) == 110) = false := by
    rw [beq_eq_false_iff_ne]
    intro e
    exact hk (UInt8.toNat_inj.1 (by rw [show (110 : UInt8).toNat = 110 from rfl]; omega))
  by_cases h2 : s.size < 2
  · have hq : v = 0 ∧ t = false := by
      have hn : (if Lib.hasPrefix s.data.toList [kk] = true then numL (Lib.trimPrefix s.data.toList [kk]) else none) = none := by
        split
        · rename_i hp
          unfold Lib.trimPrefix
          rw [if_pos hp]
          exact num_empty _ (List.drop_of_length_le (by rw [hlen]; simp; omega))
        · rfl
      rw [hn] at hh
      simp only [numO, Prod.mk.injEq] at hh
      exact ⟨hh.1.symm, hh.2.symm⟩
    obtain ⟨rfl, rfl⟩ := hq
    have d1 : decide ((s.size : Int) < 2) = true := by simp; omega
    clear hh hlen hk h2
    go_enter Tryz.func37, Tryz.ntmps37
    go_wp2_with fail
    go_ret2
    exact ⟨rfl, Below.refl _ _⟩
  have d1 : decide ((s.size : Int) < 2) = false := by simp; omega
  have hs0 : 0 < s.size := by omega
  have hg0 := ba_get s 0 hs0
  have hhd : s.data.toList.head? = some (s[0]'hs0) := by rw [List.head?_eq_getElem?]; exact hg0
  have i0 : (0 : Int) < (s.size : Int) := by omega
  by_cases hp : s[0]'hs0 = kk
  · have e1 : ((((s[0]'hs0).toNat : Nat) : Int) != ((kk.toNat : Nat) : Int)) = false := by rw [hp]; simp
    have hpf : Lib.hasPrefix s.data.toList [kk] = true := (pfx _ _).2 (by rw [hhd, hp])
    rw [if_pos hpf] at hh
    obtain ⟨x, hx⟩ : ∃ x, s.extract 1 s.size = x := ⟨_, rfl⟩
    have hxl : x.data.toList = Lib.trimPrefix s.data.toList [kk] := by
      rw [← hx, extract_list]
      unfold Lib.trimPrefix
      rw [if_pos hpf]
      exact List.take_of_length_le (by rw [List.length_drop, hlen]; exact Nat.le_refl _)
    have hxz : x.size ≤ 1000000 := by
      rw [← ba_len, hxl]
      unfold Lib.trimPrefix
      rw [if_pos hpf, List.length_drop, hlen]
      omega
    rw [← hxl] at hh
    have HH := Lib.hid hh
    have i1 : (1 : Int) ≤ (s.size : Int) := by omega
    clear hh hlen hk h2 hg0 hhd hp hpf hxl
    go_enter Tryz.func37, Tryz.ntmps37
    go_wp2_with (first
      | (go_at_call 36; (with_reducible refine (rnum_is x hxz v t HH _).mono ?_); rintro e w1 ⟨rfl, hb⟩))
    go_ret2
    exact ⟨rfl, hb⟩
  · have e1 : ((((s[0]'hs0).toNat : Nat) : Int) != ((kk.toNat : Nat) : Int)) = true := by
      rw [bne_iff_ne]
      intro e
      exact hp (UInt8.toNat_inj.1 (by omega))
    have hpf : ¬ Lib.hasPrefix s.data.toList [kk] = true := fun e => by
      have := (pfx _ _).1 e
      rw [hhd] at this
      injection this with this
      exact hp this
    rw [if_neg hpf] at hh
    obtain ⟨rfl, rfl⟩ : v = 0 ∧ t = false := by
      simp only [numO, Prod.mk.injEq] at hh
      exact ⟨hh.1.symm, hh.2.symm⟩
    clear hh hlen hk h2 hg0 hhd hp hpf
    go_enter Tryz.func37, Tryz.ntmps37
    go_wp2_with fail
    go_ret2
    exact ⟨rfl, Below.refl _ _⟩
end Go.Proofs.YtaekccgcnlepaaaGreatDoor
