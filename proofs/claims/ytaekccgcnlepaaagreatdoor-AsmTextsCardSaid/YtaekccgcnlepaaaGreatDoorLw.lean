/-
  package asm: wordOf.
-/
import Derived.Test.YtaekccgcnlepaaaGreatDoorLg
namespace Go.Proofs.YtaekccgcnlepaaaGreatDoor
open Go.ChangeShapes Go.WideShapes Go.ChangeAt Go.RowKit Go.Maps
set_option linter.unusedVariables false
set_option linter.unusedSimpArgs false
/-- What a word of that kind says, where there are names. -/
def valN (f : LF) (op : Nat) (k : UInt8) (l : List UInt8) : Int × Option Nat := if k = 110 ∧ (op = 4 ∨ op = 5) then numS f l else valK k l
def parN (f : LF) (ws : List ByteArray) : (Int × Int × Int × Int × Int) × Option Nat :=
  parseV (opW ws) ws.length (fun j => valN f (opW ws) ((aWd.getD (opW ws) []).getD j 0) (ws.getD (1 + j) ⟨#[]⟩).data.toList)
theorem val_nm {A : Nat → Addr} (M b : Nat) (f : LF) (op : Nat) (hop : op ≤ 13) (j : Nat) (hj : j < (aWd.getD op []).length) (s : ByteArray) (hs : s.size ≤ 1000000) (W : World) (hA : AsmAt A W) (hL : LabAt W M b f) :
    Calls Tryz.prog 56 #[.string s, .int .i32 (((aWd.getD op []).getD j 0).toNat : Int), .map (if op = 4 ∨ op = 5 then some M else none)] W fun e w' => e = .returned (.tuple #[.int .i64 (valN f op ((aWd.getD op []).getD j 0) s.data.toList).1, erV A (valN f op ((aWd.getD op []).getD j 0) s.data.toList).2]) ∧ Below W.heap.size W w' := by
  by_cases h45 : op = 4 ∨ op = 5
  · rw [if_pos h45]
    by_cases hk : (aWd.getD op []).getD j 0 = 110
    · rw [hk]
      have e : valN f op 110 s.data.toList = numS f s.data.toList := by unfold valN; rw [if_pos ⟨rfl, h45⟩]
      rw [e]
      exact val_nl M b f s hs _ _ (Lib.hid rfl) W hA hL
    · have e : valN f op ((aWd.getD op []).getD j 0) s.data.toList = valK ((aWd.getD op []).getD j 0) s.data.toList := by unfold valN; rw [if_neg (fun h => hk h.1)]
      rw [e]
      exact val_nil op hop j hj s hs (some M) (.inr hk) W hA
  · rw [if_neg h45]
    have e : valN f op ((aWd.getD op []).getD j 0) s.data.toList = valK ((aWd.getD op []).getD j 0) s.data.toList := by unfold valN; rw [if_neg (fun h => h45 h.2)]
    rw [e]
    exact val_nil op hop j hj s hs none (.inl rfl) W hA
theorem parseV_ok {op n : Nat} {vv : Nat → Int × Option Nat} {a0 a1 a2 a3 a4 : Int} (h : parseV op n vv = ((a0, a1, a2, a3, a4), none)) : okB a0 a1 a2 a3 a4 = true := by
  unfold parseV at h
  split at h
  · simp at h
  · unfold insV at h
    split at h
    · simp at h
    · split at h
      · rename_i hok
        simp only [Prod.mk.injEq] at h
        obtain ⟨⟨rfl, rfl, rfl, rfl, rfl⟩, -⟩ := h
        exact hok
      · simp at h
/-- What a line of these words gives: its word, whether there is one, the error. -/
def wdV (f : LF) (line : Nat) (ws : List ByteArray) : (Int × Bool) × Option Nat :=
  if silentL ws = true then ((0, false), none) else match nmIn ws with
    | some nm => if ((f nm).getD (0, 0)).1 = (line : Int) then ((0, false), none) else ((0, false), some 3)
    | none => if (ws.getD 0 ⟨#[]⟩).data.toList = [119, 111, 114, 100] ∧ ws.length = 2 then (((decS2 (ws.getD 1 ⟨#[]⟩).data.toList).1, true), (decS2 (ws.getD 1 ⟨#[]⟩).data.toList).2)
      else match parN f ws with
        | (_, some e) => ((0, false), some e)
        | ((a0, a1, a2, a3, a4), none) => ((wordC a0 a1 a2 a3 a4, true), none)
theorem dec_range (l : List UInt8) : 0 ≤ (decS2 l).1 ∧ (decS2 l).1 ≤ 4294967295 := by
  unfold decS2
  cases h : numL l with
  | none => exact ⟨by decide, by decide⟩
  | some n => have := (num_atoi l n h).2.1; exact ⟨by simp, by simp only; omega⟩
set_option maxRecDepth 100000 in
set_option maxHeartbeats 4000000 in
theorem wordof_is {A : Nat → Addr} (B c n M b line : Nat) (f : LF) (ws : List ByteArray) (hn : Hid (ws.length = n)) (hn1 : n ≤ 1000) (hl : line ≤ 1000) (hz : Hid (∀ x, x ∈ ws → x.size ≤ 100000)) (hz2 : Hid (∀ i, (ws.getD i ⟨#[]⟩).size ≤ 100000)) (v : Int) (t : Bool) (o : Option Nat) (h : Hid (wdV f line ws = ((v, t), o))) (w : World) (hA : AsmAt A w) (hW : WsAt w B ws) (hL : LabAt w M b f) :
    Calls Tryz.prog 13 #[.slice (some ⟨B, 0, none⟩) n c, .int .i64 (line : Int), .map (some M)] w fun e w' => e = .returned (.tuple #[.int .u32 v, .bool t, erV A o]) ∧ Below w.heap.size w w' := by
  have HA := Lib.hid hA
  have HW := Lib.hid hW
  have HL := Lib.hid hL
  have hh := h.out
  unfold wdV at hh
  clear hA hW hL
  cases hsl : silentL ws
  · rw [hsl, if_neg (by simp)] at hh
    have HSl := Lib.hid hsl
    cases hnm : nmIn ws with
    | some nml =>
      rw [hnm] at hh
      simp only at hh
      obtain ⟨nm, hnb⟩ : ∃ nm : ByteArray, nm = ⟨nml.toArray⟩ := ⟨_, rfl⟩
      have hnl : nm.data.toList = nml := by rw [hnb]
      have HNi : Hid (NmR ws nm true) := Lib.hid (.inl ⟨by rw [hnm, hnl], rfl⟩)
      have hnz : nm.size ≤ 1000000 := by
        rw [← ba_len, hnl]
        have := nmIn_size ws nml hnm hz.out
        omega
      obtain ⟨⟨px, py⟩, hpq⟩ : ∃ xy : Int × Int, (f nml).getD (0, 0) = xy := ⟨_, rfl⟩
      have HF : Hid ((f nm.data.toList).getD (0, 0) = (px, py)) := Lib.hid (by rw [hnl, hpq])
      rw [hpq] at hh
      simp only at hh
      by_cases hpl : px = (line : Int)
      · rw [if_pos hpl] at hh
        simp only [Prod.mk.injEq] at hh
        obtain ⟨⟨rfl, rfl⟩, rfl⟩ := hh
        have e0 : (px != (line : Int)) = false := by simp [hpl]
        have hfd : ∀ W : World, (Instr.field 71 (.agg #[.int .i64 px, .int .i64 py]) 0).run Tryz.prog W = .ok (.int .i64 px) W := fun W => by kernel_rfl
        clear hsl hnm hnb hnl hpq hpl
        go_enter Tryz.func13, Tryz.ntmps13
        go_wp2_with (first
          | (go_at_call 28; (with_reducible refine (silent_is B c n ws hn (by omega) false HSl _ HW.out).mono ?_); rintro e w2 ⟨rfl, rfl⟩)
          | (go_at_call 29; (with_reducible refine (namein_is B c n ws hn (by omega) hz nm true HNi _ HW.out).mono ?_); rintro e w3 ⟨rfl, hb⟩; have HB3 := Lib.hid hb; have HL3 := Lib.hid (HL.out.below hb); clear hb)
          | (at_lookup; refine wpList_lookup_lab1 _ rfl _ _ rfl rfl HL3.out nm hnz rfl px py HF ?_))
        go_ret3
        exact ⟨rfl, HB3.out⟩
      · rw [if_neg hpl] at hh
        simp only [Prod.mk.injEq] at hh
        obtain ⟨⟨rfl, rfl⟩, rfl⟩ := hh
        have e0 : (px != (line : Int)) = true := by simp [hpl]
        have hfd : ∀ W : World, (Instr.field 71 (.agg #[.int .i64 px, .int .i64 py]) 0).run Tryz.prog W = .ok (.int .i64 px) W := fun W => by kernel_rfl
        clear hsl hnm hnb hnl hpq hpl
        go_enter Tryz.func13, Tryz.ntmps13
        go_wp2_with (first
          | (go_at_call 28; (with_reducible refine (silent_is B c n ws hn (by omega) false HSl _ HW.out).mono ?_); rintro e w2 ⟨rfl, rfl⟩)
          | (go_at_call 29; (with_reducible refine (namein_is B c n ws hn (by omega) hz nm true HNi _ HW.out).mono ?_); rintro e w3 ⟨rfl, hb⟩; have HB3 := Lib.hid hb; have HL3 := Lib.hid (HL.out.below hb); have c3 := (HA.out.sen.below hb).c3; clear hb)
          | (at_lookup; refine wpList_lookup_lab1 _ rfl _ _ rfl rfl HL3.out nm hnz rfl px py HF ?_))
        go_quiet (fail)
        go_wp2
        go_ret3
        exact ⟨rfl, below_dN2 HB3.out _⟩
    | none =>
      rw [hnm] at hh
      simp only at hh
      have HNi : Hid (NmR ws ⟨#[]⟩ false) := Lib.hid (.inr ⟨hnm, rfl, rfl⟩)
      have hne : 0 < ws.length := by
        cases ws with
        | nil => simp [silentL] at hsl
        | cons x r => simp
      have hp0 : (0 : Int) < (n : Int) := by rw [← hn.out]; omega
      obtain ⟨x0, hx0⟩ : ∃ x0, ws.getD 0 ⟨#[]⟩ = x0 := ⟨_, rfl⟩
      rw [hx0] at hh
      have HX0 := Lib.hid hx0
      obtain ⟨bw, hbw⟩ : ∃ b, (x0.toList == [119, 111, 114, 100]) = b := ⟨_, rfl⟩
      obtain ⟨b2, hb2⟩ : ∃ b, ((n : Int) == 2) = b := ⟨_, rfl⟩
      by_cases hwd : x0.data.toList = [119, 111, 114, 100] ∧ ws.length = 2
      · rw [if_pos hwd] at hh
        simp only [Prod.mk.injEq] at hh
        obtain ⟨⟨hv, rfl⟩, ho⟩ := hh
        obtain ⟨x1, hx1⟩ : ∃ x1, ws.getD 1 ⟨#[]⟩ = x1 := ⟨_, rfl⟩
        rw [hx1] at hv ho
        have hr := dec_range x1.data.toList
        have hz1 := hz2.out 1
        rw [hx1] at hz1
        have HD : Hid (decS2 x1.data.toList = (v, o)) := Lib.hid (by rw [← hv, ← ho])
        rw [hv] at hr
        have hn2 : n = 2 := by rw [← hn.out]; exact hwd.2
        have e0 : (x0.toList == [119, 111, 114, 100]) = true := by rw [Lib.toList_data, hwd.1]; rfl
        have HX1 := Lib.hid hx1
        have r0 := hr.1
        have r1 := hr.2
        subst hn2
        clear hsl hnm hx0 hx1 hwd hbw hb2 hv ho hr hne
        go_enter Tryz.func13, Tryz.ntmps13
        go_wp2_with (first
          | (go_at_call 28; (with_reducible refine (silent_is B c 2 ws hn (by omega) false HSl _ HW.out).mono ?_); rintro e w2 ⟨rfl, rfl⟩)
          | (go_at_call 29; (with_reducible refine (namein_is B c 2 ws hn (by omega) hz ⟨#[]⟩ false HNi _ HW.out).mono ?_); rintro e w3 ⟨rfl, hb⟩; have HB3 := Lib.hid hb; have d0 := (HW.out.below hb).at' 0 (by rw [hn.out]; decide); have d1 := (HW.out.below hb).at' 1 (by rw [hn.out]; decide); rw [HX0.out] at d0; rw [HX1.out] at d1; clear hb)
          | (go_at_call 30; (with_reducible refine (dec_is x1 (by omega) v o HD _ (HA.out.below HB3.out)).mono ?_); rintro e w4 ⟨rfl, hb⟩; have HB4 := Lib.hid (HB3.out.trans (hb.mono HB3.out.size)); clear hb))
        go_ret3
        exact ⟨rfl, HB4.out⟩
      · rw [if_neg hwd] at hh
        obtain ⟨⟨⟨a0, a1, a2, a3, a4⟩, oo⟩, hpn⟩ : ∃ y, parN f ws = y := ⟨_, rfl⟩
        rw [hpn] at hh
        have hpp := hpn
        unfold parN at hpp
        rw [hn.out] at hpp
        have HPX := Lib.hid hpp
        have HPC : Hid (∀ W, AsmAt A W → WsAt W B ws → LabAt W M b f → Calls Tryz.prog 31 #[.slice (some ⟨B, 0, none⟩) n c, .map (some M)] W fun e w' => e = .returned (.tuple #[.agg #[.int .i64 a0, .int .i64 a1, .int .i64 a2, .int .i64 a3, .int .i64 a4], erV A oo]) ∧ Below W.heap.size W w') := Lib.hid (fun W h1 h2 h3 =>
          parse_all B c n ws hn hn1 (some M) _ (fun W => LabAt W M b f) (fun W W' h hb => h.below hb) (fun j hj W' g1 g2 => val_nm M b f (opW ws) (opW_le ws) j hj _ (Nat.le_trans (hz2.out (1 + j)) (by omega)) W' g1 g2) _ HPX W h1 h2 h3)
        have hbb : (bw && b2) = false := by
          rw [← hbw, ← hb2]
          rw [Bool.and_eq_false_iff]
          rw [Lib.toList_data]
          by_cases h1 : x0.data.toList = [119, 111, 114, 100]
          · right
            rw [beq_eq_false_iff_ne]
            intro e
            exact hwd ⟨h1, by rw [hn.out]; omega⟩
          · left
            rw [beq_eq_false_iff_ne]
            exact h1
        cases oo with
        | some er =>
          simp only [Prod.mk.injEq] at hh
          obtain ⟨⟨rfl, rfl⟩, rfl⟩ := hh
          rw [show erV A (some er) = errC (sA A er) from rfl] at HPC
          clear hsl hnm hx0 hwd hne hpn hpp
          cases bw
          · clear hbb hb2
            go_enter Tryz.func13, Tryz.ntmps13
            go_wp2_with (first
              | (go_at_call 28; (with_reducible refine (silent_is B c n ws hn (by omega) false HSl _ HW.out).mono ?_); rintro e w2 ⟨rfl, rfl⟩)
              | (go_at_call 29; (with_reducible refine (namein_is B c n ws hn (by omega) hz ⟨#[]⟩ false HNi _ HW.out).mono ?_); rintro e w3 ⟨rfl, hb⟩; have HB3 := Lib.hid hb; have d0 := (HW.out.below hb).at' 0 (by rw [hn.out]; omega); rw [HX0.out] at d0; clear hb)
              | (go_at_call 31; (with_reducible refine (HPC.out _ (HA.out.below HB3.out) (HW.out.below HB3.out) (HL.out.below HB3.out)).mono ?_); rintro e w4 ⟨rfl, hb⟩; have HB4 := Lib.hid (HB3.out.trans (hb.mono HB3.out.size)); clear hb d0))
            go_ret3
            exact ⟨rfl, HB4.out.alloc HB4.out.size _⟩
          · obtain rfl : b2 = false := by simpa using hbb
            clear hbb
            go_enter Tryz.func13, Tryz.ntmps13
            go_wp2_with (first
              | (go_at_call 28; (with_reducible refine (silent_is B c n ws hn (by omega) false HSl _ HW.out).mono ?_); rintro e w2 ⟨rfl, rfl⟩)
              | (go_at_call 29; (with_reducible refine (namein_is B c n ws hn (by omega) hz ⟨#[]⟩ false HNi _ HW.out).mono ?_); rintro e w3 ⟨rfl, hb⟩; have HB3 := Lib.hid hb; have d0 := (HW.out.below hb).at' 0 (by rw [hn.out]; omega); rw [HX0.out] at d0; clear hb)
              | (go_at_call 31; (with_reducible refine (HPC.out _ (HA.out.below HB3.out) (HW.out.below HB3.out) (HL.out.below HB3.out)).mono ?_); rintro e w4 ⟨rfl, hb⟩; have HB4 := Lib.hid (HB3.out.trans (hb.mono HB3.out.size)); clear hb d0))
            go_ret3
            exact ⟨rfl, HB4.out.alloc HB4.out.size _⟩
        | none =>
          simp only [Prod.mk.injEq] at hh
          obtain ⟨⟨hv, rfl⟩, rfl⟩ := hh
          have HV := Lib.hid hv
          have HOK := Lib.hid (parseV_ok hpp)
          rw [show erV A none = Value.nilIface from rfl] at HPC
          clear hsl hnm hx0 hwd hne hpn hpp hv
          cases bw
          · clear hbb hb2
            go_enter Tryz.func13, Tryz.ntmps13
            go_wp2_with (first
              | (go_at_call 28; (with_reducible refine (silent_is B c n ws hn (by omega) false HSl _ HW.out).mono ?_); rintro e w2 ⟨rfl, rfl⟩)
              | (go_at_call 29; (with_reducible refine (namein_is B c n ws hn (by omega) hz ⟨#[]⟩ false HNi _ HW.out).mono ?_); rintro e w3 ⟨rfl, hb⟩; have HB3 := Lib.hid hb; have d0 := (HW.out.below hb).at' 0 (by rw [hn.out]; omega); rw [HX0.out] at d0; clear hb)
              | (go_at_call 31; (with_reducible refine (HPC.out _ (HA.out.below HB3.out) (HW.out.below HB3.out) (HL.out.below HB3.out)).mono ?_); rintro e w4 ⟨rfl, hb⟩; have HB4 := Lib.hid (HB3.out.trans (hb.mono HB3.out.size)); clear hb d0)
              | (go_at_call 32; (with_reducible refine (cword_ok a0 a1 a2 a3 a4 _ _ _ ((HA.out.below HB4.out).code.below ((Below.refl _ _).alloc (Nat.le_refl _) _)) HOK v HV).mono ?_); rintro e w5 ⟨rfl, hb⟩; have HB5 := Lib.hid ((HB4.out.alloc HB4.out.size _).trans (hb.mono (HB4.out.alloc HB4.out.size _).size)); clear hb))
            go_ret3
            exact ⟨rfl, HB5.out⟩
          · obtain rfl : b2 = false := by simpa using hbb
            clear hbb
            go_enter Tryz.func13, Tryz.ntmps13
            go_wp2_with (first
              | (go_at_call 28; (with_reducible refine (silent_is B c n ws hn (by omega) false HSl _ HW.out).mono ?_); rintro e w2 ⟨rfl, rfl⟩)
              | (go_at_call 29; (with_reducible refine (namein_is B c n ws hn (by omega) hz ⟨#[]⟩ false HNi _ HW.out).mono ?_); rintro e w3 ⟨rfl, hb⟩; have HB3 := Lib.hid hb; have d0 := (HW.out.below hb).at' 0 (by rw [hn.out]; omega); rw [HX0.out] at d0; clear hb)
              | (go_at_call 31; (with_reducible refine (HPC.out _ (HA.out.below HB3.out) (HW.out.below HB3.out) (HL.out.below HB3.out)).mono ?_); rintro e w4 ⟨rfl, hb⟩; have HB4 := Lib.hid (HB3.out.trans (hb.mono HB3.out.size)); clear hb d0)
              | (go_at_call 32; (with_reducible refine (cword_ok a0 a1 a2 a3 a4 _ _ _ ((HA.out.below HB4.out).code.below ((Below.refl _ _).alloc (Nat.le_refl _) _)) HOK v HV).mono ?_); rintro e w5 ⟨rfl, hb⟩; have HB5 := Lib.hid ((HB4.out.alloc HB4.out.size _).trans (hb.mono (HB4.out.alloc HB4.out.size _).size)); clear hb))
            go_ret3
            exact ⟨rfl, HB5.out⟩
  · rw [hsl, if_pos rfl] at hh
    simp only [Prod.mk.injEq] at hh
    obtain ⟨⟨rfl, rfl⟩, rfl⟩ := hh
    have HSl := Lib.hid hsl
    clear hsl
    go_enter Tryz.func13, Tryz.ntmps13
    go_wp2_with (first
      | (go_at_call 28; (with_reducible refine (silent_is B c n ws hn (by omega) true HSl _ HW.out).mono ?_); rintro e w2 ⟨rfl, rfl⟩))
    go_ret3
    exact ⟨rfl, Below.refl _ _⟩
end Go.Proofs.YtaekccgcnlepaaaGreatDoor
