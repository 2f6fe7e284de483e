/-
  package asm: parse, the words read: parse_4.
-/
import Derived.Test.YtaekccgcnlepaaaGreatDoorApS
namespace Go.Proofs.YtaekccgcnlepaaaGreatDoor
open Go.ChangeShapes Go.WideShapes Go.ChangeAt Go.RowKit
set_option linter.unusedVariables false
set_option linter.unusedSimpArgs false
set_option maxRecDepth 100000 in
set_option maxHeartbeats 4000000 in
theorem parse_4 {A : Nat → Addr} (B c n : Nat) (ws : List ByteArray) (hn : Hid (ws.length = n)) (hn1 : n ≤ 1000) (mo : Option Nat) (hop : Hid (opW ws = 4)) (vv : Nat → Int × Option Nat) (Pm : World → Prop) (hPm : ∀ W W', Pm W → Below W.heap.size W W' → Pm W')
    (hV : Hid (∀ j, j < (aWd.getD 4 []).length → ∀ W, AsmAt A W → Pm W → Calls Tryz.prog 56 #[.string (ws.getD (1 + j) ⟨#[]⟩), .int .i32 (((aWd.getD 4 []).getD j 0).toNat : Int), .map mo] W fun e w' => e = .returned (.tuple #[.int .i64 (vv j).1, erV A (vv j).2]) ∧ Below W.heap.size W w'))
    (x : (Int × Int × Int × Int × Int) × Option Nat) (hx : Hid (parseV 4 n vv = x)) (w : World) (hA : AsmAt A w) (hW : WsAt w B ws) (hP : Pm w)
    (Hc : Hid (n = 1 + (aWd.getD 4 []).length)) :
    Calls Tryz.prog 31 #[.slice (some ⟨B, 0, none⟩) n c, .map mo] w fun e w' => e = .returned (.tuple #[(.agg #[.int .i64 x.1.1, .int .i64 x.1.2.1, .int .i64 x.1.2.2.1, .int .i64 x.1.2.2.2.1, .int .i64 x.1.2.2.2.2]), erV A x.2]) ∧ Below w.heap.size w w' := by
  have HA := Lib.hid hA
  have HW := Lib.hid hW
  have HP := Lib.hid hP
  clear hA hW hP
  have hbz : Below w.heap.size w (w.alloc (.cells #[.int .i64 0, .int .i64 0, .int .i64 0, .int .i64 0, .int .i64 0] 62)) := (Below.refl _ _).alloc (Nat.le_refl _) _
  have HA0 := Lib.hid (HA.out.below hbz)
  have HW0 := Lib.hid (HW.out.below hbz)
  have HBZ := Lib.hid hbz
  clear hbz
  have HOF : Hid (Calls Tryz.prog 55 #[.slice (some ⟨B, 0, none⟩) n c] (w.alloc (.cells #[.int .i64 0, .int .i64 0, .int .i64 0, .int .i64 0, .int .i64 0] 62)) fun e w' => e = .returned (.int .i64 4) ∧ Below (w.alloc (.cells #[.int .i64 0, .int .i64 0, .int .i64 0, .int .i64 0, .int .i64 0] 62)).heap.size (w.alloc (.cells #[.int .i64 0, .int .i64 0, .int .i64 0, .int .i64 0, .int .i64 0] 62)) w') := Lib.hid (opof_is B c n ws hn (by omega) 4 hop _ HA0.out HW0.out)
  go_enter Tryz.func31, Tryz.ntmps31
  go_upto_region 2 with (first
    | (go_at_call 55; (with_reducible refine (HOF.out).mono ?_); rintro e w1 ⟨rfl, hb⟩; have HB1 := Lib.hid hb; clear hb))
  have HR1 := Lib.hid ((I5.new w 62 0 0 0 0 0).below HB1.out)
  have HA1 := Lib.hid (HA0.out.below HB1.out)
  have HBW := Lib.hid (HBZ.out.trans (HB1.out.mono HBZ.out.size))
  have hwd := HA1.out.wd 4 (by decide)
  obtain ⟨wd, hwdA⟩ : ∃ wd, wd = wdA 4 := ⟨_, rfl⟩
  rw [← hwdA] at hwd
  have hsz : wd.size = (aWd.getD 4 []).length := by rw [← ba_len, hwdA]; rfl
  have HWd : Hid (wd.data.toList = aWd.getD 4 []) := Lib.hid (by rw [hwdA]; rfl)
  have HLn := Lib.hid hsz
  have hm4 : wd.size ≤ 4 := by rw [hsz]; exact aWd_len ⟨4, by omega⟩
  clear hwdA hsz
  have HX : Hid (x = insV 4 (runV vv (aWd.getD 4 []) 0 ([], 0))) := Lib.hid (by
    rw [← hx.out]
    unfold parseV
    rw [if_neg (by rintro (e | e); cases e; exact e Hc.out)])
  have e1 : ((n : Int) != 1 + (wd.size : Int)) = false := by
    have := Hc.out
    rw [HLn.out, bne_eq_false_iff_eq]
    omega
  have hfl := HA1.out.fl
  have hs1 : w.heap.size < w1.heap.size := HR1.out.lt
  clear hx
  go_upto_region 9 with fail
  go_wp2_with fail
  have HS0 := Lib.hid (PS.start w w1 w.heap.size wd 4 62 105 (Nat.le_refl _) HR1.out HBW.out)
  obtain ⟨I, hI⟩ : ∃ I, I = w1.heap.size := ⟨_, rfl⟩
  obtain ⟨Fb, hFb⟩ : ∃ Fb, Fb = w1.heap.size + 1 := ⟨_, rfl⟩
  obtain ⟨It, hIt⟩ : ∃ It, It = w1.heap.size + 1 + 1 := ⟨_, rfl⟩
  rw [← hIt, ← hFb, ← hI] at HS0
  obtain ⟨ks, hks⟩ : ∃ ks, ks = aWd.getD 4 [] := ⟨_, rfl⟩
  have HKa : Hid (∀ k ∈ ks, k.toNat < 128) := Lib.hid (by rw [hks]; exact aWd_ascii ⟨4, by omega⟩)
  have HKk : Hid (∀ k ∈ ks, k = 110 ∨ k = 111 ∨ k = 114 ∨ k = 107 ∨ k = 109) := Lib.hid (by rw [hks]; exact aWd_kinds ⟨4, by omega⟩)
  have HKr : Hid ((ks.filter isR).length ≤ 3) := Lib.hid (by rw [hks]; exact aWd_regs ⟨4, by omega⟩)
  rw [← hks] at HX hV HWd HLn Hc
  clear hks hfl hs1 hwd
  try simp only [← hIt]
  try simp only [← hFb]
  try simp only [← hI]
  generalize hwi : World.iter _ wd 0 = w0
  rw [hwi] at HS0
  clear hwi hI hFb hIt
  go_loopw [8] (fun fs wr => ∃ (j : Nat) (r : List Int) (im : Int) (t : Nat) (a : Option Addr), j ≤ wd.size ∧ r.length = t ∧ fs = fsV Fb a t ∧ PS w wr w.heap.size I Fb It wd 4 j r im ∧ runV vv ks 0 ([], 0) = runV vv (ks.drop j) j (r, im) ∧ t = ((ks.take j).filter isR).length) (fun _ wr => wd.size - wr.iterPos It)
  case atStart => exact ⟨0, [], 0, 0, none, by omega, rfl, rfl, HS0.out, rfl, rfl⟩
  case round =>
    obtain ⟨j, r, im, t, a, hj, hr, hfs, hS, hrun, ht⟩ := hrel
    have HS := Lib.hid hS
    have HRun := Lib.hid hrun
    have HRl := Lib.hid hr
    have HTt := Lib.hid ht
    have HFs := Lib.hid hfs
    clear hr ht hfs hrun
    by_cases hlt : j < wd.size
    · have hjk : j < ks.length := by rw [← HLn.out]; exact hlt
      have hgk : ks.getD j 0 = wd[j]'hlt := by
        have := ba_get wd j hlt
        rw [HWd.out] at this
        simp [List.getD, this]
      have hmem : ks.getD j 0 ∈ ks := by simp [List.getD, hjk]
      have hK := HKk.out _ hmem
      have h128 : (wd[j]'hlt).toNat < 128 := by rw [← hgk]; exact HKa.out _ hmem
      have hnx : ∀ ty, (Instr.next (.pointer (some ⟨It, 0, none⟩)) true ty).run Tryz.prog wr = _ := fun ty => Lib.run_next_ascii_at wr It wd j ty hS.it hlt h128
      have hn2 := hS.next
      have HP2 : Hid (wd.size - (wr.iterAt It wd (j + 1)).iterPos It < wd.size - wr.iterPos It) := Lib.hid (by (simp only [World.iterPos, hS.it, hn2.it]; omega))
      obtain ⟨W, hWW⟩ : ∃ W, wr.iterAt It wd (j + 1) = W := ⟨_, rfl⟩
      rw [hWW] at hnx hn2 HP2
      rw [← hgk] at hnx
      have hcw := (HW.out.below hn2.bel).at' (1 + j) (by rw [hn.out, Hc.out]; omega)
      have HVj := hV.out j hjk W (HA.out.below hn2.bel) (hPm _ _ HP.out hn2.bel)
      obtain ⟨xw, hxw⟩ : ∃ xw, ws.getD (1 + j) ⟨#[]⟩ = xw := ⟨_, rfl⟩
      rw [hxw] at hcw HVj
      have HS2 := Lib.hid hn2
      have j0 : (0 : Int) ≤ (j : Int) := by omega
      have j1 : (1 : Int) + (j : Int) < (n : Int) := by have := Hc.out; rw [← HLn.out] at this; omega
      have HR0 := HRun.out
      rw [drop_at ks j hjk] at HR0
      obtain ⟨K, hKK⟩ : ∃ K, ks.getD j 0 = K := ⟨_, rfl⟩
      have HTk := regs_take ks j hjk
      have HTl := Nat.le_trans (regs_le ks (j + 1)) HKr.out
      rw [hKK] at HR0 hK hnx HVj HTk
      obtain ⟨v, hv⟩ : ∃ v, (vv j).1 = v := ⟨_, rfl⟩
      rw [hv] at HVj
      clear hS hn2 hWW hgk hmem h128 hjk hxw hKK
      cases ho : (vv j).2 with
      | some er =>
        have HE : Hid (x = ((0, 0, 0, 0, 0), some er)) := Lib.hid (by
          rw [HX.out, HR0]
          simp only [runV, ho, insV])
        rw [ho] at HVj
        obtain ⟨kz, hkz⟩ : ∃ kz : Int, ((K.toNat : Nat) : Int) = kz := ⟨_, rfl⟩
        rw [hkz] at HVj hnx
        have HVC := Lib.hid (show Calls Tryz.prog 56 #[.string xw, .int .i32 kz, .map mo] W fun e w' => e = .returned (.tuple #[.int .i64 v, errC (sA A er)]) ∧ Below W.heap.size W w' from HVj)
        clear HVj HR0 HTk HTl hK hkz
        go_wp2_with (first
          | (go_at_call 56; (with_reducible refine HVC.out.mono ?_); rintro e w2 ⟨rfl, hb⟩; have HS3 := Lib.hid (HS2.out.below hb); have r0 := HS3.out.rz.c0; have r1 := HS3.out.rz.c1; have r2 := HS3.out.rz.c2; have r3 := HS3.out.rz.c3; have r4 := HS3.out.rz.c4; have fz := HS3.out.rz.fz; clear hb hcw))
        have HI := HS3.out.rz.set5 0 0 0 0 0
        have q0 := HI.c0; have q1 := HI.c1; have q2 := HI.c2; have q3 := HI.c3; have q4 := HI.c4; refine bodyPost_ret (v := .tuple #[.agg #[.int .i64 0, .int .i64 0, .int .i64 0, .int .i64 0, .int .i64 0], erV A (some er)]) (by simp [results, Tryz.results31, go_sem, q0, q1, q2, q3, q4, erV]) rfl ⟨ret_pv HE.out, (bel5 HS3.out.bel (Nat.le_refl _))⟩
      | none =>
        rw [ho] at HVj
        rcases hK with rfl | rfl | hreg
        · have HE : Hid (runV vv ks 0 ([], 0) = runV vv (ks.drop (j + 1)) (j + 1) (r, v)) := Lib.hid (by
            rw [HR0]
            simp only [runV, ho, hv]
            rfl)
          have HT2 : Hid (t = ((ks.take (j + 1)).filter isR).length) := Lib.hid (by rw [HTk, ← HTt.out]; rfl)
          rw [show (((110 : UInt8).toNat : Nat) : Int) = 110 from rfl] at HVj hnx
          have HVC := Lib.hid (show Calls Tryz.prog 56 #[.string xw, .int .i32 110, .map mo] W fun e w' => e = .returned (.tuple #[.int .i64 v, .nilIface]) ∧ Below W.heap.size W w' from HVj)
          clear HVj HR0 HTk HTl hv ho
          go_wp2_with (first
            | (go_at_call 56; (with_reducible refine HVC.out.mono ?_); rintro e w2 ⟨rfl, hb⟩; have HS3 := Lib.hid (HS2.out.below hb); have q4 := HS3.out.ins.c4; have fz := HS3.out.ins.fz; clear hb hcw))
          have HS4 := HS3.out.set 4 v (HS3.out.ins.put.2.2.2.2 v)
          go_roundw
          case rel => exact ⟨j + 1, r, v, t, a, by omega, HRl.out, HFs.out, HS4, HE.out, HT2.out⟩
          case measure => have hp2 := HP2.out; simp only [World.iterPos, HS4.it, HS2.out.it] at hp2 ⊢; exact hp2
        · have HE : Hid (runV vv ks 0 ([], 0) = runV vv (ks.drop (j + 1)) (j + 1) (r, v)) := Lib.hid (by
            rw [HR0]
            simp only [runV, ho, hv]
            rfl)
          have HT2 : Hid (t = ((ks.take (j + 1)).filter isR).length) := Lib.hid (by rw [HTk, ← HTt.out]; rfl)
          rw [show (((111 : UInt8).toNat : Nat) : Int) = 111 from rfl] at HVj hnx
          have HVC := Lib.hid (show Calls Tryz.prog 56 #[.string xw, .int .i32 111, .map mo] W fun e w' => e = .returned (.tuple #[.int .i64 v, .nilIface]) ∧ Below W.heap.size W w' from HVj)
          clear HVj HR0 HTk HTl hv ho
          go_wp2_with (first
            | (go_at_call 56; (with_reducible refine HVC.out.mono ?_); rintro e w2 ⟨rfl, hb⟩; have HS3 := Lib.hid (HS2.out.below hb); have q4 := HS3.out.ins.c4; have fz := HS3.out.ins.fz; clear hb hcw))
          have HS4 := HS3.out.set 4 v (HS3.out.ins.put.2.2.2.2 v)
          go_roundw
          case rel => exact ⟨j + 1, r, v, t, a, by omega, HRl.out, HFs.out, HS4, HE.out, HT2.out⟩
          case measure => have hp2 := HP2.out; simp only [World.iterPos, HS4.it, HS2.out.it] at hp2 ⊢; exact hp2
        · have n110 : K ≠ 110 := by rcases hreg with rfl | rfl | rfl <;> decide
          have n111 : K ≠ 111 := by rcases hreg with rfl | rfl | rfl <;> decide
          have hisr : isR K = true := by rcases hreg with rfl | rfl | rfl <;> rfl
          have HEr : Hid (runV vv ks 0 ([], 0) = runV vv (ks.drop (j + 1)) (j + 1) (r ++ [v], im)) := Lib.hid (by
            rw [HR0]
            simp only [runV, ho, hv]
            rw [if_neg (by rintro (e | e); exact n110 e; exact n111 e)])
          rw [hisr, if_pos rfl, ← HTt.out] at HTk
          rw [HTk] at HTl
          have HT2 := Lib.hid HTk.symm
          obtain ⟨kz, hkz⟩ : ∃ kz : Int, ((K.toNat : Nat) : Int) = kz := ⟨_, rfl⟩
          have m110 : (kz == 110) = false := by
            rw [beq_eq_false_iff_ne, ← hkz]; intro e; exact n110 (UInt8.toNat_inj.1 (by rw [show (110 : UInt8).toNat = 110 from rfl]; omega))
          have m111 : (kz == 111) = false := by
            rw [beq_eq_false_iff_ne, ← hkz]; intro e; exact n111 (UInt8.toNat_inj.1 (by rw [show (111 : UInt8).toNat = 111 from rfl]; omega))
          rw [hkz] at HVj hnx
          have HVC := Lib.hid (show Calls Tryz.prog 56 #[.string xw, .int .i32 kz, .map mo] W fun e w' => e = .returned (.tuple #[.int .i64 v, .nilIface]) ∧ Below W.heap.size W w' from HVj)
          clear HVj HR0 HTk hv ho hkz hreg n110 n111 hisr
          rcases (show t = 0 ∨ t = 1 ∨ t = 2 by omega) with rfl | rfl | rfl
          · have HFF := HFs.out
            rw [show fsV Fb a 0 = .slice (some ⟨Fb, 0, none⟩) 3 3 from rfl] at HFF
            subst HFF
            have HE : Hid (runV vv ks 0 ([], 0) = runV vv (ks.drop (j + 1)) (j + 1) (r ++ [v], im)) := HEr
            go_wp2_with (first
              | (go_at_call 56; (with_reducible refine HVC.out.mono ?_); rintro e w2 ⟨rfl, hb⟩; have HS3 := Lib.hid (HS2.out.below hb); have qp := HS3.out.p0; have qc := HS3.out.ins.c1; have fz := HS3.out.ins.fz; clear hb hcw))
            have HS4 := HS3.out.reg v 0 HRl.out (by decide)
            go_roundw
            case rel => exact ⟨j + 1, r ++ [v], im, 1, a, by omega, by rw [List.length_append, HRl.out]; rfl, rfl, HS4, HE.out, HT2.out⟩
            case measure => have hp2 := HP2.out; simp only [World.iterPos, HS4.it, HS2.out.it] at hp2 ⊢; exact hp2
          · have HFF := HFs.out
            rw [show fsV Fb a 1 = .slice (some ⟨Fb, 1, none⟩) 2 2 from rfl] at HFF
            subst HFF
            have HE : Hid (runV vv ks 0 ([], 0) = runV vv (ks.drop (j + 1)) (j + 1) (r ++ [v], im)) := HEr
            go_wp2_with (first
              | (go_at_call 56; (with_reducible refine HVC.out.mono ?_); rintro e w2 ⟨rfl, hb⟩; have HS3 := Lib.hid (HS2.out.below hb); have qp := HS3.out.p1; have qc := HS3.out.ins.c2; have fz := HS3.out.ins.fz; clear hb hcw))
            have HS4 := HS3.out.reg v 1 HRl.out (by decide)
            go_roundw
            case rel => exact ⟨j + 1, r ++ [v], im, 2, a, by omega, by rw [List.length_append, HRl.out]; rfl, rfl, HS4, HE.out, HT2.out⟩
            case measure => have hp2 := HP2.out; simp only [World.iterPos, HS4.it, HS2.out.it] at hp2 ⊢; exact hp2
          · have HFF := HFs.out
            rw [show fsV Fb a 2 = .slice (some ⟨Fb, 2, none⟩) 1 1 from rfl] at HFF
            subst HFF
            have HE : Hid (runV vv ks 0 ([], 0) = runV vv (ks.drop (j + 1)) (j + 1) (r ++ [v], im)) := HEr
            go_wp2_with (first
              | (go_at_call 56; (with_reducible refine HVC.out.mono ?_); rintro e w2 ⟨rfl, hb⟩; have HS3 := Lib.hid (HS2.out.below hb); have qp := HS3.out.p2; have qc := HS3.out.ins.c3; have fz := HS3.out.ins.fz; clear hb hcw))
            have HS4 := HS3.out.reg v 2 HRl.out (by decide)
            go_roundw
            case rel => exact ⟨j + 1, r ++ [v], im, 3, (some ⟨Fb, 2, none⟩), by omega, by rw [List.length_append, HRl.out]; rfl, rfl, HS4, HE.out, HT2.out⟩
            case measure => have hp2 := HP2.out; simp only [World.iterPos, HS4.it, HS2.out.it] at hp2 ⊢; exact hp2
    · obtain rfl : j = wd.size := by omega
      have hnx : ∀ ty, (Instr.next (.pointer (some ⟨It, 0, none⟩)) true ty).run Tryz.prog wr = _ := fun ty => Lib.run_next_end_at wr It wd wd.size ty HS.out.it hlt
      have hd : ks.drop wd.size = [] := List.drop_of_length_le (by rw [← HLn.out]; exact Nat.le_refl _)
      have HRE : Hid (x = insV 4 ((r, im), none)) := Lib.hid (by
        rw [HX.out, HRun.out, hd]
        rfl)
      have HC := HA.out.code.below HS.out.bel
      obtain ⟨a1, ha1⟩ : ∃ a1, r.getD 0 0 = a1 := ⟨_, rfl⟩
      obtain ⟨a2, ha2⟩ : ∃ a2, r.getD 1 0 = a2 := ⟨_, rfl⟩
      obtain ⟨a3, ha3⟩ : ∃ a3, r.getD 2 0 = a3 := ⟨_, rfl⟩
      have hI5 := HS.out.ins
      rw [ha1, ha2, ha3] at hI5
      have c0 := hI5.c0
      have c1 := hI5.c1
      have c2 := hI5.c2
      have c3 := hI5.c3
      have c4 := hI5.c4
      have HE0 := HRE.out
      unfold insV at HE0
      simp only at HE0
      rw [ha1, ha2, ha3] at HE0
      rw [show ((4 : Nat) : Int) = 4 from rfl] at HE0
      clear hS hd ha1 ha2 ha3 hI5
      cases hok : okB 4 a1 a2 a3 im
      · rw [hok, if_neg (by simp)] at HE0
        have HE := Lib.hid HE0
        have HOK := Lib.hid hok
        have HZ : Hid ((if decide ((1 : Int) ≤ (4 : Int) ∧ (4 : Int) ≤ 13) = true then sA A 2 else sA A 10) = sA A 2) := Lib.hid (by rw [if_pos (by decide)])
        have HVL := Lib.hid (cvalid_no (4) a1 a2 a3 im (sA A 10) (sA A 2) (sA A 2) HZ (Lib.hid hok) wr HC)
        clear HE0 hok
        go_wp2_with (first
          | (go_at_call 44; (with_reducible refine HVL.out.mono ?_); rintro e w2 ⟨rfl, hb⟩; have HS3 := Lib.hid (HS.out.below hb); have r0 := HS3.out.rz.c0; have r1 := HS3.out.rz.c1; have r2 := HS3.out.rz.c2; have r3 := HS3.out.rz.c3; have r4 := HS3.out.rz.c4; have fz := HS3.out.rz.fz; clear hb c0 c1 c2 c3 c4))
        have HI := HS3.out.rz.set5 0 0 0 0 0
        have q0 := HI.c0; have q1 := HI.c1; have q2 := HI.c2; have q3 := HI.c3; have q4 := HI.c4; refine bodyPost_ret (v := .tuple #[.agg #[.int .i64 0, .int .i64 0, .int .i64 0, .int .i64 0, .int .i64 0], erV A (some 2)]) (by simp [results, Tryz.results31, go_sem, q0, q1, q2, q3, q4, erV]) rfl ⟨ret_pv HE.out, (bel5 HS3.out.bel (Nat.le_refl _))⟩
      · rw [hok, if_pos rfl] at HE0
        have HE := Lib.hid HE0
        have HVL := Lib.hid (cvalid_yes (4) a1 a2 a3 im _ _ (Lib.hid hok) wr HC)
        clear HE0 hok
        go_wp2_with (first
          | (go_at_call 44; (with_reducible refine HVL.out.mono ?_); rintro e w2 ⟨rfl, hb⟩; have HS3 := Lib.hid (HS.out.below hb); have r0 := HS3.out.rz.c0; have r1 := HS3.out.rz.c1; have r2 := HS3.out.rz.c2; have r3 := HS3.out.rz.c3; have r4 := HS3.out.rz.c4; have fz := HS3.out.rz.fz; have d0 := (hb.cell (p := ⟨I, 0, none⟩) HS.out.ins.lt).trans c0; have d1 := (hb.cell (p := ⟨I, 1, none⟩) HS.out.ins.lt).trans c1; have d2 := (hb.cell (p := ⟨I, 2, none⟩) HS.out.ins.lt).trans c2; have d3 := (hb.cell (p := ⟨I, 3, none⟩) HS.out.ins.lt).trans c3; have d4 := (hb.cell (p := ⟨I, 4, none⟩) HS.out.ins.lt).trans c4; clear hb c0 c1 c2 c3 c4))
        have HI := HS3.out.rz.set5 (4) a1 a2 a3 im
        have q0 := HI.c0; have q1 := HI.c1; have q2 := HI.c2; have q3 := HI.c3; have q4 := HI.c4; refine bodyPost_ret (v := .tuple #[.agg #[.int .i64 4, .int .i64 a1, .int .i64 a2, .int .i64 a3, .int .i64 im], erV A none]) (by simp [results, Tryz.results31, go_sem, q0, q1, q2, q3, q4, erV]) rfl ⟨ret_pv HE.out, (bel5 HS3.out.bel (Nat.le_refl _))⟩
end Go.Proofs.YtaekccgcnlepaaaGreatDoor
