/-
  Uj as one.
-/
import Derived.Test.YtjkbfhojjjkgnaaDoorP12
namespace Go.Proofs.YtjkbfhojjjkgnaaDoor
open Go.ChangeShapes Go.WideShapes Go.ChangeAt Go.RowKit
set_option linter.unusedVariables false
set_option linter.unusedSimpArgs false
theorem ok_jmp (R : Nat) (h : R < 4096) : okB 4 0 0 0 (R : Int) = true := by
  unfold okB fitB
  simp [fA, fB, fC, fI, hiOf]
  omega
theorem ok_jz (R : Nat) (h : R < 4096) : okB 5 5 0 0 (R : Int) = true := by
  unfold okB fitB
  simp [fA, fB, fC, fI, hiOf]
  omega
set_option maxRecDepth 100000 in
set_option maxHeartbeats 8000000 in
theorem jumps_t (a0 u : Int) (g1 : -9223372036854775808 ≤ a0) (g2 : a0 ≤ 9223372036854775807) (u0 : 0 ≤ u) (u1 : u ≤ 4294967295) (vs vr : Value) (xa ya : Addr) (w : World) (hE : ErrsAt vs vr w) (hC : CodeAt (errC xa) (errC ya) w) :
    Calls Tryd.prog 8 #[.int .i64 a0, .int .u32 u, .bool true] w fun e w' => e = .returned (.bool true) ∧ Below w.heap.size w w' := by
  have HE := Lib.hid hE
  have HC := Lib.hid hC
  obtain ⟨R, hR, CT⟩ := number_natb a0 4096 4096 rfl (by decide) (by decide) g1 g2
  have CT' := Lib.hid CT
  have HOk := Lib.hid (ok_jmp R hR)
  obtain ⟨wd, hwd⟩ : ∃ wd, Hid (wordC 4 0 0 0 (R : Int) = wd) := ⟨_, Lib.hid rfl⟩
  have HP : Hid (PartsC wd 4 0 0 0 (R : Int) ∧ 0 ≤ wd ∧ wd ≤ 4294967295) := Lib.hid (by rw [← hwd.out]; exact partsC_of HOk.out)
  have HRl := Lib.hid hR
  clear hE hC CT g1 g2 hR
  go_enter Tryd.func8, Tryd.ntmps8
  go_upto_region 9 with (first
    | (go_at_call 10; (with_reducible refine (cfirst_is vs vr _ HE.out).mono ?_); rintro e w1 ⟨rfl, hb⟩; have B1 := Lib.hid hb; clear hb)
    | (go_at_call 18; (with_reducible refine (CT'.out _).mono ?_); rintro e w2 ⟨rfl, rfl⟩)
    | (go_at_call 25; (with_reducible refine (cword_ok 4 0 0 0 (R : Int) xa ya _ (HC.out.below (B1.out.alloc B1.out.size _)) HOk wd hwd).mono ?_); rintro e w2 ⟨rfl, hb⟩; have B2 := Lib.hid ((B1.out.alloc B1.out.size _).trans (hb.mono (Nat.le_trans B1.out.size (by simp)))); clear hb))
  go_upto_region 12 with (first
    | (go_at_call 20; (with_reducible refine (made17_is (some ⟨w2.heap.size, 0, none⟩) 1 1 [wd] (by decide) (Lib.hid rfl) vs vr _ (HE.out.below (B2.out.alloc B2.out.size _)) (ru_one _ _ _)).mono ?_); rintro e w3 ⟨mb, S, a, b, N, cb, x, W, W2, rfl, hm, hw⟩; have HM := Lib.hid (hm.over (B2.out.alloc B2.out.size _)); have HW := Lib.hid hw.out; clear hm hw))
  generalize hB : World.alloc w3 _ = wB
  have HMB : Hid (MemAt w wB mb S a b N cb 4 (upd (fun _ => false) 0 true) (fun _ => 0) W (upd (upd (fun _ => false) 0 true) 1 true) (fun _ => 0) W2 0 (.slice none 0 0) []) := Lib.hid (by rw [← hB]; exact HM.out.below ((Below.refl _ _).alloc (Nat.le_refl _) _))
  have HKB : Hid (KeyC wB w3.heap.size 2 0 0 0 1) := Lib.hid (by rw [← hB]; exact KeyC.new _ _ _ _ _ _ _)
  clear hB HM B1 B2
  have q0 := HKB.out.c0
  have q1 := HKB.out.c1
  have q2 := HKB.out.c2
  have q3 := HKB.out.c3
  have q4 := HKB.out.c4
  go_upto_region 13 with (refine wpList_store_mid (by rfl) _ _ _ (by rfl) wB.heap.size 0 domM (by rfl) (by rfl) (there_new wB _ _ zeroDom_size _) infoDom domM_one ?_)
  have HS := Lib.hid (CpAt.startM HMB.out)
  generalize hC2 : World.setCells (World.alloc wB _) _ _ _ = wC at HS ⊢
  clear hC2
  have c5 := HS.out.d.c 5 (by decide)
  have z5 := HS.out.d.fr 5
  go_upto_region 14 with fail
  have HS1 := Lib.hid (HS.out.set 5 (.int .u32 u) (by decide))
  generalize hD : World.setCell wC _ _ = wD at HS1 ⊢
  clear hD c5 z5 q0 q1 q2 q3 q4 HS
  have HDO : Hid (∀ w1 hits1 v1 E1, CpAt w w1 mb S a b N cb (upd (fun _ => false) 0 true) (fun _ => 0) W (upd (upd (fun _ => false) 0 true) 1 true) (fun _ => 0) W2 hits1 v1 E1 wB.heap.size (updD (updD fM 5 (.int .u32 u)) 8 (.int .u32 1)) → 0 ≤ hits1 → hits1 ≤ 0 + 1 → Calls Tryd.prog 42 #[.pointer (some ⟨mb, 0, none⟩), .pointer (some ⟨wB.heap.size, 0, none⟩), (Value.agg #[.int .i64 4, .int .i64 0, .int .i64 0, .int .i64 0, .int .i64 (R : Int)])] w1 fun e w' => e = .returned (.agg (evA 0 0 0)) ∧ CQ w w1 mb S a b N cb (upd (fun _ => false) 0 true) (fun _ => 0) W (upd (upd (fun _ => false) 0 true) 1 true) (fun _ => 0) W2 hits1 (hits1 + 1) v1 E1 wB.heap.size (updD (updD (updD fM 5 (.int .u32 u)) 8 (.int .u32 1)) 8 (.int .u32 R)) w') := Lib.hid (fun w1 hits1 v1 E1 h _ _ => (cdo_jmp (R : Int) (by omega) (by have := HRl.out; omega) w1 h).mono fun e w' ⟨h1, h2⟩ => ⟨h1, h2.more (by omega)⟩)
  have HG : Hid (updD fM 5 (.int .u32 u) 8 = .int .u32 0 ∧ updD fM 5 (.int .u32 u) 91 = .int .i64 2 ∧ updD fM 5 (.int .u32 u) 92 = .int .i64 0 ∧ updD fM 5 (.int .u32 u) 93 = .int .i64 0 ∧ updD fM 5 (.int .u32 u) 94 = .int .i64 0 ∧ updD fM 5 (.int .u32 u) 95 = .int .u32 1) := Lib.hid ⟨rfl, rfl, rfl, rfl, rfl, rfl⟩
  have HZ0 : Hid (W2 0 0 = wd) := Lib.hid (HW.out.p0 0 (by decide))
  have HWy := Lib.hid (way_to HW.out 0 0 0 (by decide) (by decide) rfl)
  have HBn : Hid (0 < b.n) := Lib.hid (by rw [HW.out.bn]; decide)
  have HLv := Lib.hid (live_to 0 (by decide))
  go_upto_region 15 with (first
    | (go_at_call 21; (with_reducible refine (cstep_do 2 0 0 0 1 0 0 (Lib.hid rfl) (by decide) [0] ((0 : Nat) : Int) ((0 : Nat) : Int) false 0 0 (Lib.hid ⟨rfl, rfl⟩) HBn.out (by decide) HLv wd HZ0 HP.out.2.1 HP.out.2.2 4 0 0 0 (R : Int) (Lib.hid HP.out.1) HOk HG.out.1 HG.out.2.1 HG.out.2.2.1 HG.out.2.2.2.1 HG.out.2.2.2.2.1 HG.out.2.2.2.2.2 (Lib.hid (by decide)) HWy xa ya HC.out 1 (Lib.hid (by decide)) (evA 0 0 0) 0 (by decide) (Lib.hid (evA_ok 0 0 0)) W2 _ HDO _ HS1.out).mono ?_); rintro e w5 ⟨rfl, hq⟩; have HQ := Lib.hid hq; clear hq)
    | (refine wpList_store_mid (by rfl) _ _ _ (by rfl) w5.heap.size 0 (evA 0 0 0) (by rfl) (by rfl) (there_new _ _ _ (by rfl) _) infoEv (evA_one _ _ _) ?_))
  generalize hE6 : World.setCells (World.alloc w5 _) _ _ _ = w6
  have R6 : Hid (w6.rangeAt w5.heap.size 0 (evA 0 0 0).toList) := Lib.hid (by rw [← hE6]; exact (evA_ok 0 0 0).stored (there_new _ _ _ rfl _))
  have HQ6 := Lib.hid (HQ.out.below (by rw [← hE6]; exact below_cells ((Below.refl _ _).alloc (Nat.le_refl _) _) (Nat.le_refl _) _ _ : Below w5.heap.size w5 w6))
  have e0 := (evA_ok 0 0 0).cell R6.out
  have d8 : w6.cell? ⟨wB.heap.size, 8, none⟩ = some (.int .u32 R) := HQ6.out.dom.c 8 (by decide)
  have d5 : w6.cell? ⟨wB.heap.size, 5, none⟩ = some (.int .u32 u) := HQ6.out.dom.c 5 (by decide)
  have hwr : IntKind.u32.wrap (R : Int) = R := by rw [IntKind.wrap_u32]; have := HRl.out; omega
  clear hE6
  go_wp2_with fail
  go_ret
  exact ⟨rfl, HQ6.out.bel0⟩
set_option maxRecDepth 100000 in
set_option maxHeartbeats 8000000 in
theorem jumps_0 (a0 u : Int) (hz : (u == 0) = true) (g1 : -9223372036854775808 ≤ a0) (g2 : a0 ≤ 9223372036854775807) (u0 : 0 ≤ u) (u1 : u ≤ 4294967295) (vs vr : Value) (xa ya : Addr) (w : World) (hE : ErrsAt vs vr w) (hC : CodeAt (errC xa) (errC ya) w) :
    Calls Tryd.prog 8 #[.int .i64 a0, .int .u32 u, .bool false] w fun e w' => e = .returned (.bool true) ∧ Below w.heap.size w w' := by
  have HE := Lib.hid hE
  have HC := Lib.hid hC
  obtain ⟨R, hR, CT⟩ := number_natb a0 4096 4096 rfl (by decide) (by decide) g1 g2
  have CT' := Lib.hid CT
  have HOk := Lib.hid (ok_jz R hR)
  obtain ⟨wd, hwd⟩ : ∃ wd, Hid (wordC 5 5 0 0 (R : Int) = wd) := ⟨_, Lib.hid rfl⟩
  have HP : Hid (PartsC wd 5 5 0 0 (R : Int) ∧ 0 ≤ wd ∧ wd ≤ 4294967295) := Lib.hid (by rw [← hwd.out]; exact partsC_of HOk.out)
  have HRl := Lib.hid hR
  clear hE hC CT g1 g2 hR
  go_enter Tryd.func8, Tryd.ntmps8
  go_upto_region 9 with (first
    | (go_at_call 10; (with_reducible refine (cfirst_is vs vr _ HE.out).mono ?_); rintro e w1 ⟨rfl, hb⟩; have B1 := Lib.hid hb; clear hb)
    | (go_at_call 18; (with_reducible refine (CT'.out _).mono ?_); rintro e w2 ⟨rfl, rfl⟩)
    | (go_at_call 25; (with_reducible refine (cword_ok 5 5 0 0 (R : Int) xa ya _ (HC.out.below (B1.out.alloc B1.out.size _)) HOk wd hwd).mono ?_); rintro e w2 ⟨rfl, hb⟩; have B2 := Lib.hid ((B1.out.alloc B1.out.size _).trans (hb.mono (Nat.le_trans B1.out.size (by simp)))); clear hb))
  go_upto_region 12 with (first
    | (go_at_call 20; (with_reducible refine (made17_is (some ⟨w2.heap.size, 0, none⟩) 1 1 [wd] (by decide) (Lib.hid rfl) vs vr _ (HE.out.below (B2.out.alloc B2.out.size _)) (ru_one _ _ _)).mono ?_); rintro e w3 ⟨mb, S, a, b, N, cb, x, W, W2, rfl, hm, hw⟩; have HM := Lib.hid (hm.over (B2.out.alloc B2.out.size _)); have HW := Lib.hid hw.out; clear hm hw))
  generalize hB : World.alloc w3 _ = wB
  have HMB : Hid (MemAt w wB mb S a b N cb 4 (upd (fun _ => false) 0 true) (fun _ => 0) W (upd (upd (fun _ => false) 0 true) 1 true) (fun _ => 0) W2 0 (.slice none 0 0) []) := Lib.hid (by rw [← hB]; exact HM.out.below ((Below.refl _ _).alloc (Nat.le_refl _) _))
  have HKB : Hid (KeyC wB w3.heap.size 2 0 0 0 1) := Lib.hid (by rw [← hB]; exact KeyC.new _ _ _ _ _ _ _)
  clear hB HM B1 B2
  have q0 := HKB.out.c0
  have q1 := HKB.out.c1
  have q2 := HKB.out.c2
  have q3 := HKB.out.c3
  have q4 := HKB.out.c4
  go_upto_region 13 with (refine wpList_store_mid (by rfl) _ _ _ (by rfl) wB.heap.size 0 domM (by rfl) (by rfl) (there_new wB _ _ zeroDom_size _) infoDom domM_one ?_)
  have HS := Lib.hid (CpAt.startM HMB.out)
  generalize hC2 : World.setCells (World.alloc wB _) _ _ _ = wC at HS ⊢
  clear hC2
  have c5 := HS.out.d.c 5 (by decide)
  have z5 := HS.out.d.fr 5
  go_upto_region 14 with fail
  have HS1 := Lib.hid (HS.out.set 5 (.int .u32 u) (by decide))
  generalize hD : World.setCell wC _ _ = wD at HS1 ⊢
  clear hD c5 z5 q0 q1 q2 q3 q4 HS
  have HDO : Hid (∀ w1 hits1 v1 E1, CpAt w w1 mb S a b N cb (upd (fun _ => false) 0 true) (fun _ => 0) W (upd (upd (fun _ => false) 0 true) 1 true) (fun _ => 0) W2 hits1 v1 E1 wB.heap.size (updD (updD fM 5 (.int .u32 u)) 8 (.int .u32 1)) → 0 ≤ hits1 → hits1 ≤ 0 + 1 → Calls Tryd.prog 42 #[.pointer (some ⟨mb, 0, none⟩), .pointer (some ⟨wB.heap.size, 0, none⟩), (Value.agg #[.int .i64 5, .int .i64 5, .int .i64 0, .int .i64 0, .int .i64 (R : Int)])] w1 fun e w' => e = .returned (.agg (evA 0 0 0)) ∧ CQ w w1 mb S a b N cb (upd (fun _ => false) 0 true) (fun _ => 0) W (upd (upd (fun _ => false) 0 true) 1 true) (fun _ => 0) W2 hits1 (hits1 + 1) v1 E1 wB.heap.size (updD (updD (updD fM 5 (.int .u32 u)) 8 (.int .u32 1)) 8 (.int .u32 R)) w') := Lib.hid (fun w1 hits1 v1 E1 h _ _ => (cdo_jz0 5 5 (Lib.hid rfl) (by decide) (R : Int) (by omega) (by have := HRl.out; omega) u rfl hz w1 h).mono fun e w' ⟨h1, h2⟩ => ⟨h1, h2.more (by omega)⟩)
  have HG : Hid (updD fM 5 (.int .u32 u) 8 = .int .u32 0 ∧ updD fM 5 (.int .u32 u) 91 = .int .i64 2 ∧ updD fM 5 (.int .u32 u) 92 = .int .i64 0 ∧ updD fM 5 (.int .u32 u) 93 = .int .i64 0 ∧ updD fM 5 (.int .u32 u) 94 = .int .i64 0 ∧ updD fM 5 (.int .u32 u) 95 = .int .u32 1) := Lib.hid ⟨rfl, rfl, rfl, rfl, rfl, rfl⟩
  have HZ0 : Hid (W2 0 0 = wd) := Lib.hid (HW.out.p0 0 (by decide))
  have HWy := Lib.hid (way_to HW.out 0 0 0 (by decide) (by decide) rfl)
  have HBn : Hid (0 < b.n) := Lib.hid (by rw [HW.out.bn]; decide)
  have HLv := Lib.hid (live_to 0 (by decide))
  go_upto_region 15 with (first
    | (go_at_call 21; (with_reducible refine (cstep_do 2 0 0 0 1 0 0 (Lib.hid rfl) (by decide) [0] ((0 : Nat) : Int) ((0 : Nat) : Int) false 0 0 (Lib.hid ⟨rfl, rfl⟩) HBn.out (by decide) HLv wd HZ0 HP.out.2.1 HP.out.2.2 5 5 0 0 (R : Int) (Lib.hid HP.out.1) HOk HG.out.1 HG.out.2.1 HG.out.2.2.1 HG.out.2.2.2.1 HG.out.2.2.2.2.1 HG.out.2.2.2.2.2 (Lib.hid (by decide)) HWy xa ya HC.out 1 (Lib.hid (by decide)) (evA 0 0 0) 0 (by decide) (Lib.hid (evA_ok 0 0 0)) W2 _ HDO _ HS1.out).mono ?_); rintro e w5 ⟨rfl, hq⟩; have HQ := Lib.hid hq; clear hq)
    | (refine wpList_store_mid (by rfl) _ _ _ (by rfl) w5.heap.size 0 (evA 0 0 0) (by rfl) (by rfl) (there_new _ _ _ (by rfl) _) infoEv (evA_one _ _ _) ?_))
  generalize hE6 : World.setCells (World.alloc w5 _) _ _ _ = w6
  have R6 : Hid (w6.rangeAt w5.heap.size 0 (evA 0 0 0).toList) := Lib.hid (by rw [← hE6]; exact (evA_ok 0 0 0).stored (there_new _ _ _ rfl _))
  have HQ6 := Lib.hid (HQ.out.below (by rw [← hE6]; exact below_cells ((Below.refl _ _).alloc (Nat.le_refl _) _) (Nat.le_refl _) _ _ : Below w5.heap.size w5 w6))
  have e0 := (evA_ok 0 0 0).cell R6.out
  have d8 : w6.cell? ⟨wB.heap.size, 8, none⟩ = some (.int .u32 R) := HQ6.out.dom.c 8 (by decide)
  have d5 : w6.cell? ⟨wB.heap.size, 5, none⟩ = some (.int .u32 u) := HQ6.out.dom.c 5 (by decide)
  have hwr : IntKind.u32.wrap (R : Int) = R := by rw [IntKind.wrap_u32]; have := HRl.out; omega
  clear hE6
  go_wp2_with fail
  go_ret
  exact ⟨rfl, HQ6.out.bel0⟩
set_option maxRecDepth 100000 in
set_option maxHeartbeats 8000000 in
theorem jumps_1 (a0 u : Int) (hz : (u == 0) = false) (g1 : -9223372036854775808 ≤ a0) (g2 : a0 ≤ 9223372036854775807) (u0 : 0 ≤ u) (u1 : u ≤ 4294967295) (vs vr : Value) (xa ya : Addr) (w : World) (hE : ErrsAt vs vr w) (hC : CodeAt (errC xa) (errC ya) w) :
    Calls Tryd.prog 8 #[.int .i64 a0, .int .u32 u, .bool false] w fun e w' => e = .returned (.bool true) ∧ Below w.heap.size w w' := by
  have HE := Lib.hid hE
  have HC := Lib.hid hC
  obtain ⟨R, hR, CT⟩ := number_natb a0 4096 4096 rfl (by decide) (by decide) g1 g2
  have CT' := Lib.hid CT
  have HOk := Lib.hid (ok_jz R hR)
  obtain ⟨wd, hwd⟩ : ∃ wd, Hid (wordC 5 5 0 0 (R : Int) = wd) := ⟨_, Lib.hid rfl⟩
  have HP : Hid (PartsC wd 5 5 0 0 (R : Int) ∧ 0 ≤ wd ∧ wd ≤ 4294967295) := Lib.hid (by rw [← hwd.out]; exact partsC_of HOk.out)
  have HRl := Lib.hid hR
  clear hE hC CT g1 g2 hR
  go_enter Tryd.func8, Tryd.ntmps8
  go_upto_region 9 with (first
    | (go_at_call 10; (with_reducible refine (cfirst_is vs vr _ HE.out).mono ?_); rintro e w1 ⟨rfl, hb⟩; have B1 := Lib.hid hb; clear hb)
    | (go_at_call 18; (with_reducible refine (CT'.out _).mono ?_); rintro e w2 ⟨rfl, rfl⟩)
    | (go_at_call 25; (with_reducible refine (cword_ok 5 5 0 0 (R : Int) xa ya _ (HC.out.below (B1.out.alloc B1.out.size _)) HOk wd hwd).mono ?_); rintro e w2 ⟨rfl, hb⟩; have B2 := Lib.hid ((B1.out.alloc B1.out.size _).trans (hb.mono (Nat.le_trans B1.out.size (by simp)))); clear hb))
  go_upto_region 12 with (first
    | (go_at_call 20; (with_reducible refine (made17_is (some ⟨w2.heap.size, 0, none⟩) 1 1 [wd] (by decide) (Lib.hid rfl) vs vr _ (HE.out.below (B2.out.alloc B2.out.size _)) (ru_one _ _ _)).mono ?_); rintro e w3 ⟨mb, S, a, b, N, cb, x, W, W2, rfl, hm, hw⟩; have HM := Lib.hid (hm.over (B2.out.alloc B2.out.size _)); have HW := Lib.hid hw.out; clear hm hw))
  generalize hB : World.alloc w3 _ = wB
  have HMB : Hid (MemAt w wB mb S a b N cb 4 (upd (fun _ => false) 0 true) (fun _ => 0) W (upd (upd (fun _ => false) 0 true) 1 true) (fun _ => 0) W2 0 (.slice none 0 0) []) := Lib.hid (by rw [← hB]; exact HM.out.below ((Below.refl _ _).alloc (Nat.le_refl _) _))
  have HKB : Hid (KeyC wB w3.heap.size 2 0 0 0 1) := Lib.hid (by rw [← hB]; exact KeyC.new _ _ _ _ _ _ _)
  clear hB HM B1 B2
  have q0 := HKB.out.c0
  have q1 := HKB.out.c1
  have q2 := HKB.out.c2
  have q3 := HKB.out.c3
  have q4 := HKB.out.c4
  go_upto_region 13 with (refine wpList_store_mid (by rfl) _ _ _ (by rfl) wB.heap.size 0 domM (by rfl) (by rfl) (there_new wB _ _ zeroDom_size _) infoDom domM_one ?_)
  have HS := Lib.hid (CpAt.startM HMB.out)
  generalize hC2 : World.setCells (World.alloc wB _) _ _ _ = wC at HS ⊢
  clear hC2
  have c5 := HS.out.d.c 5 (by decide)
  have z5 := HS.out.d.fr 5
  go_upto_region 14 with fail
  have HS1 := Lib.hid (HS.out.set 5 (.int .u32 u) (by decide))
  generalize hD : World.setCell wC _ _ = wD at HS1 ⊢
  clear hD c5 z5 q0 q1 q2 q3 q4 HS
  have HDO : Hid (∀ w1 hits1 v1 E1, CpAt w w1 mb S a b N cb (upd (fun _ => false) 0 true) (fun _ => 0) W (upd (upd (fun _ => false) 0 true) 1 true) (fun _ => 0) W2 hits1 v1 E1 wB.heap.size (updD (updD fM 5 (.int .u32 u)) 8 (.int .u32 1)) → 0 ≤ hits1 → hits1 ≤ 0 + 1 → Calls Tryd.prog 42 #[.pointer (some ⟨mb, 0, none⟩), .pointer (some ⟨wB.heap.size, 0, none⟩), (Value.agg #[.int .i64 5, .int .i64 5, .int .i64 0, .int .i64 0, .int .i64 (R : Int)])] w1 fun e w' => e = .returned (.agg (evA 0 0 0)) ∧ CQ w w1 mb S a b N cb (upd (fun _ => false) 0 true) (fun _ => 0) W (upd (upd (fun _ => false) 0 true) 1 true) (fun _ => 0) W2 hits1 (hits1 + 1) v1 E1 wB.heap.size (updD (updD fM 5 (.int .u32 u)) 8 (.int .u32 1)) w') := Lib.hid (fun w1 hits1 v1 E1 h _ _ => (cdo_jz1 5 5 (Lib.hid rfl) (by decide) (R : Int) (by omega) (by have := HRl.out; omega) u rfl hz w1 h).mono fun e w' ⟨h1, h2⟩ => ⟨h1, h2.more (by omega)⟩)
  have HG : Hid (updD fM 5 (.int .u32 u) 8 = .int .u32 0 ∧ updD fM 5 (.int .u32 u) 91 = .int .i64 2 ∧ updD fM 5 (.int .u32 u) 92 = .int .i64 0 ∧ updD fM 5 (.int .u32 u) 93 = .int .i64 0 ∧ updD fM 5 (.int .u32 u) 94 = .int .i64 0 ∧ updD fM 5 (.int .u32 u) 95 = .int .u32 1) := Lib.hid ⟨rfl, rfl, rfl, rfl, rfl, rfl⟩
  have HZ0 : Hid (W2 0 0 = wd) := Lib.hid (HW.out.p0 0 (by decide))
  have HWy := Lib.hid (way_to HW.out 0 0 0 (by decide) (by decide) rfl)
  have HBn : Hid (0 < b.n) := Lib.hid (by rw [HW.out.bn]; decide)
  have HLv := Lib.hid (live_to 0 (by decide))
  go_upto_region 15 with (first
    | (go_at_call 21; (with_reducible refine (cstep_do 2 0 0 0 1 0 0 (Lib.hid rfl) (by decide) [0] ((0 : Nat) : Int) ((0 : Nat) : Int) false 0 0 (Lib.hid ⟨rfl, rfl⟩) HBn.out (by decide) HLv wd HZ0 HP.out.2.1 HP.out.2.2 5 5 0 0 (R : Int) (Lib.hid HP.out.1) HOk HG.out.1 HG.out.2.1 HG.out.2.2.1 HG.out.2.2.2.1 HG.out.2.2.2.2.1 HG.out.2.2.2.2.2 (Lib.hid (by decide)) HWy xa ya HC.out 1 (Lib.hid (by decide)) (evA 0 0 0) 0 (by decide) (Lib.hid (evA_ok 0 0 0)) W2 _ HDO _ HS1.out).mono ?_); rintro e w5 ⟨rfl, hq⟩; have HQ := Lib.hid hq; clear hq)
    | (refine wpList_store_mid (by rfl) _ _ _ (by rfl) w5.heap.size 0 (evA 0 0 0) (by rfl) (by rfl) (there_new _ _ _ (by rfl) _) infoEv (evA_one _ _ _) ?_))
  generalize hE6 : World.setCells (World.alloc w5 _) _ _ _ = w6
  have R6 : Hid (w6.rangeAt w5.heap.size 0 (evA 0 0 0).toList) := Lib.hid (by rw [← hE6]; exact (evA_ok 0 0 0).stored (there_new _ _ _ rfl _))
  have HQ6 := Lib.hid (HQ.out.below (by rw [← hE6]; exact below_cells ((Below.refl _ _).alloc (Nat.le_refl _) _) (Nat.le_refl _) _ _ : Below w5.heap.size w5 w6))
  have e0 := (evA_ok 0 0 0).cell R6.out
  have d8 : w6.cell? ⟨wB.heap.size, 8, none⟩ = some (.int .u32 1) := HQ6.out.dom.c 8 (by decide)
  have d5 : w6.cell? ⟨wB.heap.size, 5, none⟩ = some (.int .u32 u) := HQ6.out.dom.c 5 (by decide)
  have hwr : IntKind.u32.wrap (R : Int) = R := by rw [IntKind.wrap_u32]; have := HRl.out; omega
  clear hE6
  go_wp2_with fail
  go_ret
  exact ⟨rfl, HQ6.out.bel0⟩
theorem walk_CpuJumps (a0 : Int) (a1 : Int) (a2 : Bool) (w : World) (w0 : (Lit.int .i64 a0).wf = true) (w1 : (Lit.int .u32 a1).wf = true) (hL : laidMetH Tryd.prog Rows.cpuJumpsRow.laid w) :
    Calls Tryd.prog 8 #[.int .i64 a0, .int .u32 a1, .bool a2] w fun e w' => e = .returned (.bool true) ∧ Below w.heap.size w w' := by
  rw [MakeChecks.laidMetH_plain _ _ _ (by kernel_rfl)] at hL
  obtain ⟨vs, vr, hE⟩ := (errs2 hL ⟨_, by repeat (first | exact List.Mem.head _ | apply List.Mem.tail)⟩ ⟨_, by repeat (first | exact List.Mem.head _ | apply List.Mem.tail)⟩)
  have hC := code_of hL ⟨_, by repeat (first | exact List.Mem.head _ | apply List.Mem.tail)⟩ ⟨_, by repeat (first | exact List.Mem.head _ | apply List.Mem.tail)⟩ (by repeat (first | exact List.Mem.head _ | apply List.Mem.tail))
  cases a2
  · cases hz : (a1 == 0)
    · exact jumps_1 a0 a1 hz (i64_fitC w0).1 (i64_fitC w0).2 (u32_fit w1).1 (u32_fit w1).2 vs vr _ _ w hE hC
    · exact jumps_0 a0 a1 hz (i64_fitC w0).1 (i64_fitC w0).2 (u32_fit w1).1 (u32_fit w1).2 vs vr _ _ w hE hC
  · exact jumps_t a0 a1 (i64_fitC w0).1 (i64_fitC w0).2 (u32_fit w1).1 (u32_fit w1).2 vs vr _ _ w hE hC
end Go.Proofs.YtjkbfhojjjkgnaaDoor
