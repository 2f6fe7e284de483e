/-
  Yi, Yj as one.
-/
import Derived.Test.YtncopdhhchmpeaaDoorP12
namespace Go.Proofs.YtncopdhhchmpeaaDoor
open Go.ChangeShapes Go.WideShapes Go.ChangeAt Go.RowKit
set_option linter.unusedVariables false
set_option linter.unusedSimpArgs false
theorem zsize : Tryd.zeroCells85.size = 107 := by kernel_rfl
theorem row_put (w2 : World) (b : Nat) (F : Nat → Value) (ht : w2.there b 0 107) (ho : ∀ j, j < 107 → (F j).oneCell' = true) : Sem.run Tryd.prog (storeCells ⟨b, 0, none⟩ (rowL F)) w2 = .ok () (w2.setCells b 0 (rowL F)) := by
  have h := run_storeCells_cells (P := Tryd.prog) b 0 (rowL F) 0 w2 (fun j hj => by rw [rowL_len] at hj; have := (ht j hj).1; simpa using this) (fun j hj => by rw [rowL_len] at hj; have := (ht j hj).2; simpa using this) (fun v hv => by obtain ⟨j, hj, rfl⟩ := List.mem_map.1 hv; exact ho j (by simpa using hj))
  simpa using h
theorem row_new (w2 : World) (F : Nat → Value) (ho : ∀ j, j < 107 → (F j).oneCell' = true) : Sem.run Tryd.prog (storeCells ⟨w2.heap.size, 0, none⟩ (rowL F)) (w2.alloc (.cells Tryd.zeroCells85 85 (0, 0))) = .ok () ((w2.alloc (.cells Tryd.zeroCells85 85 (0, 0))).setCells w2.heap.size 0 (rowL F)) := row_put _ _ F (dthere_new w2 Tryd.zeroCells85 107 zsize 85) ho
theorem there_below {w w2 : World} {b : Nat} (h : w.there b 0 107) (hb : Below w.heap.size w w2) (hl : b < w.heap.size) : w2.there b 0 107 := fun j hj => ⟨by rw [hb.cell (p := ⟨b, 0 + j, none⟩) hl]; exact (h j hj).1, by rw [hb.frozen (p := ⟨b, 0 + j, none⟩) hl]; exact (h j hj).2⟩
theorem there_drew {w : World} {b : Nat} (h : w.there b 0 107) : w.drew.there b 0 107 := fun j hj => ⟨by simpa using (h j hj).1, by simpa using (h j hj).2⟩
section
variable {s m d t b f q : Nat} {st : Int}
set_option maxRecDepth 100000 in
set_option maxHeartbeats 4000000 in
theorem swaits_yes (k1 k2 k3 k4 : Int) (dp : Nat) (F : Nat → Value) (hF : Hid (∀ j, j < 107 → (F j).oneCell' = true)) (hs9 : Hid (F 9 = .int .i64 2)) (hs106 : Hid (F 106 = .int .i64 k4)) (h40 : 0 ≤ k4) (h41 : k4 ≤ 536870911) (w : World) (hB : SyB w s m d t b f q st) (hP : w.cell? ⟨d, 0, none⟩ = some (.pointer (some ⟨dp, 0, none⟩)))
    (hG : ∀ W, Below w.heap.size w W → Calls Tryd.prog 13 #[.pointer (some ⟨d, 0, none⟩), .int .i64 k1] W fun e w' => e = .returned (.tuple #[.agg (rowL F).toArray, .bool true]) ∧ Below W.heap.size W w')
    (hV : ∀ W, Below w.heap.size w W → Calls Tryd.prog 44 #[.pointer (some ⟨dp, 0, none⟩), .int .i64 k1] W fun e w' => e = .returned (.int .i64 k2) ∧ W = w') :
    Calls Tryd.prog 47 #[.pointer (some ⟨s, 0, none⟩), .agg #[.int .i64 6, .int .i64 k1, .int .i64 k2, .int .i64 k3, .int .u32 k4]] w fun e w' => e = .returned (.bool true) ∧ Below w.heap.size w w' := by
  have HG := Lib.hid hG
  have HV := Lib.hid hV
  have HB := Lib.hid hB
  have HP := Lib.hid hP
  have HdL : Hid (d < w.heap.size) := Lib.hid (cell_lt hP)
  clear hG hB hP
  go_enter Tryd.func47, Tryd.ntmps47
  go_upto_region 1 with fail
  generalize hA : World.alloc w _ = wA
  obtain ⟨K, hK⟩ : ∃ K, K = w.heap.size := ⟨_, rfl⟩
  have HBa : Hid (Below w.heap.size w wA) := Lib.hid (by rw [← hA]; exact (Below.refl _ _).alloc (Nat.le_refl _) _)
  have HK0 : Hid (KeyC wA K 6 k1 k2 k3 k4) := Lib.hid (by rw [← hA, hK]; exact KeyC.new w 6 k1 k2 k3 k4 _)
  rw [← hK]
  clear hA hK
  go_cut [5, 6] (fun u o wx => ∃ bx : Nat, u = .pointer (some ⟨bx, 0, none⟩) ∧ o = .bool true ∧ Below w.heap.size w wx ∧ KeyC wx K 6 k1 k2 k3 k4 ∧ wx.rangeAt bx 0 (rowL F))
  case first =>
    have sc := ((HB.out.below HBa.out).c1)
    have kc1 := HK0.out.c1
    have HBd : Hid (Below wA.heap.size wA wA.drew) := Lib.hid (Below.refl _ _).drew
    have HBo : Hid (∀ o, Below wA.heap.size wA (wA.alloc o).drew) := Lib.hid (fun o => ((Below.refl _ _).alloc (Nat.le_refl _) o).drew)
    have scA : ∀ o, (wA.alloc o).cell? ⟨s, 1, none⟩ = some (.pointer (some ⟨d, 0, none⟩)) := fun o => ((HB.out.below HBa.out).below ((Below.refl wA.heap.size wA).alloc (Nat.le_refl _) o)).c1
    have kcA : ∀ o, (wA.alloc o).cell? ⟨K, 1, none⟩ = some (.int .i64 k1) := fun o => (HK0.out.below ((Below.refl wA.heap.size wA).alloc (Nat.le_refl _) o)).c1
    go_region_with (first | (go_at_call 13; (with_reducible refine (HG.out _ (HBa.out.trans (HBd.out.mono HBa.out.size))).mono ?_); rintro e w2 ⟨rfl, hb⟩; have HBB := Lib.hid hb; have hsN := row_new w2 F hF.out; clear hb) | (go_at_call 13; (with_reducible refine (HG.out _ (HBa.out.trans ((HBo.out _).mono HBa.out.size))).mono ?_); rintro e w2 ⟨rfl, hb⟩; have HBA := Lib.hid hb; have HTh := Lib.hid (there_below (there_drew (dthere_new wA Tryd.zeroCells85 107 zsize 85)) hb (by simp)); have hsN := row_put w2 wA.heap.size F HTh.out hF.out; clear hb))
    all_goals (go_wp2_with fail; go_meet; clear sc kc1 scA kcA)
    all_goals (first
      | (have hz : wA.heap.size ≤ w2.heap.size := HBB.out.size; have hb := dbelow_cells ((HBd.out.trans (HBB.out.mono (by simp))).alloc hz (.cells Tryd.zeroCells85 85 (0, 0))) hz (rowL F) 0; exact ⟨_, rfl, rfl, HBa.out.trans (hb.mono HBa.out.size), HK0.out.below hb, World.rangeAt_setCells_same _ _ 0 (rowL F) (by rw [rowL_len]; exact dthere_new _ _ 107 zsize _)⟩)
      | (have hb := dbelow_cells ((HBo.out _).trans (HBA.out.mono (by simp))) (Nat.le_refl _) (rowL F) 0; exact ⟨_, rfl, rfl, HBa.out.trans (hb.mono HBa.out.size), HK0.out.below hb, World.rangeAt_setCells_same _ _ 0 (rowL F) (by rw [rowL_len]; exact HTh.out)⟩))
  case rest =>
    obtain ⟨bx, rfl, rfl, hb, ky, hr⟩ := hcut
    have HC := Lib.hid hb
    have c9 := (range_at hr 9 (by decide)).trans (congrArg some hs9.out)
    have c106 := (range_at hr 106 (by decide)).trans (congrArg some hs106.out)
    have q1 := ky.c1
    have q2 := ky.c2
    have q4 := ky.c4
    have sc := (HB.out.below hb).c1
    have pc := (hb.cell (p := ⟨d, 0, none⟩) HdL.out).trans HP.out
    have HV9 := Lib.hid (fun n => HV.out _ (below_drewN hb n))
    have hk4 : IntKind.i64.wrap k4 = k4 := by rw [IntKind.wrap_i64]; omega
    clear hb ky hr
    go_wp2_with fail
    go_quiet ((go_at_call 44; exact kquiet_left (HV9.out _)))
    go_wp2_with fail
    go_ret
    exact ⟨rfl, below_drewN HC.out _⟩
set_option maxRecDepth 100000 in
set_option maxHeartbeats 4000000 in
theorem swaits_other (k1 k2 k3 k4 : Int) (dp : Nat) (F : Nat → Value) (hF : Hid (∀ j, j < 107 → (F j).oneCell' = true)) (hs9 : Hid (F 9 = .int .i64 2)) (wt : Int) (hs106 : Hid (F 106 = .int .i64 wt)) (hne : (wt == k4) = false) (h40 : 0 ≤ k4) (h41 : k4 ≤ 536870911) (w : World) (hB : SyB w s m d t b f q st) (hP : w.cell? ⟨d, 0, none⟩ = some (.pointer (some ⟨dp, 0, none⟩)))
    (hG : ∀ W, Below w.heap.size w W → Calls Tryd.prog 13 #[.pointer (some ⟨d, 0, none⟩), .int .i64 k1] W fun e w' => e = .returned (.tuple #[.agg (rowL F).toArray, .bool true]) ∧ Below W.heap.size W w')
    (hV : ∀ W, Below w.heap.size w W → Calls Tryd.prog 44 #[.pointer (some ⟨dp, 0, none⟩), .int .i64 k1] W fun e w' => e = .returned (.int .i64 k2) ∧ W = w') :
    Calls Tryd.prog 47 #[.pointer (some ⟨s, 0, none⟩), .agg #[.int .i64 6, .int .i64 k1, .int .i64 k2, .int .i64 k3, .int .u32 k4]] w fun e w' => e = .returned (.bool false) ∧ Below w.heap.size w w' := by
  have HG := Lib.hid hG
  have HV := Lib.hid hV
  have HB := Lib.hid hB
  have HP := Lib.hid hP
  have HdL : Hid (d < w.heap.size) := Lib.hid (cell_lt hP)
  clear hG hB hP
  go_enter Tryd.func47, Tryd.ntmps47
  go_upto_region 1 with fail
  generalize hA : World.alloc w _ = wA
  obtain ⟨K, hK⟩ : ∃ K, K = w.heap.size := ⟨_, rfl⟩
  have HBa : Hid (Below w.heap.size w wA) := Lib.hid (by rw [← hA]; exact (Below.refl _ _).alloc (Nat.le_refl _) _)
  have HK0 : Hid (KeyC wA K 6 k1 k2 k3 k4) := Lib.hid (by rw [← hA, hK]; exact KeyC.new w 6 k1 k2 k3 k4 _)
  rw [← hK]
  clear hA hK
  go_cut [5, 6] (fun u o wx => ∃ bx : Nat, u = .pointer (some ⟨bx, 0, none⟩) ∧ o = .bool true ∧ Below w.heap.size w wx ∧ KeyC wx K 6 k1 k2 k3 k4 ∧ wx.rangeAt bx 0 (rowL F))
  case first =>
    have sc := ((HB.out.below HBa.out).c1)
    have kc1 := HK0.out.c1
    have HBd : Hid (Below wA.heap.size wA wA.drew) := Lib.hid (Below.refl _ _).drew
    have HBo : Hid (∀ o, Below wA.heap.size wA (wA.alloc o).drew) := Lib.hid (fun o => ((Below.refl _ _).alloc (Nat.le_refl _) o).drew)
    have scA : ∀ o, (wA.alloc o).cell? ⟨s, 1, none⟩ = some (.pointer (some ⟨d, 0, none⟩)) := fun o => ((HB.out.below HBa.out).below ((Below.refl wA.heap.size wA).alloc (Nat.le_refl _) o)).c1
    have kcA : ∀ o, (wA.alloc o).cell? ⟨K, 1, none⟩ = some (.int .i64 k1) := fun o => (HK0.out.below ((Below.refl wA.heap.size wA).alloc (Nat.le_refl _) o)).c1
    go_region_with (first | (go_at_call 13; (with_reducible refine (HG.out _ (HBa.out.trans (HBd.out.mono HBa.out.size))).mono ?_); rintro e w2 ⟨rfl, hb⟩; have HBB := Lib.hid hb; have hsN := row_new w2 F hF.out; clear hb) | (go_at_call 13; (with_reducible refine (HG.out _ (HBa.out.trans ((HBo.out _).mono HBa.out.size))).mono ?_); rintro e w2 ⟨rfl, hb⟩; have HBA := Lib.hid hb; have HTh := Lib.hid (there_below (there_drew (dthere_new wA Tryd.zeroCells85 107 zsize 85)) hb (by simp)); have hsN := row_put w2 wA.heap.size F HTh.out hF.out; clear hb))
    all_goals (go_wp2_with fail; go_meet; clear sc kc1 scA kcA)
    all_goals (first
      | (have hz : wA.heap.size ≤ w2.heap.size := HBB.out.size; have hb := dbelow_cells ((HBd.out.trans (HBB.out.mono (by simp))).alloc hz (.cells Tryd.zeroCells85 85 (0, 0))) hz (rowL F) 0; exact ⟨_, rfl, rfl, HBa.out.trans (hb.mono HBa.out.size), HK0.out.below hb, World.rangeAt_setCells_same _ _ 0 (rowL F) (by rw [rowL_len]; exact dthere_new _ _ 107 zsize _)⟩)
      | (have hb := dbelow_cells ((HBo.out _).trans (HBA.out.mono (by simp))) (Nat.le_refl _) (rowL F) 0; exact ⟨_, rfl, rfl, HBa.out.trans (hb.mono HBa.out.size), HK0.out.below hb, World.rangeAt_setCells_same _ _ 0 (rowL F) (by rw [rowL_len]; exact HTh.out)⟩))
  case rest =>
    obtain ⟨bx, rfl, rfl, hb, ky, hr⟩ := hcut
    have HC := Lib.hid hb
    have c9 := (range_at hr 9 (by decide)).trans (congrArg some hs9.out)
    have c106 := (range_at hr 106 (by decide)).trans (congrArg some hs106.out)
    have q1 := ky.c1
    have q2 := ky.c2
    have q4 := ky.c4
    have sc := (HB.out.below hb).c1
    have pc := (hb.cell (p := ⟨d, 0, none⟩) HdL.out).trans HP.out
    have HV9 := Lib.hid (fun n => HV.out _ (below_drewN hb n))
    have hk4 : IntKind.i64.wrap k4 = k4 := by rw [IntKind.wrap_i64]; omega
    clear hb ky hr
    go_wp2_with fail
    go_quiet ((go_at_call 44; exact kquiet_left (HV9.out _)))
    go_wp2_with fail
    go_ret
    exact ⟨rfl, below_drewN HC.out _⟩
set_option maxRecDepth 100000 in
set_option maxHeartbeats 4000000 in
theorem swaits_state (k1 k2 k3 k4 : Int) (dp : Nat) (F : Nat → Value) (hF : Hid (∀ j, j < 107 → (F j).oneCell' = true)) (sv : Int) (hs9 : Hid (F 9 = .int .i64 sv)) (hne : (sv == 2) = false) (h40 : 0 ≤ k4) (h41 : k4 ≤ 536870911) (w : World) (hB : SyB w s m d t b f q st) (hP : w.cell? ⟨d, 0, none⟩ = some (.pointer (some ⟨dp, 0, none⟩)))
    (hG : ∀ W, Below w.heap.size w W → Calls Tryd.prog 13 #[.pointer (some ⟨d, 0, none⟩), .int .i64 k1] W fun e w' => e = .returned (.tuple #[.agg (rowL F).toArray, .bool true]) ∧ Below W.heap.size W w')
    (hV : ∀ W, Below w.heap.size w W → Calls Tryd.prog 44 #[.pointer (some ⟨dp, 0, none⟩), .int .i64 k1] W fun e w' => e = .returned (.int .i64 k2) ∧ W = w') :
    Calls Tryd.prog 47 #[.pointer (some ⟨s, 0, none⟩), .agg #[.int .i64 6, .int .i64 k1, .int .i64 k2, .int .i64 k3, .int .u32 k4]] w fun e w' => e = .returned (.bool false) ∧ Below w.heap.size w w' := by
  have HG := Lib.hid hG
  have HV := Lib.hid hV
  have HB := Lib.hid hB
  have HP := Lib.hid hP
  have HdL : Hid (d < w.heap.size) := Lib.hid (cell_lt hP)
  clear hG hB hP
  go_enter Tryd.func47, Tryd.ntmps47
  go_upto_region 1 with fail
  generalize hA : World.alloc w _ = wA
  obtain ⟨K, hK⟩ : ∃ K, K = w.heap.size := ⟨_, rfl⟩
  have HBa : Hid (Below w.heap.size w wA) := Lib.hid (by rw [← hA]; exact (Below.refl _ _).alloc (Nat.le_refl _) _)
  have HK0 : Hid (KeyC wA K 6 k1 k2 k3 k4) := Lib.hid (by rw [← hA, hK]; exact KeyC.new w 6 k1 k2 k3 k4 _)
  rw [← hK]
  clear hA hK
  go_cut [5, 6] (fun u o wx => ∃ bx : Nat, u = .pointer (some ⟨bx, 0, none⟩) ∧ o = .bool true ∧ Below w.heap.size w wx ∧ KeyC wx K 6 k1 k2 k3 k4 ∧ wx.rangeAt bx 0 (rowL F))
  case first =>
    have sc := ((HB.out.below HBa.out).c1)
    have kc1 := HK0.out.c1
    have HBd : Hid (Below wA.heap.size wA wA.drew) := Lib.hid (Below.refl _ _).drew
    have HBo : Hid (∀ o, Below wA.heap.size wA (wA.alloc o).drew) := Lib.hid (fun o => ((Below.refl _ _).alloc (Nat.le_refl _) o).drew)
    have scA : ∀ o, (wA.alloc o).cell? ⟨s, 1, none⟩ = some (.pointer (some ⟨d, 0, none⟩)) := fun o => ((HB.out.below HBa.out).below ((Below.refl wA.heap.size wA).alloc (Nat.le_refl _) o)).c1
    have kcA : ∀ o, (wA.alloc o).cell? ⟨K, 1, none⟩ = some (.int .i64 k1) := fun o => (HK0.out.below ((Below.refl wA.heap.size wA).alloc (Nat.le_refl _) o)).c1
    go_region_with (first | (go_at_call 13; (with_reducible refine (HG.out _ (HBa.out.trans (HBd.out.mono HBa.out.size))).mono ?_); rintro e w2 ⟨rfl, hb⟩; have HBB := Lib.hid hb; have hsN := row_new w2 F hF.out; clear hb) | (go_at_call 13; (with_reducible refine (HG.out _ (HBa.out.trans ((HBo.out _).mono HBa.out.size))).mono ?_); rintro e w2 ⟨rfl, hb⟩; have HBA := Lib.hid hb; have HTh := Lib.hid (there_below (there_drew (dthere_new wA Tryd.zeroCells85 107 zsize 85)) hb (by simp)); have hsN := row_put w2 wA.heap.size F HTh.out hF.out; clear hb))
    all_goals (go_wp2_with fail; go_meet; clear sc kc1 scA kcA)
    all_goals (first
      | (have hz : wA.heap.size ≤ w2.heap.size := HBB.out.size; have hb := dbelow_cells ((HBd.out.trans (HBB.out.mono (by simp))).alloc hz (.cells Tryd.zeroCells85 85 (0, 0))) hz (rowL F) 0; exact ⟨_, rfl, rfl, HBa.out.trans (hb.mono HBa.out.size), HK0.out.below hb, World.rangeAt_setCells_same _ _ 0 (rowL F) (by rw [rowL_len]; exact dthere_new _ _ 107 zsize _)⟩)
      | (have hb := dbelow_cells ((HBo.out _).trans (HBA.out.mono (by simp))) (Nat.le_refl _) (rowL F) 0; exact ⟨_, rfl, rfl, HBa.out.trans (hb.mono HBa.out.size), HK0.out.below hb, World.rangeAt_setCells_same _ _ 0 (rowL F) (by rw [rowL_len]; exact HTh.out)⟩))
  case rest =>
    obtain ⟨bx, rfl, rfl, hb, ky, hr⟩ := hcut
    have HC := Lib.hid hb
    have c9 := (range_at hr 9 (by decide)).trans (congrArg some hs9.out)
    have q1 := ky.c1
    have q2 := ky.c2
    have q4 := ky.c4
    have sc := (HB.out.below hb).c1
    have pc := (hb.cell (p := ⟨d, 0, none⟩) HdL.out).trans HP.out
    have HV9 := Lib.hid (fun n => HV.out _ (below_drewN hb n))
    have hk4 : IntKind.i64.wrap k4 = k4 := by rw [IntKind.wrap_i64]; omega
    clear hb ky hr
    go_wp2_with fail
    go_quiet ((go_at_call 44; exact kquiet_left (HV9.out _)))
    go_wp2_with fail
    go_ret
    exact ⟨rfl, below_drewN HC.out _⟩
set_option maxRecDepth 100000 in
set_option maxHeartbeats 4000000 in
theorem swaits_dead (k1 k2 k3 k4 : Int) (dp : Nat) (F : Nat → Value) (hF : Hid (∀ j, j < 107 → (F j).oneCell' = true)) (h40 : 0 ≤ k4) (h41 : k4 ≤ 536870911) (w : World) (hB : SyB w s m d t b f q st) (hP : w.cell? ⟨d, 0, none⟩ = some (.pointer (some ⟨dp, 0, none⟩)))
    (hG : ∀ W, Below w.heap.size w W → Calls Tryd.prog 13 #[.pointer (some ⟨d, 0, none⟩), .int .i64 k1] W fun e w' => e = .returned (.tuple #[.agg (rowL F).toArray, .bool false]) ∧ Below W.heap.size W w') :
    Calls Tryd.prog 47 #[.pointer (some ⟨s, 0, none⟩), .agg #[.int .i64 6, .int .i64 k1, .int .i64 k2, .int .i64 k3, .int .u32 k4]] w fun e w' => e = .returned (.bool false) ∧ Below w.heap.size w w' := by
  have HG := Lib.hid hG
  have HB := Lib.hid hB
  have HP := Lib.hid hP
  have HdL : Hid (d < w.heap.size) := Lib.hid (cell_lt hP)
  clear hG hB hP
  go_enter Tryd.func47, Tryd.ntmps47
  go_upto_region 1 with fail
  generalize hA : World.alloc w _ = wA
  obtain ⟨K, hK⟩ : ∃ K, K = w.heap.size := ⟨_, rfl⟩
  have HBa : Hid (Below w.heap.size w wA) := Lib.hid (by rw [← hA]; exact (Below.refl _ _).alloc (Nat.le_refl _) _)
  have HK0 : Hid (KeyC wA K 6 k1 k2 k3 k4) := Lib.hid (by rw [← hA, hK]; exact KeyC.new w 6 k1 k2 k3 k4 _)
  rw [← hK]
  clear hA hK
  go_cut [5, 6] (fun u o wx => ∃ bx : Nat, u = .pointer (some ⟨bx, 0, none⟩) ∧ o = .bool false ∧ Below w.heap.size w wx ∧ KeyC wx K 6 k1 k2 k3 k4 ∧ wx.rangeAt bx 0 (rowL F))
  case first =>
    have sc := ((HB.out.below HBa.out).c1)
    have kc1 := HK0.out.c1
    have HBd : Hid (Below wA.heap.size wA wA.drew) := Lib.hid (Below.refl _ _).drew
    have HBo : Hid (∀ o, Below wA.heap.size wA (wA.alloc o).drew) := Lib.hid (fun o => ((Below.refl _ _).alloc (Nat.le_refl _) o).drew)
    have scA : ∀ o, (wA.alloc o).cell? ⟨s, 1, none⟩ = some (.pointer (some ⟨d, 0, none⟩)) := fun o => ((HB.out.below HBa.out).below ((Below.refl wA.heap.size wA).alloc (Nat.le_refl _) o)).c1
    have kcA : ∀ o, (wA.alloc o).cell? ⟨K, 1, none⟩ = some (.int .i64 k1) := fun o => (HK0.out.below ((Below.refl wA.heap.size wA).alloc (Nat.le_refl _) o)).c1
    go_region_with (first | (go_at_call 13; (with_reducible refine (HG.out _ (HBa.out.trans (HBd.out.mono HBa.out.size))).mono ?_); rintro e w2 ⟨rfl, hb⟩; have HBB := Lib.hid hb; have hsN := row_new w2 F hF.out; clear hb) | (go_at_call 13; (with_reducible refine (HG.out _ (HBa.out.trans ((HBo.out _).mono HBa.out.size))).mono ?_); rintro e w2 ⟨rfl, hb⟩; have HBA := Lib.hid hb; have HTh := Lib.hid (there_below (there_drew (dthere_new wA Tryd.zeroCells85 107 zsize 85)) hb (by simp)); have hsN := row_put w2 wA.heap.size F HTh.out hF.out; clear hb))
    all_goals (go_wp2_with fail; go_meet; clear sc kc1 scA kcA)
    all_goals (first
      | (have hz : wA.heap.size ≤ w2.heap.size := HBB.out.size; have hb := dbelow_cells ((HBd.out.trans (HBB.out.mono (by simp))).alloc hz (.cells Tryd.zeroCells85 85 (0, 0))) hz (rowL F) 0; exact ⟨_, rfl, rfl, HBa.out.trans (hb.mono HBa.out.size), HK0.out.below hb, World.rangeAt_setCells_same _ _ 0 (rowL F) (by rw [rowL_len]; exact dthere_new _ _ 107 zsize _)⟩)
      | (have hb := dbelow_cells ((HBo.out _).trans (HBA.out.mono (by simp))) (Nat.le_refl _) (rowL F) 0; exact ⟨_, rfl, rfl, HBa.out.trans (hb.mono HBa.out.size), HK0.out.below hb, World.rangeAt_setCells_same _ _ 0 (rowL F) (by rw [rowL_len]; exact HTh.out)⟩))
  case rest =>
    obtain ⟨bx, rfl, rfl, hb, ky, hr⟩ := hcut
    have HC := Lib.hid hb
    have q1 := ky.c1
    have q2 := ky.c2
    have q4 := ky.c4
    have sc := (HB.out.below hb).c1
    have pc := (hb.cell (p := ⟨d, 0, none⟩) HdL.out).trans HP.out
    have hk4 : IntKind.i64.wrap k4 = k4 := by rw [IntKind.wrap_i64]; omega
    clear hb ky hr
    go_wp2_with fail
    go_quiet (fail)
    go_wp2_with fail
    go_ret
    exact ⟨rfl, below_drewN HC.out _⟩
set_option maxRecDepth 100000 in
set_option maxHeartbeats 4000000 in
theorem slive_resume (k1 k2 k3 k4 : Int) (r : Bool) (w : World) (hC : ∀ W, Below w.heap.size w W → Calls Tryd.prog 47 #[.pointer (some ⟨s, 0, none⟩), .agg #[.int .i64 6, .int .i64 k1, .int .i64 k2, .int .i64 k3, .int .u32 k4]] W fun e w' => e = .returned (.bool r) ∧ Below W.heap.size W w') :
    Calls Tryd.prog 18 #[.pointer (some ⟨s, 0, none⟩), .agg #[.int .i64 6, .int .i64 k1, .int .i64 k2, .int .i64 k3, .int .u32 k4]] w fun e w' => e = .returned (.bool r) ∧ Below w.heap.size w w' := by
  have HC := Lib.hid hC
  clear hC
  go_enter Tryd.func18, Tryd.ntmps18
  go_upto_region 1 with fail
  generalize hA : World.alloc w _ = wA
  obtain ⟨K, hK⟩ : ∃ K, K = w.heap.size := ⟨_, rfl⟩
  have HBa : Hid (Below w.heap.size w wA) := Lib.hid (by rw [← hA]; exact (Below.refl _ _).alloc (Nat.le_refl _) _)
  have HK0 : Hid (KeyC wA K 6 k1 k2 k3 k4) := Lib.hid (by rw [← hA, hK]; exact KeyC.new w 6 k1 k2 k3 k4 _)
  have kc0 := HK0.out.c0
  have kc1 := HK0.out.c1
  have kc2 := HK0.out.c2
  have kc3 := HK0.out.c3
  have kc4 := HK0.out.c4
  rw [← hK]
  clear hA hK
  go_wp2_with (first
    | (go_at_call 47; (with_reducible refine (HC.out _ HBa.out).mono ?_); rintro e w1 ⟨rfl, hb⟩; have HB1 := Lib.hid (HBa.out.trans (hb.mono HBa.out.size)); clear hb))
  go_ret
  exact ⟨rfl, HB1.out⟩
end
end Go.Proofs.YtncopdhhchmpeaaDoor
namespace Go.Proofs.YtncopdhhchmpeaaDoor
open Go.ChangeShapes Go.WideShapes Go.ChangeAt Go.RowKit
set_option linter.unusedVariables false
set_option linter.unusedSimpArgs false
theorem SyB.upt {w w' : World} {T s m d t b f q : Nat} {st : Int} (h : SyB w s m d t b f q st) (hu : UpT T w w') (hs : T ≤ s) : SyB w' s m d t b f q st := h.same hu.1 (hu.2 s hs h.lt)
theorem anyfullS (us lm : Nat → Int) (l : List Int) (n : Nat) (hl : ∀ z, z ∈ l → 0 ≤ z ∧ z < n) (h : ∀ i, i < n → us i < lm i) : l.any (fullB us lm) = false := by
  rw [List.any_eq_false]
  intro z hz
  have h1 := hl z hz
  have h2 := h z.toNat (by omega)
  simp [fullB]
  omega
theorem full1 {w0 w : World} {L : BLoc} (h : BW w0 w L (openedB st0 (-1) 10)) : (chL (openedB st0 (-1) 10).pr ((0 : Nat) : Int)).any (fullB (openedB st0 (-1) 10).us (openedB st0 (-1) 10).lm) = false :=
  anyfullS _ _ _ 1 (chL_in (n := 1) h.pk (Nat.le_refl _) (by decide) 0 (by decide)).1 (fun i hi => by
    have : i = 0 := by omega
    subst this
    simp [openedB, st0, upd])
theorem bdomain_x {w0 : World} {L : BLoc} {D : BSt} (x : Int) (q : Nat) (hx : Hid (x = (q : Int))) (hq : q < D.nb) (j : Nat) (v : Int) (hj : j < L.dn) (hyes : Hid (freeB D.dt D.dv j = true)) (hno : Hid (∀ i, i < j → freeB D.dt D.dv i = false)) (hv : Hid (D.dv j = v)) (hfull : Hid ((chL D.pr q).any (fullB D.us D.lm) = false)) (hu : Hid (∀ i, i < L.n → -1000000 ≤ D.us i ∧ D.us i ≤ 1000000)) (w : World) (h : BW w0 w L D) :
    Calls Tryd.prog 12 #[.pointer (some ⟨L.P, 0, none⟩), .int .i64 x] w fun e w' => e = .returned (.tuple #[.int .i64 j, .int .i64 v, .nilIface]) ∧ BW w0 w' L (boughtD D q j v) ∧ UpT L.T w w' := by
  rw [hx.out]; exact bdomain_ok q hq j v hj hyes hno hv hfull hu w h
theorem door_weak (w : World) : Calls Tryd.prog 67 #[.agg #[.int .i64 5, .int .i64 0, .int .i64 0, .int .i64 0, .int .u32 7]] w fun e w' => e = .returned (.agg #[.int .i64 0, .int .i64 0, .int .i64 0, .int .i64 0, .int .u32 0]) ∧ Below w.heap.size w w' := by
  go_enter Tryd.func67, Tryd.ntmps67
  go_wp2
  refine bodyPost_ret (v := .agg #[.int .i64 0, .int .i64 0, .int .i64 0, .int .i64 0, .int .u32 0]) (by simp [results, Tryd.results67, go_sem]) rfl ⟨rfl, ((Below.refl _ _).alloc (Nat.le_refl _) _).alloc (by simp) _⟩
theorem same_yes (k0 k1 k2 k3 k4 : Int) (w : World) : Calls Tryd.prog 19 #[(Value.agg #[.int .i64 k0, .int .i64 k1, .int .i64 k2, .int .i64 k3, .int .u32 k4]), (Value.agg #[.int .i64 k0, .int .i64 k1, .int .i64 k2, .int .i64 k3, .int .u32 k4])] w fun e w' => e = .returned (.bool true) ∧ Below w.heap.size w w' :=
  (samekey_any k0 k1 k2 k3 k4 k0 k1 k2 k3 k4 w).mono fun e w' ⟨h1, h2⟩ => ⟨by rw [h1]; simp [sameB], h2⟩
theorem same_void (k0 k1 k2 k3 k4 : Int) (hk : k0 ≠ 0) (w : World) : Calls Tryd.prog 19 #[.agg #[.int .i64 0, .int .i64 0, .int .i64 0, .int .i64 0, .int .u32 0], (Value.agg #[.int .i64 k0, .int .i64 k1, .int .i64 k2, .int .i64 k3, .int .u32 k4])] w fun e w' => e = .returned (.bool false) ∧ Below w.heap.size w w' :=
  (samekey_any 0 0 0 0 0 k0 k1 k2 k3 k4 w).mono fun e w' ⟨h1, h2⟩ => ⟨by
    have h : (0 == k0) = false := by rw [beq_eq_false_iff_ne]; omega
    rw [h1]
    simp [sameB, h], h2⟩
theorem _root_.Go.World.rangeAt.drewR {w : World} {b : Nat} {f : Nat → Value} (h : w.rangeAt b 0 (rowL f)) : w.drew.rangeAt b 0 (rowL f) := fun j v hv => by simpa using h j v hv
theorem dload_exec {ev : Operand → Value} {op : Oper} {b : Nat} {f : Nat → Value} {w : World} (x : Operand) (ho : op.op = .load 85 x) (hx : ev x = .pointer (some ⟨b, 0, none⟩)) (hr : w.rangeAt b 0 (rowL f)) : (execOp ev op).run Tryd.prog w = .ok (.value (.agg (rowL f).toArray)) w := by
  unfold execOp
  simp only [ho, hx, Instr.loadAt, Instr.sureAddr, Sem.run_bind, Sem.run_pure, Result.andThen_ok, dload hr]
theorem range_block {w w' : World} {b : Nat} {f : Nat → Value} (h : w.rangeAt b 0 (rowL f)) (hb : w'.heap[b]? = w.heap[b]?) : w'.rangeAt b 0 (rowL f) := fun j v hv => (World.cell?_of_block (a := ⟨b, 0 + j, none⟩) hb).trans (h j v hv)
theorem KeyC.five {w : World} {b : Nat} {k0 k1 k2 k3 k4 : Int} (h : KeyC w b k0 k1 k2 k3 k4) : (World.cell? w ⟨b, 0, none⟩ = some (.int .i64 k0) ∧ World.cell? w ⟨b, 1, none⟩ = some (.int .i64 k1) ∧ World.cell? w ⟨b, 2, none⟩ = some (.int .i64 k2) ∧ World.cell? w ⟨b, 3, none⟩ = some (.int .i64 k3) ∧ World.cell? w ⟨b, 4, none⟩ = some (.int .u32 k4)) := ⟨h.c0, h.c1, h.c2, h.c3, h.c4⟩
theorem kb5_below {x y : World} {b : Nat} {k0 k1 k2 k3 k4 : Int} (h : (World.cell? x ⟨b, 0, none⟩ = some (.int .i64 k0) ∧ World.cell? x ⟨b, 1, none⟩ = some (.int .i64 k1) ∧ World.cell? x ⟨b, 2, none⟩ = some (.int .i64 k2) ∧ World.cell? x ⟨b, 3, none⟩ = some (.int .i64 k3) ∧ World.cell? x ⟨b, 4, none⟩ = some (.int .u32 k4))) (hb : Below x.heap.size x y) : (World.cell? y ⟨b, 0, none⟩ = some (.int .i64 k0) ∧ World.cell? y ⟨b, 1, none⟩ = some (.int .i64 k1) ∧ World.cell? y ⟨b, 2, none⟩ = some (.int .i64 k2) ∧ World.cell? y ⟨b, 3, none⟩ = some (.int .i64 k3) ∧ World.cell? y ⟨b, 4, none⟩ = some (.int .u32 k4)) := by
  have hl : b < x.heap.size := cell_lt h.1
  exact ⟨(hb.cell (p := ⟨b, 0, none⟩) hl).trans h.1, (hb.cell (p := ⟨b, 1, none⟩) hl).trans h.2.1, (hb.cell (p := ⟨b, 2, none⟩) hl).trans h.2.2.1, (hb.cell (p := ⟨b, 3, none⟩) hl).trans h.2.2.2.1, (hb.cell (p := ⟨b, 4, none⟩) hl).trans h.2.2.2.2⟩
theorem kk15 {w x y : World} {ba bb bc : Nat} {v u : Int} (h : Below w.heap.size w x ∧ (World.cell? x ⟨ba, 0, none⟩ = some (.int .i64 5) ∧ World.cell? x ⟨ba, 1, none⟩ = some (.int .i64 0) ∧ World.cell? x ⟨ba, 2, none⟩ = some (.int .i64 0) ∧ World.cell? x ⟨ba, 3, none⟩ = some (.int .i64 0) ∧ World.cell? x ⟨ba, 4, none⟩ = some (.int .u32 7)) ∧ (World.cell? x ⟨bb, 0, none⟩ = some (.int .i64 6) ∧ World.cell? x ⟨bb, 1, none⟩ = some (.int .i64 0) ∧ World.cell? x ⟨bb, 2, none⟩ = some (.int .i64 0) ∧ World.cell? x ⟨bb, 3, none⟩ = some (.int .i64 0) ∧ World.cell? x ⟨bb, 4, none⟩ = some (.int .u32 v)) ∧ (World.cell? x ⟨bc, 0, none⟩ = some (.int .i64 6) ∧ World.cell? x ⟨bc, 1, none⟩ = some (.int .i64 0) ∧ World.cell? x ⟨bc, 2, none⟩ = some (.int .i64 0) ∧ World.cell? x ⟨bc, 3, none⟩ = some (.int .i64 0) ∧ World.cell? x ⟨bc, 4, none⟩ = some (.int .u32 u))) (hb : Below x.heap.size x y) : Below w.heap.size w y ∧ (World.cell? y ⟨ba, 0, none⟩ = some (.int .i64 5) ∧ World.cell? y ⟨ba, 1, none⟩ = some (.int .i64 0) ∧ World.cell? y ⟨ba, 2, none⟩ = some (.int .i64 0) ∧ World.cell? y ⟨ba, 3, none⟩ = some (.int .i64 0) ∧ World.cell? y ⟨ba, 4, none⟩ = some (.int .u32 7)) ∧ (World.cell? y ⟨bb, 0, none⟩ = some (.int .i64 6) ∧ World.cell? y ⟨bb, 1, none⟩ = some (.int .i64 0) ∧ World.cell? y ⟨bb, 2, none⟩ = some (.int .i64 0) ∧ World.cell? y ⟨bb, 3, none⟩ = some (.int .i64 0) ∧ World.cell? y ⟨bb, 4, none⟩ = some (.int .u32 v)) ∧ (World.cell? y ⟨bc, 0, none⟩ = some (.int .i64 6) ∧ World.cell? y ⟨bc, 1, none⟩ = some (.int .i64 0) ∧ World.cell? y ⟨bc, 2, none⟩ = some (.int .i64 0) ∧ World.cell? y ⟨bc, 3, none⟩ = some (.int .i64 0) ∧ World.cell? y ⟨bc, 4, none⟩ = some (.int .u32 u)) := ⟨h.1.trans (hb.mono h.1.size), kb5_below h.2.1 hb, kb5_below h.2.2.1 hb, kb5_below h.2.2.2 hb⟩
theorem aver_x21 {base p B n c : Nat} {th : Nat → Bool} {vr : Nat → Int} (x : Int) (k : Nat) (hx : Hid (x = (k : Int))) (hk : k < n) (v : Int) (hv : Hid (vr k = v)) (w : World) (hA : ArAt w base p B n c th vr) : Calls Tryd.prog 44 #[.pointer (some ⟨p, 0, none⟩), .int .i64 x] w fun e w' => e = .returned (.int .i64 v) ∧ w = w' := by
  rw [hx.out]; exact aver_in k hk v hv w hA
theorem BW.title3x {w0 w : World} {L : BLoc} {D : BSt} (h : BW w0 w L D) (j : Nat) (hj : j < 256) : TiAt w L 4 L.G3 j (D.o3 j) (D.v3 j) := ⟨.inr (.inr ⟨by decide, by decide, rfl⟩), h.kk.t3.lt.2, (h.kk.t3.ti j hj).1, (h.kk.t3.ti j hj).2⟩
theorem bgive_z {w0 : World} {L : BLoc} {D : BSt} {D2 : BSt} (k0 x : Int) (k1 : Nat) (hx : Hid (x = (k1 : Int))) (k2 k3 k4 : Int) (G q : Nat) (y : Int) (hy : Hid (y = (q : Int))) (hj2 : k1 < 256) (hq : q < D.nb) (ht : Hid (liveK L D k0 k1 k2 = true)) (h2 : Hid (D2.nb = D.nb ∧ D2.pr = D.pr ∧ D2.us = D.us)) (hu : Hid (∀ i, i < L.n → -1000000 ≤ D.us i ∧ D.us i ≤ 1000000)) (w : World) (h : BW w0 w L D) (hT : TiAt w L k0 G k1 q k2)
    (hgb : ∀ W, BW w0 W L D → Calls Tryd.prog 36 #[.pointer (some ⟨L.P, 0, none⟩), (Value.agg #[.int .i64 k0, .int .i64 k1, .int .i64 k2, .int .i64 k3, .int .u32 k4])] W fun e w' => e = .returned (.tuple #[]) ∧ BW w0 w' L D2 ∧ UpT L.T W w') :
    Calls Tryd.prog 16 #[.pointer (some ⟨L.P, 0, none⟩), .int .i64 y, (Value.agg #[.int .i64 k0, .int .i64 x, .int .i64 k2, .int .i64 k3, .int .u32 k4])] w fun e w' => e = .returned .nilIface ∧ BW w0 w' L { D2 with us := addL D.us (chL D.pr q) (-1) } ∧ UpT L.T w w' := by
  rw [hy.out, hx.out]; exact bgive_ok k0 k1 k2 k3 k4 G q hj2 hq ht h2 hu w h hT hgb
theorem d1_nb : (openedB st0 (-1) 10).nb = 1 := rfl
theorem s0_nb : st0.nb = 0 := rfl
theorem s0_nbI : ((st0.nb : Nat) : Int) = 0 := rfl
theorem d1_free : freeB (openedB st0 (-1) 10).dt (openedB st0 (-1) 10).dv 0 = true := rfl
theorem d1_v : (openedB st0 (-1) 10).dv 0 = 0 := rfl
theorem kk5 {w x y : World} {b : Nat} {k0 k1 k2 k3 k4 : Int} (h : Below w.heap.size w x ∧ (World.cell? x ⟨b, 0, none⟩ = some (.int .i64 k0) ∧ World.cell? x ⟨b, 1, none⟩ = some (.int .i64 k1) ∧ World.cell? x ⟨b, 2, none⟩ = some (.int .i64 k2) ∧ World.cell? x ⟨b, 3, none⟩ = some (.int .i64 k3) ∧ World.cell? x ⟨b, 4, none⟩ = some (.int .u32 k4))) (hb : Below x.heap.size x y) : Below w.heap.size w y ∧ (World.cell? y ⟨b, 0, none⟩ = some (.int .i64 k0) ∧ World.cell? y ⟨b, 1, none⟩ = some (.int .i64 k1) ∧ World.cell? y ⟨b, 2, none⟩ = some (.int .i64 k2) ∧ World.cell? y ⟨b, 3, none⟩ = some (.int .i64 k3) ∧ World.cell? y ⟨b, 4, none⟩ = some (.int .u32 k4)) := ⟨h.1.trans (hb.mono h.1.size), kb5_below h.2 hb⟩
set_option maxRecDepth 100000 in
set_option maxHeartbeats 1000000 in
theorem door_sens (w : World) : Calls Tryd.prog 49 #[.agg #[.int .i64 5, .int .i64 0, .int .i64 0, .int .i64 0, .int .u32 7]] w fun e w' => e = .returned (.bool false) ∧ Below w.heap.size w w' := by
  go_enter Tryd.func49, Tryd.ntmps49
  go_upto_region 1 with fail
  generalize hA : World.alloc w _ = wA
  obtain ⟨K, hK⟩ : ∃ K, K = w.heap.size := ⟨_, rfl⟩
  have HBa : Hid (Below w.heap.size w wA) := Lib.hid (by rw [← hA]; exact (Below.refl _ _).alloc (Nat.le_refl _) _)
  have HK0 : Hid (KeyC wA K 5 0 0 0 7) := Lib.hid (by rw [← hA, hK]; exact KeyC.new w 5 0 0 0 7 _)
  rw [← hK]
  clear hA hK
  have q0 := HK0.out.c0
  have q1 := HK0.out.c1
  have q2 := HK0.out.c2
  have q3 := HK0.out.c3
  have q4 := HK0.out.c4
  have ST := Lib.hid (⟨(Below.refl _ _).drew, (HK0.out.below (Below.refl _ _).drew).five⟩ : Below wA.heap.size wA wA.drew ∧ (World.cell? wA.drew ⟨K, 0, none⟩ = some (.int .i64 5) ∧ World.cell? wA.drew ⟨K, 1, none⟩ = some (.int .i64 0) ∧ World.cell? wA.drew ⟨K, 2, none⟩ = some (.int .i64 0) ∧ World.cell? wA.drew ⟨K, 3, none⟩ = some (.int .i64 0) ∧ World.cell? wA.drew ⟨K, 4, none⟩ = some (.int .u32 7)))
  go_region_held3 (fun w' => Below wA.heap.size wA w' ∧ (World.cell? w' ⟨K, 0, none⟩ = some (.int .i64 5) ∧ World.cell? w' ⟨K, 1, none⟩ = some (.int .i64 0) ∧ World.cell? w' ⟨K, 2, none⟩ = some (.int .i64 0) ∧ World.cell? w' ⟨K, 3, none⟩ = some (.int .i64 0) ∧ World.cell? w' ⟨K, 4, none⟩ = some (.int .u32 7))) (first | exact ST.out | exact kk5 (by assumption) hb) (first | (go_at_call 67; (with_reducible refine (door_weak _).mono ?_); rintro e w' ⟨rfl, hb⟩) | (go_at_call 19; (with_reducible refine (same_void 5 0 0 0 7 (by decide) _).mono ?_); rintro e w' ⟨rfl, hb⟩))
  go_wp2_with fail
  go_ret
  refine ⟨rfl, HBa.out.trans (Below.mono ?_ HBa.out.size)⟩
  apply And.left
  assumption
set_option maxRecDepth 100000 in
set_option maxHeartbeats 1000000 in
theorem door_auth (w : World) : Calls Tryd.prog 20 #[.agg #[.int .i64 5, .int .i64 0, .int .i64 0, .int .i64 0, .int .u32 7]] w fun e w' => e = .returned (.bool true) ∧ Below w.heap.size w w' := by
  go_enter Tryd.func20, Tryd.ntmps20
  go_upto_region 1 with fail
  generalize hA : World.alloc w _ = wA
  obtain ⟨K, hK⟩ : ∃ K, K = w.heap.size := ⟨_, rfl⟩
  have HBa : Hid (Below w.heap.size w wA) := Lib.hid (by rw [← hA]; exact (Below.refl _ _).alloc (Nat.le_refl _) _)
  have HK0 : Hid (KeyC wA K 5 0 0 0 7) := Lib.hid (by rw [← hA, hK]; exact KeyC.new w 5 0 0 0 7 _)
  rw [← hK]
  clear hA hK
  have q0 := HK0.out.c0
  have q1 := HK0.out.c1
  have q2 := HK0.out.c2
  have q3 := HK0.out.c3
  have q4 := HK0.out.c4
  go_wp2_with (first
    | (go_at_call 49; (with_reducible refine (door_sens _).mono ?_); rintro e w1 ⟨rfl, hb⟩; have HB1 := Lib.hid (HBa.out.trans (hb.mono HBa.out.size)); clear hb))
  go_ret
  exact ⟨rfl, HB1.out⟩
set_option maxRecDepth 100000 in
set_option maxHeartbeats 8000000 in
theorem doors_yes (a0 a1 : Int) (R M : Nat) (wt : Int) (hM : M < 50) (CR : Hid (∀ w, Calls Tryd.prog 14 #[.int .i64 a0, .int .i64 4] w fun e w' => e = .returned (.int .i64 1) ∧ w = w')) (CM : Hid (∀ w, Calls Tryd.prog 14 #[.int .i64 a1, .int .i64 50] w fun e w' => e = .returned (.int .i64 wt) ∧ w = w')) (hwt : Hid (wt = (M : Int))) (w : World) (vs vr : Value) (hE : ErrsAt vs vr w) :
    Calls Tryd.prog 4 #[.int .i64 a0, .int .i64 a1, .bool false] w fun e w' => e = .returned (.bool true) ∧ Below w.heap.size w w' := by
  have HE := Lib.hid hE
  have u1 : 0 ≤ wt := by have := hwt.out; omega
  have u2 : wt ≤ 536870911 := by have := hwt.out; omega
  have u3 : wt + 1 ≤ 536870911 := by have := hwt.out; omega
  have hw : IntKind.u32.wrap wt = wt := by rw [IntKind.wrap_u32]; omega
  have hw1 : IntKind.u32.wrap (wt + 1) = wt + 1 := by rw [IntKind.wrap_u32]; omega
  have hw2 : IntKind.i64.wrap (wt + 1) = wt + 1 := by rw [IntKind.wrap_i64]; omega
  have s1 : 1 ≤ (2 : Int) := by omega
  have s2 : (2 : Int) ≤ 4 := by omega
  clear hE hM
  go_enter Tryd.func4, Tryd.ntmps4
  go_upto_region 9 with (first
    | (go_at_call 5; (with_reducible refine (first21_is _).mono ?_); rintro e w1 ⟨rfl, hb1⟩; have HB1 := Lib.hid hb1; clear hb1)
    | (go_at_call 10; (with_reducible refine (script_ok _).mono ?_); rintro e w2 ⟨L, X, x, rfl, hs, hn, hb⟩; have HSy := Lib.hid hs; have HN := Lib.hid hn.out; have HB2 := Lib.hid (HB1.out.trans (hb.mono HB1.out.size)); have sc := hs.b.c3; clear hs hn hb)
    | (go_at_call 11; (with_reducible refine (bwroot_ok 10 (by decide) (by decide) 0 (Lib.hid s0_nbI) (by rw [s0_nb]; have := HN.out; omega) _ HSy.out.k).mono ?_); rintro e w3 ⟨rfl, hW, hu⟩; have HW3 := Lib.hid hW; have HS3 := Lib.hid (HSy.out.b.upt hu HSy.out.lo.1); clear sc; have sc := HS3.out.c3; have HFull := Lib.hid (full1 hW); have HU0 : Hid (∀ i, i < L.n → -1000000 ≤ (openedB st0 (-1) 10).us i ∧ (openedB st0 (-1) 10).us i ≤ 1000000) := Lib.hid (fun i _ => by simp [openedB, st0, upd]); clear hW hu)
    | (go_at_call 12; (with_reducible refine (bdomain_x 0 0 (Lib.hid z_castD) (by rw [d1_nb]; decide) 0 0 (by have := HN.out; omega) (Lib.hid d1_free) (Lib.hid (by intro i hi; omega)) (Lib.hid d1_v) HFull HU0 _ HW3.out).mono ?_); rintro e w4 ⟨rfl, hW, hu⟩; have HW4 := Lib.hid hW; have HS4 := Lib.hid (HS3.out.upt hu HSy.out.lo.1); clear sc; have sc := HS4.out.c1; clear hW hu))
  clear sc
  have sc := HS4.out.c1
  have HDm4 := Lib.hid HW4.out.d
  have HG4 := Lib.hid (dget_ok 0 0 (Lib.hid z_castD) (by have := HN.out; omega) (Lib.hid (by rfl)) zd1 (Lib.hid (fun j hj => updS_D1 _ 0 j hj)) (Lib.hid (fun j _ => zd1_one j)) w4 HDm4.out)
  go_upto_region 10 with (first
    | (go_at_call 13; (with_reducible refine HG4.out.mono ?_); rintro e w5 ⟨rfl, hb⟩; have HB5 := Lib.hid hb; clear hb)
    | (refine wpList_store_mid (by rfl) _ _ _ (by rfl) w5.heap.size 0 (rowL zd1).toArray (by rfl) (by rfl) (by rw [rowL_size]; exact dthere_new _ _ 107 (by rfl) _) (by rw [rowL_size]; exact infoDomS) (rowL_one zd1 (fun j _ => zd1_one j)) ?_))
  generalize hA : World.setCells _ w5.heap.size 0 _ = w6
  obtain ⟨xb, hxb⟩ : ∃ xb, xb = w5.heap.size := ⟨_, rfl⟩
  have HA : Hid (Below w5.heap.size w5 w6 ∧ w6.rangeAt xb 0 (rowL (fX 1 0)) ∧ xb < w6.heap.size ∧ (∀ j, w6.frozen? ⟨xb, j, none⟩ = false) ∧ w5.heap.size ≤ xb) := Lib.hid (by
    rw [← hA, hxb, fX_zd1]
    exact ⟨dbelow_cells ((Below.refl _ _).alloc (Nat.le_refl _) _) (Nat.le_refl _) _ _, World.rangeAt_setCells_same _ _ 0 (rowL zd1) (by rw [rowL_len]; exact dthere_new _ _ 107 (by rfl) _), by rw [dsize_cells]; simp, fun j => by rw [World.frozen?_setCells]; simp, Nat.le_refl _⟩)
  rw [← hxb]
  clear hA hxb sc
  have c9 := range_at HA.out.2.1 9 (by decide)
  have c106 := range_at HA.out.2.1 106 (by decide)
  have z9 := HA.out.2.2.2.1 9
  have z106 := HA.out.2.2.2.1 106
  go_upto_region 12 with (first
    | (go_at_call 14; (with_reducible refine (CR.out _).mono ?_); rintro e w7 ⟨rfl, rfl⟩)
    | (go_at_call 14; (with_reducible refine (CM.out _).mono ?_); rintro e w7 ⟨rfl, rfl⟩))
  generalize hA : World.setCell (World.setCell w6 _ _) _ _ = w7
  have HA7 : Hid (w7.rangeAt xb 0 (rowL (fX (2 : Int) wt)) ∧ Below w4.heap.size w4 w7 ∧ xb < w7.heap.size ∧ w4.heap.size ≤ xb) := Lib.hid (by
    have hz : w4.heap.size ≤ xb := Nat.le_trans HB5.out.size HA.out.2.2.2.2
    rw [← hA]; exact ⟨range_put HA.out.2.1, ((HB5.out.trans (HA.out.1.mono HB5.out.size)).setCell hz _).setCell hz _, by simpa using HA.out.2.2.1, hz⟩)
  clear hA c9 c106 z9 z106
  have HW7 := Lib.hid (HW4.out.below HA7.out.2.1)
  have HS7 := Lib.hid (HS4.out.below HA7.out.2.1)
  have HE7 := Lib.hid (HE.out.below (HB1.out.trans (HW7.out.bel.mono HB1.out.size)))
  have sc := HS7.out.c1
  obtain ⟨D0, HD0⟩ : ∃ D0, Hid (D0 = boughtD (openedB st0 (-1) 10) 0 0 0) := ⟨_, Lib.hid rfl⟩
  obtain ⟨wD, hwD⟩ : ∃ wD, wD = w7.drew := ⟨_, rfl⟩
  have HBd7 : Hid (Below w7.heap.size w7 wD) := Lib.hid (by rw [hwD]; exact (Below.refl _ _).drew)
  have HWd := Lib.hid (HW7.out.below HBd7.out)
  have HPut := Lib.hid (dput_ok 0 0 (Lib.hid z_castD) (by have := HN.out; omega) (Lib.hid (by rfl)) (fX (2 : Int) wt) (fun _ _ => 0) (Lib.hid (fun j _ => fX_one _ _ j)) (Lib.hid (fX_keys _ _)) (Lib.hid zero_right) (2 : Int) 0 wt (Lib.hid ⟨rfl, rfl, rfl⟩) s1 s2 (by decide) (by decide) u1 u2 vs vr wD (HE7.out.below HBd7.out) HWd.out.d)
  have HTx : Hid (L.T ≤ xb) := Lib.hid (Nat.le_trans HW4.out.tw HA7.out.2.2.2)
  refine wp_region_noPanic ?_
  refine wp_region_held_drew (S := fun w' => World.cell? w' ⟨X.s, 1, none⟩ = some (.pointer (some ⟨L.dP, 0, none⟩)) ∧ w'.rangeAt xb 0 (rowL (fX (2 : Int) wt))) (by kernel_rfl) (by rw [← hwD]; exact ⟨(HS7.out.below HBd7.out).c1, by rw [hwD]; exact HA7.out.1.drewR⟩) (fun hHeld => ?_)
  rw [← hwD] at hHeld ⊢
  clear hwD
  refine wpAnyH_take (i := 0) (v := ?_) (by rfl) (by kernel_rfl) (by kernel_rfl) (by kernel_rfl) (fun _ _ _ h => h) (Or.inl ⟨by kernel_rfl, ?_⟩) (by assumption) ?_; rotate_left 1; (focus (intro w hSw; (try dsimp only at hSw); simp only [List.getElem_toArray, List.getElem_cons_succ, List.getElem_cons_zero]; all_goals go_simp; all_goals (try with_reducible rfl))); (try simp only [Act.put, List.getElem_toArray, List.getElem_cons_succ, List.getElem_cons_zero, List.setIfInBounds_toArray, List.set_cons_zero, List.set_cons_succ])
  refine wpAnyH_take (i := 1) (v := ?_) (by rfl) (by kernel_rfl) (by kernel_rfl) (by kernel_rfl) (fun _ _ _ h => h) (Or.inl ⟨by kernel_rfl, ?_⟩) (by assumption) ?_; rotate_left 1; (focus (intro w hSw; (try dsimp only at hSw); simp only [List.getElem_toArray, List.getElem_cons_succ, List.getElem_cons_zero]; all_goals go_simp; all_goals (try with_reducible rfl))); (try simp only [Act.put, List.getElem_toArray, List.getElem_cons_succ, List.getElem_cons_zero, List.setIfInBounds_toArray, List.set_cons_zero, List.set_cons_succ])
  refine wpAnyH_take (i := 2) (v := ?_) (by rfl) (by kernel_rfl) (by kernel_rfl) (by kernel_rfl) (fun _ _ _ h => h) (Or.inl ⟨by kernel_rfl, ?_⟩) (by assumption) ?_; rotate_left 1; (focus (intro w hSw; (try dsimp only at hSw); simp only [List.getElem_toArray, List.getElem_cons_succ, List.getElem_cons_zero]; all_goals go_simp; all_goals (try with_reducible rfl))); (try simp only [Act.put, List.getElem_toArray, List.getElem_cons_succ, List.getElem_cons_zero, List.setIfInBounds_toArray, List.set_cons_zero, List.set_cons_succ])
  refine wpAnyH_take (i := 3) (v := ?_) (by rfl) (by kernel_rfl) (by kernel_rfl) (by kernel_rfl) (fun _ _ _ h => h) (Or.inl ⟨by kernel_rfl, ?_⟩) (by assumption) ?_; rotate_left 1; (focus (intro w hSw; (try dsimp only at hSw); simp only [List.getElem_toArray, List.getElem_cons_succ, List.getElem_cons_zero]; all_goals go_simp; all_goals (try with_reducible rfl))); (try simp only [Act.put, List.getElem_toArray, List.getElem_cons_succ, List.getElem_cons_zero, List.setIfInBounds_toArray, List.set_cons_zero, List.set_cons_succ])
  refine wpAnyH_take (i := 4) (v := .agg (rowL (fX (2 : Int) wt)).toArray) (by rfl) (by kernel_rfl) (by kernel_rfl) (by kernel_rfl) (fun _ _ _ h => h) (Or.inl ⟨by kernel_rfl, ?_⟩) (by assumption) ?_
  focus
    intro w hSw
    exact dload_exec (Operand.tmp 10) (by rfl) (by rfl) hSw.2
  (try simp only [Act.put, List.getElem_toArray, List.getElem_cons_succ, List.getElem_cons_zero, List.setIfInBounds_toArray, List.set_cons_zero, List.set_cons_succ])
  refine wpAnyH_ready (rs := [5]) (by kernel_rfl) (by simp) ?_; refine AllReadyH.cons (by rfl) (fun K hK => ?_) AllReadyH.nil; rw [if_pos (by kernel_rfl)]; simp only [List.getElem_toArray, List.getElem_cons_succ, List.getElem_cons_zero]
  go_wp2_with (first
    | (go_at_call 15; (with_reducible refine HPut.out.mono ?_); rintro e w8 ⟨rfl, hD, hb⟩; have HW8 := Lib.hid (HWd.out.doms hD hb); have HU8 : Hid (UpT L.T w7 w8) := Lib.hid ((UpT.below HBd7.out).trans (UpT.pb hb (by have h1 := HW7.out.db; have h2 := HW7.out.tt; omega) (by have h1 := HW7.out.db; have h2 := HW7.out.tt; omega))); clear hD hb))
  refine hK.out _ _ ⟨(HS7.out.upt HU8.out HSy.out.lo.1).c1, range_block HA7.out.1 (HU8.out.2 xb HTx.out HA7.out.2.2.1)⟩ (fun hHeld => ?_)
  clear hK K
  (try simp only [Act.put, List.getElem_toArray, List.getElem_cons_succ, List.getElem_cons_zero, List.setIfInBounds_toArray, List.set_cons_zero, List.set_cons_succ])
  refine wpAnyH_done (by kernel_rfl) ?_ _
  refine NoPanic.normal ?_
  clear sc HPut
  obtain ⟨D8, HD8⟩ : ∃ D8, Hid (D8 = { boughtD (openedB st0 (-1) 10) 0 0 0 with dW := updS (boughtD (openedB st0 (-1) 10) 0 0 0).dW 0 0 (rowL (fX (2 : Int) wt)) }) := ⟨_, Lib.hid rfl⟩
  have HW8 : Hid (BW w1 w8 L D8) := Lib.hid (by rw [HD8.out]; exact HW8.out)
  have HDt : Hid (D8.dt 0 = true ∧ D8.dv 0 = 0) := Lib.hid (by rw [HD8.out]; exact ⟨rfl, rfl⟩)
  have HDW : Hid (∀ j, j < 107 → D8.dW 0 j = fX (2 : Int) wt j) := Lib.hid (fun j hj => by rw [HD8.out]; exact updS_row _ 0 j _ hj)
  have HS8 := Lib.hid (HS7.out.upt HU8.out HSy.out.lo.1)
  have HX8 : Hid (w8.rangeAt xb 0 (rowL (fX (2 : Int) wt)) ∧ xb < w8.heap.size) := Lib.hid ⟨range_block HA7.out.1 (HU8.out.2 xb HTx.out HA7.out.2.2.1), Nat.lt_of_lt_of_le HA7.out.2.2.1 HU8.out.1⟩
  go_upto_region 14 with fail
  generalize ha : World.alloc w8 _ = w9; obtain ⟨ba, hba⟩ : ∃ ba, ba = w8.heap.size := ⟨_, rfl⟩; have HBa : Hid (Below w8.heap.size w8 w9) := Lib.hid (by rw [← ha]; exact (Below.refl _ _).alloc (Nat.le_refl _) _); have HKa : Hid (KeyC w9 ba 5 0 0 0 7) := Lib.hid (by rw [← ha, hba]; exact KeyC.new w8 5 0 0 0 7 _); have HLa : Hid (w8.heap.size ≤ ba) := Lib.hid (by rw [hba]; exact Nat.le_refl _); rw [← hba]; clear ha hba
  have c106 : w9.cell? ⟨xb, 106, none⟩ = some (.int .i64 wt) := (HBa.out.cell (p := ⟨xb, 106, none⟩) HX8.out.2).trans (range_at HX8.out.1 106 (by decide))
  go_upto_region 15 with fail
  generalize hb : World.alloc w9 _ = w10; obtain ⟨bb, hbb⟩ : ∃ bb, bb = w9.heap.size := ⟨_, rfl⟩; have HBb : Hid (Below w9.heap.size w9 w10) := Lib.hid (by rw [← hb]; exact (Below.refl _ _).alloc (Nat.le_refl _) _); have HKb : Hid (KeyC w10 bb 6 0 0 0 wt) := Lib.hid (by rw [← hb, hbb]; exact KeyC.new w9 6 0 0 0 wt _); have HLb : Hid (w9.heap.size ≤ bb) := Lib.hid (by rw [hbb]; exact Nat.le_refl _); rw [← hbb]; clear hb hbb
  have HB10 := Lib.hid (HBa.out.trans (HBb.out.mono HBa.out.size))
  clear c106
  have c106 : w10.cell? ⟨xb, 106, none⟩ = some (.int .i64 wt) := (HB10.out.cell (p := ⟨xb, 106, none⟩) HX8.out.2).trans (range_at HX8.out.1 106 (by decide))
  go_upto_region 16 with fail
  generalize hc : World.alloc w10 _ = w11; obtain ⟨bc, hbc⟩ : ∃ bc, bc = w10.heap.size := ⟨_, rfl⟩; have HBc : Hid (Below w10.heap.size w10 w11) := Lib.hid (by rw [← hc]; exact (Below.refl _ _).alloc (Nat.le_refl _) _); have HKc : Hid (KeyC w11 bc 6 0 0 0 (wt + 1)) := Lib.hid (by rw [← hc, hbc]; exact KeyC.new w10 6 0 0 0 (wt + 1) _); have HLc : Hid (w10.heap.size ≤ bc) := Lib.hid (by rw [hbc]; exact Nat.le_refl _); rw [← hbc]; clear hc hbc
  have HB11 := Lib.hid (HB10.out.trans (HBc.out.mono HB10.out.size))
  have HKa1 := Lib.hid ((HKa.out.below HBb.out).below HBc.out)
  have HKb1 := Lib.hid (HKb.out.below HBc.out)
  clear c106
  have c9 : w11.cell? ⟨xb, 9, none⟩ = some (.int .i64 (2 : Int)) := (HB11.out.cell (p := ⟨xb, 9, none⟩) HX8.out.2).trans (range_at HX8.out.1 9 (by decide))
  have HW11 := Lib.hid (HW8.out.below HB11.out)
  have HS11 := Lib.hid (HS8.out.below HB11.out)
  go_upto_region 19 with fail
  have HN0 : Hid (0 < L.dn) := Lib.hid (by have := HN.out; omega)
  have HT0 : Hid (D8.dt 0 = true) := Lib.hid HDt.out.1
  have HV0 : Hid (D8.dv 0 = 0) := Lib.hid HDt.out.2
  have HWW : Hid (∀ W, Below w11.heap.size w11 W → DMD W L D8 ∧ SyB W X.s L.mb L.dP X.tP L.P X.fP X.q 0) := Lib.hid (fun W hb => ⟨(HW11.out.below hb).d, HS11.out.below hb⟩)
  have HGe : Hid (∀ W, Below w11.heap.size w11 W → Calls Tryd.prog 13 #[.pointer (some ⟨L.dP, 0, none⟩), .int .i64 0] W fun e w' => e = .returned (.tuple #[.agg (rowL (fX (2 : Int) wt)).toArray, .bool true]) ∧ Below W.heap.size W w') := Lib.hid (fun W hb => dget_ok 0 0 (Lib.hid z_castD) HN0.out HT0 (fX (2 : Int) wt) HDW (Lib.hid (fun j _ => fX_one _ _ j)) W (HWW.out W hb).1)
  have HVe : Hid (∀ W, Below w11.heap.size w11 W → Calls Tryd.prog 44 #[.pointer (some ⟨L.dp, 0, none⟩), .int .i64 0] W fun e w' => e = .returned (.int .i64 0) ∧ W = w') := Lib.hid (fun W hb => aver_x21 0 0 (Lib.hid z_castD) HN0.out 0 HV0 W (HWW.out W hb).1.pl.ar)
  have HX9 : Hid (fX (2 : Int) wt 9 = .int .i64 (2 : Int)) := Lib.hid rfl
  have HX106 : Hid (fX (2 : Int) wt 106 = .int .i64 wt) := Lib.hid rfl
  have HFo : Hid (∀ j, j < 107 → (fX (2 : Int) wt j).oneCell' = true) := Lib.hid (fun j _ => fX_one _ _ j)
  have hne : (wt == wt + 1) = false := by rw [beq_eq_false_iff_ne]; omega
  have C1 : Hid (∀ W, Below w11.heap.size w11 W → Calls Tryd.prog 18 #[.pointer (some ⟨X.s, 0, none⟩), .agg #[.int .i64 5, .int .i64 0, .int .i64 0, .int .i64 0, .int .u32 7]] W fun e w' => e = .returned (.bool true) ∧ Below W.heap.size W w') := Lib.hid (fun W hb => slive_start (s := X.s) 0 0 0 7 L.dp L.dR L.dn L.dc L.dB D8.dt D8.dv true (Lib.hid (by have h1 := HT0.out; have h2 := HV0.out; have h3 := HN0.out; simp [thereB, h1, h2]; omega)) W (HWW.out W hb).2 (HWW.out W hb).1.pl.f0 (HWW.out W hb).1.pl.ar)
  have C2 : Hid (∀ W, Below w11.heap.size w11 W → Calls Tryd.prog 18 #[.pointer (some ⟨X.s, 0, none⟩), .agg #[.int .i64 6, .int .i64 0, .int .i64 0, .int .i64 0, .int .u32 wt]] W fun e w' => e = .returned (.bool true) ∧ Below W.heap.size W w') := Lib.hid (fun W hb => slive_resume 0 0 0 wt true W (fun V hV => swaits_yes 0 0 0 wt L.dp (fX 2 wt) HFo HX9 HX106 u1 u2 V (HWW.out V (hb.trans (hV.mono hb.size))).2 (HWW.out V (hb.trans (hV.mono hb.size))).1.pl.f0 (fun U hU => HGe.out U ((hb.trans (hV.mono hb.size)).trans (hU.mono (Nat.le_trans hb.size hV.size)))) (fun U hU => HVe.out U ((hb.trans (hV.mono hb.size)).trans (hU.mono (Nat.le_trans hb.size hV.size))))))
  have C3 : Hid (∀ W, Below w11.heap.size w11 W → Calls Tryd.prog 18 #[.pointer (some ⟨X.s, 0, none⟩), .agg #[.int .i64 6, .int .i64 0, .int .i64 0, .int .i64 0, .int .u32 (wt + 1)]] W fun e w' => e = .returned (.bool false) ∧ Below W.heap.size W w') := Lib.hid (fun W hb => slive_resume 0 0 0 (wt + 1) false W (fun V hV => swaits_other 0 0 0 (wt + 1) L.dp (fX 2 wt) HFo HX9 wt HX106 hne (by omega) u3 V (HWW.out V (hb.trans (hV.mono hb.size))).2 (HWW.out V (hb.trans (hV.mono hb.size))).1.pl.f0 (fun U hU => HGe.out U ((hb.trans (hV.mono hb.size)).trans (hU.mono (Nat.le_trans hb.size hV.size)))) (fun U hU => HVe.out U ((hb.trans (hV.mono hb.size)).trans (hU.mono (Nat.le_trans hb.size hV.size))))))
  have C4 : Hid (∀ W, Below w11.heap.size w11 W → Calls Tryd.prog 17 #[.pointer (some ⟨X.s, 0, none⟩), .int .i64 6, .int .i64 0] W fun e w' => e = .returned (.agg #[.int .i64 6, .int .i64 0, .int .i64 0, .int .i64 0, .int .u32 wt]) ∧ Below W.heap.size W w') := Lib.hid (fun W hb => skey_resume 0 6 0 0 0 wt W (HWW.out W hb).2 (fun V hV => dresume_yes 0 0 (Lib.hid z_castD) HN0.out HT0 wt (Lib.hid ⟨(HDW.out 9 (by decide)).trans HX9.out, (HDW.out 106 (by decide)).trans HX106.out⟩) u1 u2 0 HV0 V (HWW.out V (hb.trans (hV.mono hb.size))).1))
  have C5 := Lib.hid (same_yes 6 0 0 0 wt)

  clear hne
  have HAb : Hid (Below w11.heap.size w11 w11.drew ∧ (World.cell? w11.drew ⟨ba, 0, none⟩ = some (.int .i64 5) ∧ World.cell? w11.drew ⟨ba, 1, none⟩ = some (.int .i64 0) ∧ World.cell? w11.drew ⟨ba, 2, none⟩ = some (.int .i64 0) ∧ World.cell? w11.drew ⟨ba, 3, none⟩ = some (.int .i64 0) ∧ World.cell? w11.drew ⟨ba, 4, none⟩ = some (.int .u32 7)) ∧ (World.cell? w11.drew ⟨bb, 0, none⟩ = some (.int .i64 6) ∧ World.cell? w11.drew ⟨bb, 1, none⟩ = some (.int .i64 0) ∧ World.cell? w11.drew ⟨bb, 2, none⟩ = some (.int .i64 0) ∧ World.cell? w11.drew ⟨bb, 3, none⟩ = some (.int .i64 0) ∧ World.cell? w11.drew ⟨bb, 4, none⟩ = some (.int .u32 wt)) ∧ (World.cell? w11.drew ⟨bc, 0, none⟩ = some (.int .i64 6) ∧ World.cell? w11.drew ⟨bc, 1, none⟩ = some (.int .i64 0) ∧ World.cell? w11.drew ⟨bc, 2, none⟩ = some (.int .i64 0) ∧ World.cell? w11.drew ⟨bc, 3, none⟩ = some (.int .i64 0) ∧ World.cell? w11.drew ⟨bc, 4, none⟩ = some (.int .u32 (wt + 1)))) := Lib.hid (have hd : Below w11.heap.size w11 w11.drew := (Below.refl _ _).drew; ⟨hd, (HKa1.out.below hd).five, (HKb1.out.below hd).five, (HKc.out.below hd).five⟩)
  go_region_held3 (fun w' => Below w11.heap.size w11 w' ∧ (World.cell? w' ⟨ba, 0, none⟩ = some (.int .i64 5) ∧ World.cell? w' ⟨ba, 1, none⟩ = some (.int .i64 0) ∧ World.cell? w' ⟨ba, 2, none⟩ = some (.int .i64 0) ∧ World.cell? w' ⟨ba, 3, none⟩ = some (.int .i64 0) ∧ World.cell? w' ⟨ba, 4, none⟩ = some (.int .u32 7)) ∧ (World.cell? w' ⟨bb, 0, none⟩ = some (.int .i64 6) ∧ World.cell? w' ⟨bb, 1, none⟩ = some (.int .i64 0) ∧ World.cell? w' ⟨bb, 2, none⟩ = some (.int .i64 0) ∧ World.cell? w' ⟨bb, 3, none⟩ = some (.int .i64 0) ∧ World.cell? w' ⟨bb, 4, none⟩ = some (.int .u32 wt)) ∧ (World.cell? w' ⟨bc, 0, none⟩ = some (.int .i64 6) ∧ World.cell? w' ⟨bc, 1, none⟩ = some (.int .i64 0) ∧ World.cell? w' ⟨bc, 2, none⟩ = some (.int .i64 0) ∧ World.cell? w' ⟨bc, 3, none⟩ = some (.int .i64 0) ∧ World.cell? w' ⟨bc, 4, none⟩ = some (.int .u32 (wt + 1)))) (first | exact HAb.out | exact kk15 (by assumption) hb) (first
    | (go_at_call 18; (with_reducible refine (C1.out _ (And.left (by assumption))).mono ?_); rintro e w' ⟨rfl, hb⟩)
    | (go_at_call 18; (with_reducible refine (C2.out _ (And.left (by assumption))).mono ?_); rintro e w' ⟨rfl, hb⟩)
    | (go_at_call 18; (with_reducible refine (C3.out _ (And.left (by assumption))).mono ?_); rintro e w' ⟨rfl, hb⟩)
    | (go_at_call 17; (with_reducible refine (C4.out _ (And.left (by assumption))).mono ?_); rintro e w' ⟨rfl, hb⟩)
    | (go_at_call 19; (with_reducible refine (C5.out _).mono ?_); rintro e w' ⟨rfl, hb⟩)
    | (go_at_call 20; (with_reducible refine (door_auth _).mono ?_); rintro e w' ⟨rfl, hb⟩))
  go_wp2_with fail
  go_ret
  refine ⟨rfl, (HB1.out.trans (HW11.out.bel.mono HB1.out.size)).trans (Below.mono ?_ (Nat.le_trans HB1.out.size HW11.out.bel.size))⟩
  apply And.left
  assumption
set_option maxRecDepth 100000 in
set_option maxHeartbeats 8000000 in
theorem doors_no (a0 a1 : Int) (R M : Nat) (s wt : Int) (hs : Hid ((R : Int) + 1 = s)) (hR : R < 4) (hR1 : R ≠ 1) (hM : M < 50) (CR : Hid (∀ w, Calls Tryd.prog 14 #[.int .i64 a0, .int .i64 4] w fun e w' => e = .returned (.int .i64 (R : Int)) ∧ w = w')) (CM : Hid (∀ w, Calls Tryd.prog 14 #[.int .i64 a1, .int .i64 50] w fun e w' => e = .returned (.int .i64 wt) ∧ w = w')) (hwt : Hid (wt = (M : Int))) (w : World) (vs vr : Value) (hE : ErrsAt vs vr w) :
    Calls Tryd.prog 4 #[.int .i64 a0, .int .i64 a1, .bool false] w fun e w' => e = .returned (.bool true) ∧ Below w.heap.size w w' := by
  have HE := Lib.hid hE
  have u1 : 0 ≤ wt := by have := hwt.out; omega
  have u2 : wt ≤ 536870911 := by have := hwt.out; omega
  have u3 : wt + 1 ≤ 536870911 := by have := hwt.out; omega
  have hw : IntKind.u32.wrap wt = wt := by rw [IntKind.wrap_u32]; omega
  have hw1 : IntKind.u32.wrap (wt + 1) = wt + 1 := by rw [IntKind.wrap_u32]; omega
  have hw2 : IntKind.i64.wrap (wt + 1) = wt + 1 := by rw [IntKind.wrap_i64]; omega
  have s1 : 1 ≤ s := by have := hs.out; omega
  have s2 : s ≤ 4 := by have := hs.out; omega
  have hn1 : (R : Int) + 1 = s := hs.out
  have e2 : (s == 2) = false := by rw [beq_eq_false_iff_ne]; omega
  clear hE hM
  go_enter Tryd.func4, Tryd.ntmps4
  go_upto_region 9 with (first
    | (go_at_call 5; (with_reducible refine (first21_is _).mono ?_); rintro e w1 ⟨rfl, hb1⟩; have HB1 := Lib.hid hb1; clear hb1)
    | (go_at_call 10; (with_reducible refine (script_ok _).mono ?_); rintro e w2 ⟨L, X, x, rfl, hs, hn, hb⟩; have HSy := Lib.hid hs; have HN := Lib.hid hn.out; have HB2 := Lib.hid (HB1.out.trans (hb.mono HB1.out.size)); have sc := hs.b.c3; clear hs hn hb)
    | (go_at_call 11; (with_reducible refine (bwroot_ok 10 (by decide) (by decide) 0 (Lib.hid s0_nbI) (by rw [s0_nb]; have := HN.out; omega) _ HSy.out.k).mono ?_); rintro e w3 ⟨rfl, hW, hu⟩; have HW3 := Lib.hid hW; have HS3 := Lib.hid (HSy.out.b.upt hu HSy.out.lo.1); clear sc; have sc := HS3.out.c3; have HFull := Lib.hid (full1 hW); have HU0 : Hid (∀ i, i < L.n → -1000000 ≤ (openedB st0 (-1) 10).us i ∧ (openedB st0 (-1) 10).us i ≤ 1000000) := Lib.hid (fun i _ => by simp [openedB, st0, upd]); clear hW hu)
    | (go_at_call 12; (with_reducible refine (bdomain_x 0 0 (Lib.hid z_castD) (by rw [d1_nb]; decide) 0 0 (by have := HN.out; omega) (Lib.hid d1_free) (Lib.hid (by intro i hi; omega)) (Lib.hid d1_v) HFull HU0 _ HW3.out).mono ?_); rintro e w4 ⟨rfl, hW, hu⟩; have HW4 := Lib.hid hW; have HS4 := Lib.hid (HS3.out.upt hu HSy.out.lo.1); clear sc; have sc := HS4.out.c1; clear hW hu))
  clear sc
  have sc := HS4.out.c1
  have HDm4 := Lib.hid HW4.out.d
  have HG4 := Lib.hid (dget_ok 0 0 (Lib.hid z_castD) (by have := HN.out; omega) (Lib.hid (by rfl)) zd1 (Lib.hid (fun j hj => updS_D1 _ 0 j hj)) (Lib.hid (fun j _ => zd1_one j)) w4 HDm4.out)
  go_upto_region 10 with (first
    | (go_at_call 13; (with_reducible refine HG4.out.mono ?_); rintro e w5 ⟨rfl, hb⟩; have HB5 := Lib.hid hb; clear hb)
    | (refine wpList_store_mid (by rfl) _ _ _ (by rfl) w5.heap.size 0 (rowL zd1).toArray (by rfl) (by rfl) (by rw [rowL_size]; exact dthere_new _ _ 107 (by rfl) _) (by rw [rowL_size]; exact infoDomS) (rowL_one zd1 (fun j _ => zd1_one j)) ?_))
  generalize hA : World.setCells _ w5.heap.size 0 _ = w6
  obtain ⟨xb, hxb⟩ : ∃ xb, xb = w5.heap.size := ⟨_, rfl⟩
  have HA : Hid (Below w5.heap.size w5 w6 ∧ w6.rangeAt xb 0 (rowL (fX 1 0)) ∧ xb < w6.heap.size ∧ (∀ j, w6.frozen? ⟨xb, j, none⟩ = false) ∧ w5.heap.size ≤ xb) := Lib.hid (by
    rw [← hA, hxb, fX_zd1]
    exact ⟨dbelow_cells ((Below.refl _ _).alloc (Nat.le_refl _) _) (Nat.le_refl _) _ _, World.rangeAt_setCells_same _ _ 0 (rowL zd1) (by rw [rowL_len]; exact dthere_new _ _ 107 (by rfl) _), by rw [dsize_cells]; simp, fun j => by rw [World.frozen?_setCells]; simp, Nat.le_refl _⟩)
  rw [← hxb]
  clear hA hxb sc
  have c9 := range_at HA.out.2.1 9 (by decide)
  have c106 := range_at HA.out.2.1 106 (by decide)
  have z9 := HA.out.2.2.2.1 9
  have z106 := HA.out.2.2.2.1 106
  go_upto_region 12 with (first
    | (go_at_call 14; (with_reducible refine (CR.out _).mono ?_); rintro e w7 ⟨rfl, rfl⟩)
    | (go_at_call 14; (with_reducible refine (CM.out _).mono ?_); rintro e w7 ⟨rfl, rfl⟩))
  generalize hA : World.setCell (World.setCell w6 _ _) _ _ = w7
  have HA7 : Hid (w7.rangeAt xb 0 (rowL (fX s wt)) ∧ Below w4.heap.size w4 w7 ∧ xb < w7.heap.size ∧ w4.heap.size ≤ xb) := Lib.hid (by
    have hz : w4.heap.size ≤ xb := Nat.le_trans HB5.out.size HA.out.2.2.2.2
    rw [← hA]; exact ⟨range_put HA.out.2.1, ((HB5.out.trans (HA.out.1.mono HB5.out.size)).setCell hz _).setCell hz _, by simpa using HA.out.2.2.1, hz⟩)
  clear hA c9 c106 z9 z106
  have HW7 := Lib.hid (HW4.out.below HA7.out.2.1)
  have HS7 := Lib.hid (HS4.out.below HA7.out.2.1)
  have HE7 := Lib.hid (HE.out.below (HB1.out.trans (HW7.out.bel.mono HB1.out.size)))
  have sc := HS7.out.c1
  obtain ⟨D0, HD0⟩ : ∃ D0, Hid (D0 = boughtD (openedB st0 (-1) 10) 0 0 0) := ⟨_, Lib.hid rfl⟩
  obtain ⟨wD, hwD⟩ : ∃ wD, wD = w7.drew := ⟨_, rfl⟩
  have HBd7 : Hid (Below w7.heap.size w7 wD) := Lib.hid (by rw [hwD]; exact (Below.refl _ _).drew)
  have HWd := Lib.hid (HW7.out.below HBd7.out)
  have HPut := Lib.hid (dput_ok 0 0 (Lib.hid z_castD) (by have := HN.out; omega) (Lib.hid (by rfl)) (fX s wt) (fun _ _ => 0) (Lib.hid (fun j _ => fX_one _ _ j)) (Lib.hid (fX_keys _ _)) (Lib.hid zero_right) s 0 wt (Lib.hid ⟨rfl, rfl, rfl⟩) s1 s2 (by decide) (by decide) u1 u2 vs vr wD (HE7.out.below HBd7.out) HWd.out.d)
  have HTx : Hid (L.T ≤ xb) := Lib.hid (Nat.le_trans HW4.out.tw HA7.out.2.2.2)
  refine wp_region_noPanic ?_
  refine wp_region_held_drew (S := fun w' => World.cell? w' ⟨X.s, 1, none⟩ = some (.pointer (some ⟨L.dP, 0, none⟩)) ∧ w'.rangeAt xb 0 (rowL (fX s wt))) (by kernel_rfl) (by rw [← hwD]; exact ⟨(HS7.out.below HBd7.out).c1, by rw [hwD]; exact HA7.out.1.drewR⟩) (fun hHeld => ?_)
  rw [← hwD] at hHeld ⊢
  clear hwD
  refine wpAnyH_take (i := 0) (v := ?_) (by rfl) (by kernel_rfl) (by kernel_rfl) (by kernel_rfl) (fun _ _ _ h => h) (Or.inl ⟨by kernel_rfl, ?_⟩) (by assumption) ?_; rotate_left 1; (focus (intro w hSw; (try dsimp only at hSw); simp only [List.getElem_toArray, List.getElem_cons_succ, List.getElem_cons_zero]; all_goals go_simp; all_goals (try with_reducible rfl))); (try simp only [Act.put, List.getElem_toArray, List.getElem_cons_succ, List.getElem_cons_zero, List.setIfInBounds_toArray, List.set_cons_zero, List.set_cons_succ])
  refine wpAnyH_take (i := 1) (v := ?_) (by rfl) (by kernel_rfl) (by kernel_rfl) (by kernel_rfl) (fun _ _ _ h => h) (Or.inl ⟨by kernel_rfl, ?_⟩) (by assumption) ?_; rotate_left 1; (focus (intro w hSw; (try dsimp only at hSw); simp only [List.getElem_toArray, List.getElem_cons_succ, List.getElem_cons_zero]; all_goals go_simp; all_goals (try with_reducible rfl))); (try simp only [Act.put, List.getElem_toArray, List.getElem_cons_succ, List.getElem_cons_zero, List.setIfInBounds_toArray, List.set_cons_zero, List.set_cons_succ])
  refine wpAnyH_take (i := 2) (v := ?_) (by rfl) (by kernel_rfl) (by kernel_rfl) (by kernel_rfl) (fun _ _ _ h => h) (Or.inl ⟨by kernel_rfl, ?_⟩) (by assumption) ?_; rotate_left 1; (focus (intro w hSw; (try dsimp only at hSw); simp only [List.getElem_toArray, List.getElem_cons_succ, List.getElem_cons_zero]; all_goals go_simp; all_goals (try with_reducible rfl))); (try simp only [Act.put, List.getElem_toArray, List.getElem_cons_succ, List.getElem_cons_zero, List.setIfInBounds_toArray, List.set_cons_zero, List.set_cons_succ])
  refine wpAnyH_take (i := 3) (v := ?_) (by rfl) (by kernel_rfl) (by kernel_rfl) (by kernel_rfl) (fun _ _ _ h => h) (Or.inl ⟨by kernel_rfl, ?_⟩) (by assumption) ?_; rotate_left 1; (focus (intro w hSw; (try dsimp only at hSw); simp only [List.getElem_toArray, List.getElem_cons_succ, List.getElem_cons_zero]; all_goals go_simp; all_goals (try with_reducible rfl))); (try simp only [Act.put, List.getElem_toArray, List.getElem_cons_succ, List.getElem_cons_zero, List.setIfInBounds_toArray, List.set_cons_zero, List.set_cons_succ])
  refine wpAnyH_take (i := 4) (v := .agg (rowL (fX s wt)).toArray) (by rfl) (by kernel_rfl) (by kernel_rfl) (by kernel_rfl) (fun _ _ _ h => h) (Or.inl ⟨by kernel_rfl, ?_⟩) (by assumption) ?_
  focus
    intro w hSw
    exact dload_exec (Operand.tmp 10) (by rfl) (by rfl) hSw.2
  (try simp only [Act.put, List.getElem_toArray, List.getElem_cons_succ, List.getElem_cons_zero, List.setIfInBounds_toArray, List.set_cons_zero, List.set_cons_succ])
  refine wpAnyH_ready (rs := [5]) (by kernel_rfl) (by simp) ?_; refine AllReadyH.cons (by rfl) (fun K hK => ?_) AllReadyH.nil; rw [if_pos (by kernel_rfl)]; simp only [List.getElem_toArray, List.getElem_cons_succ, List.getElem_cons_zero]
  go_wp2_with (first
    | (go_at_call 15; (with_reducible refine HPut.out.mono ?_); rintro e w8 ⟨rfl, hD, hb⟩; have HW8 := Lib.hid (HWd.out.doms hD hb); have HU8 : Hid (UpT L.T w7 w8) := Lib.hid ((UpT.below HBd7.out).trans (UpT.pb hb (by have h1 := HW7.out.db; have h2 := HW7.out.tt; omega) (by have h1 := HW7.out.db; have h2 := HW7.out.tt; omega))); clear hD hb))
  refine hK.out _ _ ⟨(HS7.out.upt HU8.out HSy.out.lo.1).c1, range_block HA7.out.1 (HU8.out.2 xb HTx.out HA7.out.2.2.1)⟩ (fun hHeld => ?_)
  clear hK K
  (try simp only [Act.put, List.getElem_toArray, List.getElem_cons_succ, List.getElem_cons_zero, List.setIfInBounds_toArray, List.set_cons_zero, List.set_cons_succ])
  refine wpAnyH_done (by kernel_rfl) ?_ _
  refine NoPanic.normal ?_
  clear sc HPut
  obtain ⟨D8, HD8⟩ : ∃ D8, Hid (D8 = { boughtD (openedB st0 (-1) 10) 0 0 0 with dW := updS (boughtD (openedB st0 (-1) 10) 0 0 0).dW 0 0 (rowL (fX s wt)) }) := ⟨_, Lib.hid rfl⟩
  have HW8 : Hid (BW w1 w8 L D8) := Lib.hid (by rw [HD8.out]; exact HW8.out)
  have HDt : Hid (D8.dt 0 = true ∧ D8.dv 0 = 0) := Lib.hid (by rw [HD8.out]; exact ⟨rfl, rfl⟩)
  have HDW : Hid (∀ j, j < 107 → D8.dW 0 j = fX s wt j) := Lib.hid (fun j hj => by rw [HD8.out]; exact updS_row _ 0 j _ hj)
  have HS8 := Lib.hid (HS7.out.upt HU8.out HSy.out.lo.1)
  have HX8 : Hid (w8.rangeAt xb 0 (rowL (fX s wt)) ∧ xb < w8.heap.size) := Lib.hid ⟨range_block HA7.out.1 (HU8.out.2 xb HTx.out HA7.out.2.2.1), Nat.lt_of_lt_of_le HA7.out.2.2.1 HU8.out.1⟩
  go_upto_region 14 with fail
  generalize ha : World.alloc w8 _ = w9; obtain ⟨ba, hba⟩ : ∃ ba, ba = w8.heap.size := ⟨_, rfl⟩; have HBa : Hid (Below w8.heap.size w8 w9) := Lib.hid (by rw [← ha]; exact (Below.refl _ _).alloc (Nat.le_refl _) _); have HKa : Hid (KeyC w9 ba 5 0 0 0 7) := Lib.hid (by rw [← ha, hba]; exact KeyC.new w8 5 0 0 0 7 _); have HLa : Hid (w8.heap.size ≤ ba) := Lib.hid (by rw [hba]; exact Nat.le_refl _); rw [← hba]; clear ha hba
  have c106 : w9.cell? ⟨xb, 106, none⟩ = some (.int .i64 wt) := (HBa.out.cell (p := ⟨xb, 106, none⟩) HX8.out.2).trans (range_at HX8.out.1 106 (by decide))
  go_upto_region 15 with fail
  generalize hb : World.alloc w9 _ = w10; obtain ⟨bb, hbb⟩ : ∃ bb, bb = w9.heap.size := ⟨_, rfl⟩; have HBb : Hid (Below w9.heap.size w9 w10) := Lib.hid (by rw [← hb]; exact (Below.refl _ _).alloc (Nat.le_refl _) _); have HKb : Hid (KeyC w10 bb 6 0 0 0 wt) := Lib.hid (by rw [← hb, hbb]; exact KeyC.new w9 6 0 0 0 wt _); have HLb : Hid (w9.heap.size ≤ bb) := Lib.hid (by rw [hbb]; exact Nat.le_refl _); rw [← hbb]; clear hb hbb
  have HB10 := Lib.hid (HBa.out.trans (HBb.out.mono HBa.out.size))
  clear c106
  have c106 : w10.cell? ⟨xb, 106, none⟩ = some (.int .i64 wt) := (HB10.out.cell (p := ⟨xb, 106, none⟩) HX8.out.2).trans (range_at HX8.out.1 106 (by decide))
  go_upto_region 16 with fail
  generalize hc : World.alloc w10 _ = w11; obtain ⟨bc, hbc⟩ : ∃ bc, bc = w10.heap.size := ⟨_, rfl⟩; have HBc : Hid (Below w10.heap.size w10 w11) := Lib.hid (by rw [← hc]; exact (Below.refl _ _).alloc (Nat.le_refl _) _); have HKc : Hid (KeyC w11 bc 6 0 0 0 (wt + 1)) := Lib.hid (by rw [← hc, hbc]; exact KeyC.new w10 6 0 0 0 (wt + 1) _); have HLc : Hid (w10.heap.size ≤ bc) := Lib.hid (by rw [hbc]; exact Nat.le_refl _); rw [← hbc]; clear hc hbc
  have HB11 := Lib.hid (HB10.out.trans (HBc.out.mono HB10.out.size))
  have HKa1 := Lib.hid ((HKa.out.below HBb.out).below HBc.out)
  have HKb1 := Lib.hid (HKb.out.below HBc.out)
  clear c106
  have c9 : w11.cell? ⟨xb, 9, none⟩ = some (.int .i64 s) := (HB11.out.cell (p := ⟨xb, 9, none⟩) HX8.out.2).trans (range_at HX8.out.1 9 (by decide))
  have HW11 := Lib.hid (HW8.out.below HB11.out)
  have HS11 := Lib.hid (HS8.out.below HB11.out)
  go_upto_region 19 with fail
  have HN0 : Hid (0 < L.dn) := Lib.hid (by have := HN.out; omega)
  have HT0 : Hid (D8.dt 0 = true) := Lib.hid HDt.out.1
  have HV0 : Hid (D8.dv 0 = 0) := Lib.hid HDt.out.2
  have HWW : Hid (∀ W, Below w11.heap.size w11 W → DMD W L D8 ∧ SyB W X.s L.mb L.dP X.tP L.P X.fP X.q 0) := Lib.hid (fun W hb => ⟨(HW11.out.below hb).d, HS11.out.below hb⟩)
  have HGe : Hid (∀ W, Below w11.heap.size w11 W → Calls Tryd.prog 13 #[.pointer (some ⟨L.dP, 0, none⟩), .int .i64 0] W fun e w' => e = .returned (.tuple #[.agg (rowL (fX s wt)).toArray, .bool true]) ∧ Below W.heap.size W w') := Lib.hid (fun W hb => dget_ok 0 0 (Lib.hid z_castD) HN0.out HT0 (fX s wt) HDW (Lib.hid (fun j _ => fX_one _ _ j)) W (HWW.out W hb).1)
  have HVe : Hid (∀ W, Below w11.heap.size w11 W → Calls Tryd.prog 44 #[.pointer (some ⟨L.dp, 0, none⟩), .int .i64 0] W fun e w' => e = .returned (.int .i64 0) ∧ W = w') := Lib.hid (fun W hb => aver_x21 0 0 (Lib.hid z_castD) HN0.out 0 HV0 W (HWW.out W hb).1.pl.ar)
  have HX9 : Hid (fX s wt 9 = .int .i64 s) := Lib.hid rfl
  have HX106 : Hid (fX s wt 106 = .int .i64 wt) := Lib.hid rfl
  have HFo : Hid (∀ j, j < 107 → (fX s wt j).oneCell' = true) := Lib.hid (fun j _ => fX_one _ _ j)
  have hne : (wt == wt + 1) = false := by rw [beq_eq_false_iff_ne]; omega
  have C1 : Hid (∀ W, Below w11.heap.size w11 W → Calls Tryd.prog 18 #[.pointer (some ⟨X.s, 0, none⟩), .agg #[.int .i64 5, .int .i64 0, .int .i64 0, .int .i64 0, .int .u32 7]] W fun e w' => e = .returned (.bool true) ∧ Below W.heap.size W w') := Lib.hid (fun W hb => slive_start (s := X.s) 0 0 0 7 L.dp L.dR L.dn L.dc L.dB D8.dt D8.dv true (Lib.hid (by have h1 := HT0.out; have h2 := HV0.out; have h3 := HN0.out; simp [thereB, h1, h2]; omega)) W (HWW.out W hb).2 (HWW.out W hb).1.pl.f0 (HWW.out W hb).1.pl.ar)
  have C2 : Hid (∀ W, Below w11.heap.size w11 W → Calls Tryd.prog 18 #[.pointer (some ⟨X.s, 0, none⟩), .agg #[.int .i64 6, .int .i64 0, .int .i64 0, .int .i64 0, .int .u32 wt]] W fun e w' => e = .returned (.bool false) ∧ Below W.heap.size W w') := Lib.hid (fun W hb => slive_resume 0 0 0 wt false W (fun V hV => swaits_state 0 0 0 wt L.dp (fX s wt) HFo s HX9 e2 u1 u2 V (HWW.out V (hb.trans (hV.mono hb.size))).2 (HWW.out V (hb.trans (hV.mono hb.size))).1.pl.f0 (fun U hU => HGe.out U ((hb.trans (hV.mono hb.size)).trans (hU.mono (Nat.le_trans hb.size hV.size)))) (fun U hU => HVe.out U ((hb.trans (hV.mono hb.size)).trans (hU.mono (Nat.le_trans hb.size hV.size))))))
  have C3 : Hid (∀ W, Below w11.heap.size w11 W → Calls Tryd.prog 18 #[.pointer (some ⟨X.s, 0, none⟩), .agg #[.int .i64 6, .int .i64 0, .int .i64 0, .int .i64 0, .int .u32 (wt + 1)]] W fun e w' => e = .returned (.bool false) ∧ Below W.heap.size W w') := Lib.hid (fun W hb => slive_resume 0 0 0 (wt + 1) false W (fun V hV => swaits_state 0 0 0 (wt + 1) L.dp (fX s wt) HFo s HX9 e2 (by omega) u3 V (HWW.out V (hb.trans (hV.mono hb.size))).2 (HWW.out V (hb.trans (hV.mono hb.size))).1.pl.f0 (fun U hU => HGe.out U ((hb.trans (hV.mono hb.size)).trans (hU.mono (Nat.le_trans hb.size hV.size)))) (fun U hU => HVe.out U ((hb.trans (hV.mono hb.size)).trans (hU.mono (Nat.le_trans hb.size hV.size))))))
  have C4 : Hid (∀ W, Below w11.heap.size w11 W → Calls Tryd.prog 17 #[.pointer (some ⟨X.s, 0, none⟩), .int .i64 6, .int .i64 0] W fun e w' => e = .returned (.agg #[.int .i64 0, .int .i64 0, .int .i64 0, .int .i64 0, .int .u32 0]) ∧ Below W.heap.size W w') := Lib.hid (fun W hb => skey_resume 0 0 0 0 0 0 W (HWW.out W hb).2 (fun V hV => dresume_no 0 0 (Lib.hid z_castD) HN0.out HT0 s (Lib.hid ((HDW.out 9 (by decide)).trans HX9.out)) (by have := hs.out; omega) V (HWW.out V (hb.trans (hV.mono hb.size))).1))
  have C5 := Lib.hid (same_void 6 0 0 0 wt (by decide))

  clear hne
  have HAb : Hid (Below w11.heap.size w11 w11.drew ∧ (World.cell? w11.drew ⟨ba, 0, none⟩ = some (.int .i64 5) ∧ World.cell? w11.drew ⟨ba, 1, none⟩ = some (.int .i64 0) ∧ World.cell? w11.drew ⟨ba, 2, none⟩ = some (.int .i64 0) ∧ World.cell? w11.drew ⟨ba, 3, none⟩ = some (.int .i64 0) ∧ World.cell? w11.drew ⟨ba, 4, none⟩ = some (.int .u32 7)) ∧ (World.cell? w11.drew ⟨bb, 0, none⟩ = some (.int .i64 6) ∧ World.cell? w11.drew ⟨bb, 1, none⟩ = some (.int .i64 0) ∧ World.cell? w11.drew ⟨bb, 2, none⟩ = some (.int .i64 0) ∧ World.cell? w11.drew ⟨bb, 3, none⟩ = some (.int .i64 0) ∧ World.cell? w11.drew ⟨bb, 4, none⟩ = some (.int .u32 wt)) ∧ (World.cell? w11.drew ⟨bc, 0, none⟩ = some (.int .i64 6) ∧ World.cell? w11.drew ⟨bc, 1, none⟩ = some (.int .i64 0) ∧ World.cell? w11.drew ⟨bc, 2, none⟩ = some (.int .i64 0) ∧ World.cell? w11.drew ⟨bc, 3, none⟩ = some (.int .i64 0) ∧ World.cell? w11.drew ⟨bc, 4, none⟩ = some (.int .u32 (wt + 1)))) := Lib.hid (have hd : Below w11.heap.size w11 w11.drew := (Below.refl _ _).drew; ⟨hd, (HKa1.out.below hd).five, (HKb1.out.below hd).five, (HKc.out.below hd).five⟩)
  go_region_held3 (fun w' => Below w11.heap.size w11 w' ∧ (World.cell? w' ⟨ba, 0, none⟩ = some (.int .i64 5) ∧ World.cell? w' ⟨ba, 1, none⟩ = some (.int .i64 0) ∧ World.cell? w' ⟨ba, 2, none⟩ = some (.int .i64 0) ∧ World.cell? w' ⟨ba, 3, none⟩ = some (.int .i64 0) ∧ World.cell? w' ⟨ba, 4, none⟩ = some (.int .u32 7)) ∧ (World.cell? w' ⟨bb, 0, none⟩ = some (.int .i64 6) ∧ World.cell? w' ⟨bb, 1, none⟩ = some (.int .i64 0) ∧ World.cell? w' ⟨bb, 2, none⟩ = some (.int .i64 0) ∧ World.cell? w' ⟨bb, 3, none⟩ = some (.int .i64 0) ∧ World.cell? w' ⟨bb, 4, none⟩ = some (.int .u32 wt)) ∧ (World.cell? w' ⟨bc, 0, none⟩ = some (.int .i64 6) ∧ World.cell? w' ⟨bc, 1, none⟩ = some (.int .i64 0) ∧ World.cell? w' ⟨bc, 2, none⟩ = some (.int .i64 0) ∧ World.cell? w' ⟨bc, 3, none⟩ = some (.int .i64 0) ∧ World.cell? w' ⟨bc, 4, none⟩ = some (.int .u32 (wt + 1)))) (first | exact HAb.out | exact kk15 (by assumption) hb) (first
    | (go_at_call 18; (with_reducible refine (C1.out _ (And.left (by assumption))).mono ?_); rintro e w' ⟨rfl, hb⟩)
    | (go_at_call 18; (with_reducible refine (C2.out _ (And.left (by assumption))).mono ?_); rintro e w' ⟨rfl, hb⟩)
    | (go_at_call 18; (with_reducible refine (C3.out _ (And.left (by assumption))).mono ?_); rintro e w' ⟨rfl, hb⟩)
    | (go_at_call 17; (with_reducible refine (C4.out _ (And.left (by assumption))).mono ?_); rintro e w' ⟨rfl, hb⟩)
    | (go_at_call 19; (with_reducible refine (C5.out _).mono ?_); rintro e w' ⟨rfl, hb⟩)
    | (go_at_call 20; (with_reducible refine (door_auth _).mono ?_); rintro e w' ⟨rfl, hb⟩))
  go_wp2_with fail
  go_ret
  refine ⟨rfl, (HB1.out.trans (HW11.out.bel.mono HB1.out.size)).trans (Below.mono ?_ (Nat.le_trans HB1.out.size HW11.out.bel.size))⟩
  apply And.left
  assumption
set_option maxRecDepth 100000 in
set_option maxHeartbeats 8000000 in
theorem doors_endy (a0 a1 : Int) (R M : Nat) (wt : Int) (hM : M < 50) (CR : Hid (∀ w, Calls Tryd.prog 14 #[.int .i64 a0, .int .i64 4] w fun e w' => e = .returned (.int .i64 1) ∧ w = w')) (CM : Hid (∀ w, Calls Tryd.prog 14 #[.int .i64 a1, .int .i64 50] w fun e w' => e = .returned (.int .i64 wt) ∧ w = w')) (hwt : Hid (wt = (M : Int))) (w : World) (vs vr : Value) (hE : ErrsAt vs vr w) :
    Calls Tryd.prog 4 #[.int .i64 a0, .int .i64 a1, .bool true] w fun e w' => e = .returned (.bool true) ∧ Below w.heap.size w w' := by
  have HE := Lib.hid hE
  have u1 : 0 ≤ wt := by have := hwt.out; omega
  have u2 : wt ≤ 536870911 := by have := hwt.out; omega
  have u3 : wt + 1 ≤ 536870911 := by have := hwt.out; omega
  have hw : IntKind.u32.wrap wt = wt := by rw [IntKind.wrap_u32]; omega
  have hw1 : IntKind.u32.wrap (wt + 1) = wt + 1 := by rw [IntKind.wrap_u32]; omega
  have hw2 : IntKind.i64.wrap (wt + 1) = wt + 1 := by rw [IntKind.wrap_i64]; omega
  have s1 : 1 ≤ (2 : Int) := by omega
  have s2 : (2 : Int) ≤ 4 := by omega
  clear hE hM
  go_enter Tryd.func4, Tryd.ntmps4
  go_upto_region 9 with (first
    | (go_at_call 5; (with_reducible refine (first21_is _).mono ?_); rintro e w1 ⟨rfl, hb1⟩; have HB1 := Lib.hid hb1; clear hb1)
    | (go_at_call 10; (with_reducible refine (script_ok _).mono ?_); rintro e w2 ⟨L, X, x, rfl, hs, hn, hb⟩; have HSy := Lib.hid hs; have HN := Lib.hid hn.out; have HB2 := Lib.hid (HB1.out.trans (hb.mono HB1.out.size)); have sc := hs.b.c3; clear hs hn hb)
    | (go_at_call 11; (with_reducible refine (bwroot_ok 10 (by decide) (by decide) 0 (Lib.hid s0_nbI) (by rw [s0_nb]; have := HN.out; omega) _ HSy.out.k).mono ?_); rintro e w3 ⟨rfl, hW, hu⟩; have HW3 := Lib.hid hW; have HS3 := Lib.hid (HSy.out.b.upt hu HSy.out.lo.1); clear sc; have sc := HS3.out.c3; have HFull := Lib.hid (full1 hW); have HU0 : Hid (∀ i, i < L.n → -1000000 ≤ (openedB st0 (-1) 10).us i ∧ (openedB st0 (-1) 10).us i ≤ 1000000) := Lib.hid (fun i _ => by simp [openedB, st0, upd]); clear hW hu)
    | (go_at_call 12; (with_reducible refine (bdomain_x 0 0 (Lib.hid z_castD) (by rw [d1_nb]; decide) 0 0 (by have := HN.out; omega) (Lib.hid d1_free) (Lib.hid (by intro i hi; omega)) (Lib.hid d1_v) HFull HU0 _ HW3.out).mono ?_); rintro e w4 ⟨rfl, hW, hu⟩; have HW4 := Lib.hid hW; have HS4 := Lib.hid (HS3.out.upt hu HSy.out.lo.1); clear sc; have sc := HS4.out.c1; clear hW hu))
  clear sc
  have sc := HS4.out.c1
  have HDm4 := Lib.hid HW4.out.d
  have HG4 := Lib.hid (dget_ok 0 0 (Lib.hid z_castD) (by have := HN.out; omega) (Lib.hid (by rfl)) zd1 (Lib.hid (fun j hj => updS_D1 _ 0 j hj)) (Lib.hid (fun j _ => zd1_one j)) w4 HDm4.out)
  go_upto_region 10 with (first
    | (go_at_call 13; (with_reducible refine HG4.out.mono ?_); rintro e w5 ⟨rfl, hb⟩; have HB5 := Lib.hid hb; clear hb)
    | (refine wpList_store_mid (by rfl) _ _ _ (by rfl) w5.heap.size 0 (rowL zd1).toArray (by rfl) (by rfl) (by rw [rowL_size]; exact dthere_new _ _ 107 (by rfl) _) (by rw [rowL_size]; exact infoDomS) (rowL_one zd1 (fun j _ => zd1_one j)) ?_))
  generalize hA : World.setCells _ w5.heap.size 0 _ = w6
  obtain ⟨xb, hxb⟩ : ∃ xb, xb = w5.heap.size := ⟨_, rfl⟩
  have HA : Hid (Below w5.heap.size w5 w6 ∧ w6.rangeAt xb 0 (rowL (fX 1 0)) ∧ xb < w6.heap.size ∧ (∀ j, w6.frozen? ⟨xb, j, none⟩ = false) ∧ w5.heap.size ≤ xb) := Lib.hid (by
    rw [← hA, hxb, fX_zd1]
    exact ⟨dbelow_cells ((Below.refl _ _).alloc (Nat.le_refl _) _) (Nat.le_refl _) _ _, World.rangeAt_setCells_same _ _ 0 (rowL zd1) (by rw [rowL_len]; exact dthere_new _ _ 107 (by rfl) _), by rw [dsize_cells]; simp, fun j => by rw [World.frozen?_setCells]; simp, Nat.le_refl _⟩)
  rw [← hxb]
  clear hA hxb sc
  have c9 := range_at HA.out.2.1 9 (by decide)
  have c106 := range_at HA.out.2.1 106 (by decide)
  have z9 := HA.out.2.2.2.1 9
  have z106 := HA.out.2.2.2.1 106
  go_upto_region 12 with (first
    | (go_at_call 14; (with_reducible refine (CR.out _).mono ?_); rintro e w7 ⟨rfl, rfl⟩)
    | (go_at_call 14; (with_reducible refine (CM.out _).mono ?_); rintro e w7 ⟨rfl, rfl⟩))
  generalize hA : World.setCell (World.setCell w6 _ _) _ _ = w7
  have HA7 : Hid (w7.rangeAt xb 0 (rowL (fX (2 : Int) wt)) ∧ Below w4.heap.size w4 w7 ∧ xb < w7.heap.size ∧ w4.heap.size ≤ xb) := Lib.hid (by
    have hz : w4.heap.size ≤ xb := Nat.le_trans HB5.out.size HA.out.2.2.2.2
    rw [← hA]; exact ⟨range_put HA.out.2.1, ((HB5.out.trans (HA.out.1.mono HB5.out.size)).setCell hz _).setCell hz _, by simpa using HA.out.2.2.1, hz⟩)
  clear hA c9 c106 z9 z106
  have HW7 := Lib.hid (HW4.out.below HA7.out.2.1)
  have HS7 := Lib.hid (HS4.out.below HA7.out.2.1)
  have HE7 := Lib.hid (HE.out.below (HB1.out.trans (HW7.out.bel.mono HB1.out.size)))
  have sc := HS7.out.c1
  obtain ⟨D0, HD0⟩ : ∃ D0, Hid (D0 = boughtD (openedB st0 (-1) 10) 0 0 0) := ⟨_, Lib.hid rfl⟩
  obtain ⟨wD, hwD⟩ : ∃ wD, wD = w7.drew := ⟨_, rfl⟩
  have HBd7 : Hid (Below w7.heap.size w7 wD) := Lib.hid (by rw [hwD]; exact (Below.refl _ _).drew)
  have HWd := Lib.hid (HW7.out.below HBd7.out)
  have HPut := Lib.hid (dput_ok 0 0 (Lib.hid z_castD) (by have := HN.out; omega) (Lib.hid (by rfl)) (fX (2 : Int) wt) (fun _ _ => 0) (Lib.hid (fun j _ => fX_one _ _ j)) (Lib.hid (fX_keys _ _)) (Lib.hid zero_right) (2 : Int) 0 wt (Lib.hid ⟨rfl, rfl, rfl⟩) s1 s2 (by decide) (by decide) u1 u2 vs vr wD (HE7.out.below HBd7.out) HWd.out.d)
  have HTx : Hid (L.T ≤ xb) := Lib.hid (Nat.le_trans HW4.out.tw HA7.out.2.2.2)
  refine wp_region_noPanic ?_
  refine wp_region_held_drew (S := fun w' => World.cell? w' ⟨X.s, 1, none⟩ = some (.pointer (some ⟨L.dP, 0, none⟩)) ∧ w'.rangeAt xb 0 (rowL (fX (2 : Int) wt))) (by kernel_rfl) (by rw [← hwD]; exact ⟨(HS7.out.below HBd7.out).c1, by rw [hwD]; exact HA7.out.1.drewR⟩) (fun hHeld => ?_)
  rw [← hwD] at hHeld ⊢
  clear hwD
  refine wpAnyH_take (i := 0) (v := ?_) (by rfl) (by kernel_rfl) (by kernel_rfl) (by kernel_rfl) (fun _ _ _ h => h) (Or.inl ⟨by kernel_rfl, ?_⟩) (by assumption) ?_; rotate_left 1; (focus (intro w hSw; (try dsimp only at hSw); simp only [List.getElem_toArray, List.getElem_cons_succ, List.getElem_cons_zero]; all_goals go_simp; all_goals (try with_reducible rfl))); (try simp only [Act.put, List.getElem_toArray, List.getElem_cons_succ, List.getElem_cons_zero, List.setIfInBounds_toArray, List.set_cons_zero, List.set_cons_succ])
  refine wpAnyH_take (i := 1) (v := ?_) (by rfl) (by kernel_rfl) (by kernel_rfl) (by kernel_rfl) (fun _ _ _ h => h) (Or.inl ⟨by kernel_rfl, ?_⟩) (by assumption) ?_; rotate_left 1; (focus (intro w hSw; (try dsimp only at hSw); simp only [List.getElem_toArray, List.getElem_cons_succ, List.getElem_cons_zero]; all_goals go_simp; all_goals (try with_reducible rfl))); (try simp only [Act.put, List.getElem_toArray, List.getElem_cons_succ, List.getElem_cons_zero, List.setIfInBounds_toArray, List.set_cons_zero, List.set_cons_succ])
  refine wpAnyH_take (i := 2) (v := ?_) (by rfl) (by kernel_rfl) (by kernel_rfl) (by kernel_rfl) (fun _ _ _ h => h) (Or.inl ⟨by kernel_rfl, ?_⟩) (by assumption) ?_; rotate_left 1; (focus (intro w hSw; (try dsimp only at hSw); simp only [List.getElem_toArray, List.getElem_cons_succ, List.getElem_cons_zero]; all_goals go_simp; all_goals (try with_reducible rfl))); (try simp only [Act.put, List.getElem_toArray, List.getElem_cons_succ, List.getElem_cons_zero, List.setIfInBounds_toArray, List.set_cons_zero, List.set_cons_succ])
  refine wpAnyH_take (i := 3) (v := ?_) (by rfl) (by kernel_rfl) (by kernel_rfl) (by kernel_rfl) (fun _ _ _ h => h) (Or.inl ⟨by kernel_rfl, ?_⟩) (by assumption) ?_; rotate_left 1; (focus (intro w hSw; (try dsimp only at hSw); simp only [List.getElem_toArray, List.getElem_cons_succ, List.getElem_cons_zero]; all_goals go_simp; all_goals (try with_reducible rfl))); (try simp only [Act.put, List.getElem_toArray, List.getElem_cons_succ, List.getElem_cons_zero, List.setIfInBounds_toArray, List.set_cons_zero, List.set_cons_succ])
  refine wpAnyH_take (i := 4) (v := .agg (rowL (fX (2 : Int) wt)).toArray) (by rfl) (by kernel_rfl) (by kernel_rfl) (by kernel_rfl) (fun _ _ _ h => h) (Or.inl ⟨by kernel_rfl, ?_⟩) (by assumption) ?_
  focus
    intro w hSw
    exact dload_exec (Operand.tmp 10) (by rfl) (by rfl) hSw.2
  (try simp only [Act.put, List.getElem_toArray, List.getElem_cons_succ, List.getElem_cons_zero, List.setIfInBounds_toArray, List.set_cons_zero, List.set_cons_succ])
  refine wpAnyH_ready (rs := [5]) (by kernel_rfl) (by simp) ?_; refine AllReadyH.cons (by rfl) (fun K hK => ?_) AllReadyH.nil; rw [if_pos (by kernel_rfl)]; simp only [List.getElem_toArray, List.getElem_cons_succ, List.getElem_cons_zero]
  go_wp2_with (first
    | (go_at_call 15; (with_reducible refine HPut.out.mono ?_); rintro e w8 ⟨rfl, hD, hb⟩; have HW8 := Lib.hid (HWd.out.doms hD hb); have HU8 : Hid (UpT L.T w7 w8) := Lib.hid ((UpT.below HBd7.out).trans (UpT.pb hb (by have h1 := HW7.out.db; have h2 := HW7.out.tt; omega) (by have h1 := HW7.out.db; have h2 := HW7.out.tt; omega))); clear hD hb))
  refine hK.out _ _ ⟨(HS7.out.upt HU8.out HSy.out.lo.1).c1, range_block HA7.out.1 (HU8.out.2 xb HTx.out HA7.out.2.2.1)⟩ (fun hHeld => ?_)
  clear hK K
  (try simp only [Act.put, List.getElem_toArray, List.getElem_cons_succ, List.getElem_cons_zero, List.setIfInBounds_toArray, List.set_cons_zero, List.set_cons_succ])
  refine wpAnyH_done (by kernel_rfl) ?_ _
  refine NoPanic.normal ?_
  clear sc HPut
  obtain ⟨D8, HD8⟩ : ∃ D8, Hid (D8 = { boughtD (openedB st0 (-1) 10) 0 0 0 with dW := updS (boughtD (openedB st0 (-1) 10) 0 0 0).dW 0 0 (rowL (fX (2 : Int) wt)) }) := ⟨_, Lib.hid rfl⟩
  have HW8 : Hid (BW w1 w8 L D8) := Lib.hid (by rw [HD8.out]; exact HW8.out)
  have HDt : Hid (D8.dt 0 = true ∧ D8.dv 0 = 0) := Lib.hid (by rw [HD8.out]; exact ⟨rfl, rfl⟩)
  have HDW : Hid (∀ j, j < 107 → D8.dW 0 j = fX (2 : Int) wt j) := Lib.hid (fun j hj => by rw [HD8.out]; exact updS_row _ 0 j _ hj)
  have HS8 := Lib.hid (HS7.out.upt HU8.out HSy.out.lo.1)
  have HX8 : Hid (w8.rangeAt xb 0 (rowL (fX (2 : Int) wt)) ∧ xb < w8.heap.size) := Lib.hid ⟨range_block HA7.out.1 (HU8.out.2 xb HTx.out HA7.out.2.2.1), Nat.lt_of_lt_of_le HA7.out.2.2.1 HU8.out.1⟩
  go_upto_region 14 with fail
  generalize ha : World.alloc w8 _ = w9; obtain ⟨ba, hba⟩ : ∃ ba, ba = w8.heap.size := ⟨_, rfl⟩; have HBa : Hid (Below w8.heap.size w8 w9) := Lib.hid (by rw [← ha]; exact (Below.refl _ _).alloc (Nat.le_refl _) _); have HKa : Hid (KeyC w9 ba 5 0 0 0 7) := Lib.hid (by rw [← ha, hba]; exact KeyC.new w8 5 0 0 0 7 _); have HLa : Hid (w8.heap.size ≤ ba) := Lib.hid (by rw [hba]; exact Nat.le_refl _); rw [← hba]; clear ha hba
  have c106 : w9.cell? ⟨xb, 106, none⟩ = some (.int .i64 wt) := (HBa.out.cell (p := ⟨xb, 106, none⟩) HX8.out.2).trans (range_at HX8.out.1 106 (by decide))
  go_upto_region 15 with fail
  generalize hb : World.alloc w9 _ = w10; obtain ⟨bb, hbb⟩ : ∃ bb, bb = w9.heap.size := ⟨_, rfl⟩; have HBb : Hid (Below w9.heap.size w9 w10) := Lib.hid (by rw [← hb]; exact (Below.refl _ _).alloc (Nat.le_refl _) _); have HKb : Hid (KeyC w10 bb 6 0 0 0 wt) := Lib.hid (by rw [← hb, hbb]; exact KeyC.new w9 6 0 0 0 wt _); have HLb : Hid (w9.heap.size ≤ bb) := Lib.hid (by rw [hbb]; exact Nat.le_refl _); rw [← hbb]; clear hb hbb
  have HB10 := Lib.hid (HBa.out.trans (HBb.out.mono HBa.out.size))
  clear c106
  have c106 : w10.cell? ⟨xb, 106, none⟩ = some (.int .i64 wt) := (HB10.out.cell (p := ⟨xb, 106, none⟩) HX8.out.2).trans (range_at HX8.out.1 106 (by decide))
  go_upto_region 16 with fail
  generalize hc : World.alloc w10 _ = w11; obtain ⟨bc, hbc⟩ : ∃ bc, bc = w10.heap.size := ⟨_, rfl⟩; have HBc : Hid (Below w10.heap.size w10 w11) := Lib.hid (by rw [← hc]; exact (Below.refl _ _).alloc (Nat.le_refl _) _); have HKc : Hid (KeyC w11 bc 6 0 0 0 (wt + 1)) := Lib.hid (by rw [← hc, hbc]; exact KeyC.new w10 6 0 0 0 (wt + 1) _); have HLc : Hid (w10.heap.size ≤ bc) := Lib.hid (by rw [hbc]; exact Nat.le_refl _); rw [← hbc]; clear hc hbc
  have HB11 := Lib.hid (HB10.out.trans (HBc.out.mono HB10.out.size))
  have HKa1 := Lib.hid ((HKa.out.below HBb.out).below HBc.out)
  have HKb1 := Lib.hid (HKb.out.below HBc.out)
  clear c106
  have c9 : w11.cell? ⟨xb, 9, none⟩ = some (.int .i64 (2 : Int)) := (HB11.out.cell (p := ⟨xb, 9, none⟩) HX8.out.2).trans (range_at HX8.out.1 9 (by decide))
  have HW11 := Lib.hid (HW8.out.below HB11.out)
  have HS11 := Lib.hid (HS8.out.below HB11.out)
  clear c9
  go_upto_region 17 with fail
  have HN0 : Hid (0 < L.dn) := Lib.hid (by have := HN.out; omega)
  have HLv : Hid (liveK L D8 4 0 0 = true) := Lib.hid (by rw [HD8.out]; have := HN.out; simp [liveK, thereB, boughtD, openedB, st0, upd]; omega)
  have HTi : Hid (∀ W, BW w1 W L D8 → TiAt W L 4 L.G3 0 ((0 : Nat) : Int) 0) := Lib.hid (fun W hW => by have h := hW.title3x 0 (by decide); rw [show D8.o3 0 = ((0 : Nat) : Int) by rw [HD8.out]; rfl, show D8.v3 0 = 0 by rw [HD8.out]; rfl] at h; exact h)
  obtain ⟨Dg, HDg⟩ : ∃ Dg, Hid (Dg = { D8 with dt := upd D8.dt 0 false, dv := upd D8.dv 0 (0 + 1), o3 := upd D8.o3 0 (-1), v3 := upd D8.v3 0 0 }) := ⟨_, Lib.hid rfl⟩
  have HG2 : Hid (Dg.nb = D8.nb ∧ Dg.pr = D8.pr ∧ Dg.us = D8.us) := Lib.hid (by rw [HDg.out]; exact ⟨rfl, rfl, rfl⟩)
  have HUb : Hid (∀ i, i < L.n → -1000000 ≤ D8.us i ∧ D8.us i ≤ 1000000) := Lib.hid (fun i _ => by rw [HD8.out]; show -1000000 ≤ addL (openedB st0 (-1) 10).us _ 1 i ∧ addL (openedB st0 (-1) 10).us _ 1 i ≤ 1000000; unfold addL; split <;> simp [openedB, st0, upd])
  have HGb : Hid (∀ W, BW w1 W L D8 → Calls Tryd.prog 36 #[.pointer (some ⟨L.P, 0, none⟩), Value.agg #[.int .i64 4, .int .i64 ((0 : Nat) : Int), .int .i64 0, .int .i64 0, .int .u32 0]] W fun e w' => e = .returned (.tuple #[]) ∧ BW w1 w' L Dg ∧ UpT L.T W w') := Lib.hid (fun W hW => by rw [HDg.out]; exact bgb_dom 0 0 0 0 (by decide) HN0.out (Lib.hid HDt.out.1) (Lib.hid HDt.out.2) (by decide) (by decide) W hW)
  obtain ⟨De, HDe⟩ : ∃ De, Hid (De = { Dg with us := addL D8.us (chL D8.pr ((0 : Nat) : Int)) (-1) }) := ⟨_, Lib.hid rfl⟩
  have HTd : Hid (De.dt 0 = false) := Lib.hid (by rw [HDe.out, HDg.out]; simp [upd])
  have hq0 : 0 < D8.nb := by rw [HD8.out]; exact Nat.zero_lt_one
  obtain ⟨wF, hwF⟩ : ∃ wF, wF = w11.drew := ⟨_, rfl⟩
  have HBF : Hid (Below w11.heap.size w11 wF) := Lib.hid (by rw [hwF]; exact (Below.refl _ _).drew)
  have HWF := Lib.hid (HW11.out.below HBF.out)
  have HSF := Lib.hid (HS11.out.below HBF.out)
  have HKd := Lib.hid (skey_dom 0 4 0 0 0 0 wF HSF.out (fun V hV => dkey_of 0 4 0 0 0 0 V (fun U hU => dkeyof_in 4 0 0 0 (Lib.hid z_castD) HN0.out (Lib.hid HDt.out.1) (by decide) 0 (Lib.hid HDt.out.2) U (HWF.out.below (hV.trans (hU.mono hV.size))).d)))
  refine wp_region_noPanic ?_
  refine wp_region_held_drew (S := fun w' => World.cell? w' ⟨X.s, 3, none⟩ = some (.pointer (some ⟨L.P, 0, none⟩))) (by kernel_rfl) (by rw [← hwF]; exact HSF.out.c3) (fun hHeld => ?_)
  rw [← hwF] at hHeld ⊢
  clear hwF
  refine wpAnyH_take (i := 0) (v := ?_) (by rfl) (by kernel_rfl) (by kernel_rfl) (by kernel_rfl) (fun _ _ _ h => h) (Or.inl ⟨by kernel_rfl, ?_⟩) (by assumption) ?_; rotate_left 1; (focus (intro w hSw; (try dsimp only at hSw); simp only [List.getElem_toArray, List.getElem_cons_succ, List.getElem_cons_zero]; all_goals go_simp; all_goals (try with_reducible rfl))); (try simp only [Act.put, List.getElem_toArray, List.getElem_cons_succ, List.getElem_cons_zero, List.setIfInBounds_toArray, List.set_cons_zero, List.set_cons_succ])
  refine wpAnyH_take (i := 1) (v := ?_) (by rfl) (by kernel_rfl) (by kernel_rfl) (by kernel_rfl) (fun _ _ _ h => h) (Or.inl ⟨by kernel_rfl, ?_⟩) (by assumption) ?_; rotate_left 1; (focus (intro w hSw; (try dsimp only at hSw); simp only [List.getElem_toArray, List.getElem_cons_succ, List.getElem_cons_zero]; all_goals go_simp; all_goals (try with_reducible rfl))); (try simp only [Act.put, List.getElem_toArray, List.getElem_cons_succ, List.getElem_cons_zero, List.setIfInBounds_toArray, List.set_cons_zero, List.set_cons_succ])
  refine wpAnyH_take (i := 2) (v := ?_) (by rfl) (by kernel_rfl) (by kernel_rfl) (by kernel_rfl) (fun _ _ _ h => h) (Or.inl ⟨by kernel_rfl, ?_⟩) (by assumption) ?_; rotate_left 1; (focus (intro w hSw; (try dsimp only at hSw); simp only [List.getElem_toArray, List.getElem_cons_succ, List.getElem_cons_zero]; all_goals go_simp; all_goals (try with_reducible rfl))); (try simp only [Act.put, List.getElem_toArray, List.getElem_cons_succ, List.getElem_cons_zero, List.setIfInBounds_toArray, List.set_cons_zero, List.set_cons_succ])
  refine wpAnyH_take (i := 3) (v := ?_) (by rfl) (by kernel_rfl) (by kernel_rfl) (by kernel_rfl) (fun _ _ _ h => h) (Or.inl ⟨by kernel_rfl, ?_⟩) (by assumption) ?_; rotate_left 1; (focus (intro w hSw; (try dsimp only at hSw); simp only [List.getElem_toArray, List.getElem_cons_succ, List.getElem_cons_zero]; all_goals go_simp; all_goals (try with_reducible rfl))); (try simp only [Act.put, List.getElem_toArray, List.getElem_cons_succ, List.getElem_cons_zero, List.setIfInBounds_toArray, List.set_cons_zero, List.set_cons_succ])
  refine wpAnyH_take (i := 4) (v := ?_) (by rfl) (by kernel_rfl) (by kernel_rfl) (by kernel_rfl) (fun _ _ _ h => h) (Or.inl ⟨by kernel_rfl, ?_⟩) (by assumption) ?_; rotate_left 1; (focus (intro w hSw; (try dsimp only at hSw); simp only [List.getElem_toArray, List.getElem_cons_succ, List.getElem_cons_zero]; all_goals go_simp; all_goals (try with_reducible rfl))); (try simp only [Act.put, List.getElem_toArray, List.getElem_cons_succ, List.getElem_cons_zero, List.setIfInBounds_toArray, List.set_cons_zero, List.set_cons_succ])
  refine wpAnyH_ready (rs := [5]) (by kernel_rfl) (by simp) ?_; refine AllReadyH.cons (by rfl) (fun K hK => ?_) AllReadyH.nil; rw [if_pos (by kernel_rfl)]; simp only [List.getElem_toArray, List.getElem_cons_succ, List.getElem_cons_zero]
  go_wp2_with (first
    | (go_at_call 17; (with_reducible refine HKd.out.mono ?_); rintro e w12 ⟨rfl, hb⟩; have HB12 := Lib.hid (HBF.out.trans (hb.mono HBF.out.size)); clear hb))
  have HW12 := Lib.hid (HW11.out.below HB12.out)
  refine hK.out _ _ ((HS11.out.below HB12.out).c3) (fun hHeld => ?_)
  clear hK K
  (try simp only [Act.put, List.getElem_toArray, List.getElem_cons_succ, List.getElem_cons_zero, List.setIfInBounds_toArray, List.set_cons_zero, List.set_cons_succ])
  refine wpAnyH_ready (rs := [6]) (by kernel_rfl) (by simp) ?_; refine AllReadyH.cons (by rfl) (fun K hK => ?_) AllReadyH.nil; rw [if_pos (by kernel_rfl)]; simp only [List.getElem_toArray, List.getElem_cons_succ, List.getElem_cons_zero]
  go_wp2_with (first
    | (go_at_call 16; (with_reducible refine (bgive_z 4 0 0 (Lib.hid z_castD) 0 0 0 L.G3 0 0 (Lib.hid z_castD) (by decide) hq0 HLv HG2 HUb _ HW12.out (HTi.out _ HW12.out) HGb.out).mono ?_); rintro e w13 ⟨rfl, hW, hu⟩; rw [← HDe.out] at hW; have HW13 := Lib.hid hW; have HU13 := Lib.hid ((UpT.below HB12.out).trans hu); clear hW hu))
  have HS13 := Lib.hid (HS11.out.upt HU13.out HSy.out.lo.1)
  have hz8 : L.T ≤ w8.heap.size := HW8.out.tw
  have HKa3 := Lib.hid (HKa1.out.upt HU13.out (Nat.le_trans hz8 HLa.out))
  have HKb3 := Lib.hid (HKb1.out.upt HU13.out (Nat.le_trans hz8 (Nat.le_trans HBa.out.size HLb.out)))
  have HKc3 := Lib.hid (HKc.out.upt HU13.out (Nat.le_trans hz8 (Nat.le_trans HB10.out.size HLc.out)))
  have c9 : w13.cell? ⟨xb, 9, none⟩ = some (.int .i64 (2 : Int)) := (World.cell?_of_block (a := ⟨xb, 9, none⟩) (HU13.out.2 xb HTx.out (Nat.lt_of_lt_of_le HX8.out.2 HB11.out.size))).trans ((HB11.out.cell (p := ⟨xb, 9, none⟩) HX8.out.2).trans (range_at HX8.out.1 9 (by decide)))
  clear hz8
  refine hK.out _ _ HS13.out.c3 (fun hHeld => ?_)
  clear hK K
  (try simp only [Act.put, List.getElem_toArray, List.getElem_cons_succ, List.getElem_cons_zero, List.setIfInBounds_toArray, List.set_cons_zero, List.set_cons_succ])
  refine wpAnyH_done (by kernel_rfl) ?_ _
  refine NoPanic.normal ?_
  go_upto_region 19 with fail
  have HWW : Hid (∀ W, Below w13.heap.size w13 W → DMD W L De ∧ SyB W X.s L.mb L.dP X.tP L.P X.fP X.q 0) := Lib.hid (fun W hb => ⟨(HW13.out.below hb).d, HS13.out.below hb⟩)
  have HGe : Hid (∀ W, Below w13.heap.size w13 W → Calls Tryd.prog 13 #[.pointer (some ⟨L.dP, 0, none⟩), .int .i64 0] W fun e w' => e = .returned (.tuple #[.agg (rowL zd).toArray, .bool false]) ∧ Below W.heap.size W w') := Lib.hid (fun W hb => dget_dead 0 0 (Lib.hid z_castD) HTd W (HWW.out W hb).1)
  have HFo : Hid (∀ j, j < 107 → (zd j).oneCell' = true) := Lib.hid (fun j _ => zd_one j)
  have C1 : Hid (∀ W, Below w13.heap.size w13 W → Calls Tryd.prog 18 #[.pointer (some ⟨X.s, 0, none⟩), .agg #[.int .i64 5, .int .i64 0, .int .i64 0, .int .i64 0, .int .u32 7]] W fun e w' => e = .returned (.bool false) ∧ Below W.heap.size W w') := Lib.hid (fun W hb => slive_start (s := X.s) 0 0 0 7 L.dp L.dR L.dn L.dc L.dB De.dt De.dv false (Lib.hid (by have h1 := HTd.out; simp [thereB, h1])) W (HWW.out W hb).2 (HWW.out W hb).1.pl.f0 (HWW.out W hb).1.pl.ar)
  have C2 : Hid (∀ W, Below w13.heap.size w13 W → Calls Tryd.prog 18 #[.pointer (some ⟨X.s, 0, none⟩), .agg #[.int .i64 6, .int .i64 0, .int .i64 0, .int .i64 0, .int .u32 wt]] W fun e w' => e = .returned (.bool false) ∧ Below W.heap.size W w') := Lib.hid (fun W hb => slive_resume 0 0 0 wt false W (fun V hV => swaits_dead 0 0 0 wt L.dp zd HFo u1 u2 V (HWW.out V (hb.trans (hV.mono hb.size))).2 (HWW.out V (hb.trans (hV.mono hb.size))).1.pl.f0 (fun U hU => HGe.out U ((hb.trans (hV.mono hb.size)).trans (hU.mono (Nat.le_trans hb.size hV.size))))))
  have C3 : Hid (∀ W, Below w13.heap.size w13 W → Calls Tryd.prog 18 #[.pointer (some ⟨X.s, 0, none⟩), .agg #[.int .i64 6, .int .i64 0, .int .i64 0, .int .i64 0, .int .u32 (wt + 1)]] W fun e w' => e = .returned (.bool false) ∧ Below W.heap.size W w') := Lib.hid (fun W hb => slive_resume 0 0 0 (wt + 1) false W (fun V hV => swaits_dead 0 0 0 (wt + 1) L.dp zd HFo (by omega) u3 V (HWW.out V (hb.trans (hV.mono hb.size))).2 (HWW.out V (hb.trans (hV.mono hb.size))).1.pl.f0 (fun U hU => HGe.out U ((hb.trans (hV.mono hb.size)).trans (hU.mono (Nat.le_trans hb.size hV.size))))))
  have C4 : Hid (∀ W, Below w13.heap.size w13 W → Calls Tryd.prog 17 #[.pointer (some ⟨X.s, 0, none⟩), .int .i64 6, .int .i64 0] W fun e w' => e = .returned (.agg #[.int .i64 0, .int .i64 0, .int .i64 0, .int .i64 0, .int .u32 0]) ∧ Below W.heap.size W w') := Lib.hid (fun W hb => skey_resume 0 0 0 0 0 0 W (HWW.out W hb).2 (fun V hV => dresume_dead 0 0 (Lib.hid z_castD) HTd V (HWW.out V (hb.trans (hV.mono hb.size))).1))
  have C5 := Lib.hid (same_void 6 0 0 0 wt (by decide))

  have HAb : Hid (Below w13.heap.size w13 w13.drew ∧ (World.cell? w13.drew ⟨ba, 0, none⟩ = some (.int .i64 5) ∧ World.cell? w13.drew ⟨ba, 1, none⟩ = some (.int .i64 0) ∧ World.cell? w13.drew ⟨ba, 2, none⟩ = some (.int .i64 0) ∧ World.cell? w13.drew ⟨ba, 3, none⟩ = some (.int .i64 0) ∧ World.cell? w13.drew ⟨ba, 4, none⟩ = some (.int .u32 7)) ∧ (World.cell? w13.drew ⟨bb, 0, none⟩ = some (.int .i64 6) ∧ World.cell? w13.drew ⟨bb, 1, none⟩ = some (.int .i64 0) ∧ World.cell? w13.drew ⟨bb, 2, none⟩ = some (.int .i64 0) ∧ World.cell? w13.drew ⟨bb, 3, none⟩ = some (.int .i64 0) ∧ World.cell? w13.drew ⟨bb, 4, none⟩ = some (.int .u32 wt)) ∧ (World.cell? w13.drew ⟨bc, 0, none⟩ = some (.int .i64 6) ∧ World.cell? w13.drew ⟨bc, 1, none⟩ = some (.int .i64 0) ∧ World.cell? w13.drew ⟨bc, 2, none⟩ = some (.int .i64 0) ∧ World.cell? w13.drew ⟨bc, 3, none⟩ = some (.int .i64 0) ∧ World.cell? w13.drew ⟨bc, 4, none⟩ = some (.int .u32 (wt + 1)))) := Lib.hid (have hd : Below w13.heap.size w13 w13.drew := (Below.refl _ _).drew; ⟨hd, (HKa3.out.below hd).five, (HKb3.out.below hd).five, (HKc3.out.below hd).five⟩)
  go_region_held3 (fun w' => Below w13.heap.size w13 w' ∧ (World.cell? w' ⟨ba, 0, none⟩ = some (.int .i64 5) ∧ World.cell? w' ⟨ba, 1, none⟩ = some (.int .i64 0) ∧ World.cell? w' ⟨ba, 2, none⟩ = some (.int .i64 0) ∧ World.cell? w' ⟨ba, 3, none⟩ = some (.int .i64 0) ∧ World.cell? w' ⟨ba, 4, none⟩ = some (.int .u32 7)) ∧ (World.cell? w' ⟨bb, 0, none⟩ = some (.int .i64 6) ∧ World.cell? w' ⟨bb, 1, none⟩ = some (.int .i64 0) ∧ World.cell? w' ⟨bb, 2, none⟩ = some (.int .i64 0) ∧ World.cell? w' ⟨bb, 3, none⟩ = some (.int .i64 0) ∧ World.cell? w' ⟨bb, 4, none⟩ = some (.int .u32 wt)) ∧ (World.cell? w' ⟨bc, 0, none⟩ = some (.int .i64 6) ∧ World.cell? w' ⟨bc, 1, none⟩ = some (.int .i64 0) ∧ World.cell? w' ⟨bc, 2, none⟩ = some (.int .i64 0) ∧ World.cell? w' ⟨bc, 3, none⟩ = some (.int .i64 0) ∧ World.cell? w' ⟨bc, 4, none⟩ = some (.int .u32 (wt + 1)))) (first | exact HAb.out | exact kk15 (by assumption) hb) (first
    | (go_at_call 18; (with_reducible refine (C1.out _ (And.left (by assumption))).mono ?_); rintro e w' ⟨rfl, hb⟩)
    | (go_at_call 18; (with_reducible refine (C2.out _ (And.left (by assumption))).mono ?_); rintro e w' ⟨rfl, hb⟩)
    | (go_at_call 18; (with_reducible refine (C3.out _ (And.left (by assumption))).mono ?_); rintro e w' ⟨rfl, hb⟩)
    | (go_at_call 17; (with_reducible refine (C4.out _ (And.left (by assumption))).mono ?_); rintro e w' ⟨rfl, hb⟩)
    | (go_at_call 19; (with_reducible refine (C5.out _).mono ?_); rintro e w' ⟨rfl, hb⟩)
    | (go_at_call 20; (with_reducible refine (door_auth _).mono ?_); rintro e w' ⟨rfl, hb⟩))
  go_wp2_with fail
  go_ret
  refine ⟨rfl, (HB1.out.trans (HW13.out.bel.mono HB1.out.size)).trans (Below.mono ?_ (Nat.le_trans HB1.out.size HW13.out.bel.size))⟩
  apply And.left
  assumption
set_option maxRecDepth 100000 in
set_option maxHeartbeats 8000000 in
theorem doors_endn (a0 a1 : Int) (R M : Nat) (s wt : Int) (hs : Hid ((R : Int) + 1 = s)) (hR : R < 4) (hR1 : R ≠ 1) (hM : M < 50) (CR : Hid (∀ w, Calls Tryd.prog 14 #[.int .i64 a0, .int .i64 4] w fun e w' => e = .returned (.int .i64 (R : Int)) ∧ w = w')) (CM : Hid (∀ w, Calls Tryd.prog 14 #[.int .i64 a1, .int .i64 50] w fun e w' => e = .returned (.int .i64 wt) ∧ w = w')) (hwt : Hid (wt = (M : Int))) (w : World) (vs vr : Value) (hE : ErrsAt vs vr w) :
    Calls Tryd.prog 4 #[.int .i64 a0, .int .i64 a1, .bool true] w fun e w' => e = .returned (.bool true) ∧ Below w.heap.size w w' := by
  have HE := Lib.hid hE
  have u1 : 0 ≤ wt := by have := hwt.out; omega
  have u2 : wt ≤ 536870911 := by have := hwt.out; omega
  have u3 : wt + 1 ≤ 536870911 := by have := hwt.out; omega
  have hw : IntKind.u32.wrap wt = wt := by rw [IntKind.wrap_u32]; omega
  have hw1 : IntKind.u32.wrap (wt + 1) = wt + 1 := by rw [IntKind.wrap_u32]; omega
  have hw2 : IntKind.i64.wrap (wt + 1) = wt + 1 := by rw [IntKind.wrap_i64]; omega
  have s1 : 1 ≤ s := by have := hs.out; omega
  have s2 : s ≤ 4 := by have := hs.out; omega
  have hn1 : (R : Int) + 1 = s := hs.out
  have e2 : (s == 2) = false := by rw [beq_eq_false_iff_ne]; omega
  clear hE hM
  go_enter Tryd.func4, Tryd.ntmps4
  go_upto_region 9 with (first
    | (go_at_call 5; (with_reducible refine (first21_is _).mono ?_); rintro e w1 ⟨rfl, hb1⟩; have HB1 := Lib.hid hb1; clear hb1)
    | (go_at_call 10; (with_reducible refine (script_ok _).mono ?_); rintro e w2 ⟨L, X, x, rfl, hs, hn, hb⟩; have HSy := Lib.hid hs; have HN := Lib.hid hn.out; have HB2 := Lib.hid (HB1.out.trans (hb.mono HB1.out.size)); have sc := hs.b.c3; clear hs hn hb)
    | (go_at_call 11; (with_reducible refine (bwroot_ok 10 (by decide) (by decide) 0 (Lib.hid s0_nbI) (by rw [s0_nb]; have := HN.out; omega) _ HSy.out.k).mono ?_); rintro e w3 ⟨rfl, hW, hu⟩; have HW3 := Lib.hid hW; have HS3 := Lib.hid (HSy.out.b.upt hu HSy.out.lo.1); clear sc; have sc := HS3.out.c3; have HFull := Lib.hid (full1 hW); have HU0 : Hid (∀ i, i < L.n → -1000000 ≤ (openedB st0 (-1) 10).us i ∧ (openedB st0 (-1) 10).us i ≤ 1000000) := Lib.hid (fun i _ => by simp [openedB, st0, upd]); clear hW hu)
    | (go_at_call 12; (with_reducible refine (bdomain_x 0 0 (Lib.hid z_castD) (by rw [d1_nb]; decide) 0 0 (by have := HN.out; omega) (Lib.hid d1_free) (Lib.hid (by intro i hi; omega)) (Lib.hid d1_v) HFull HU0 _ HW3.out).mono ?_); rintro e w4 ⟨rfl, hW, hu⟩; have HW4 := Lib.hid hW; have HS4 := Lib.hid (HS3.out.upt hu HSy.out.lo.1); clear sc; have sc := HS4.out.c1; clear hW hu))
  clear sc
  have sc := HS4.out.c1
  have HDm4 := Lib.hid HW4.out.d
  have HG4 := Lib.hid (dget_ok 0 0 (Lib.hid z_castD) (by have := HN.out; omega) (Lib.hid (by rfl)) zd1 (Lib.hid (fun j hj => updS_D1 _ 0 j hj)) (Lib.hid (fun j _ => zd1_one j)) w4 HDm4.out)
  go_upto_region 10 with (first
    | (go_at_call 13; (with_reducible refine HG4.out.mono ?_); rintro e w5 ⟨rfl, hb⟩; have HB5 := Lib.hid hb; clear hb)
    | (refine wpList_store_mid (by rfl) _ _ _ (by rfl) w5.heap.size 0 (rowL zd1).toArray (by rfl) (by rfl) (by rw [rowL_size]; exact dthere_new _ _ 107 (by rfl) _) (by rw [rowL_size]; exact infoDomS) (rowL_one zd1 (fun j _ => zd1_one j)) ?_))
  generalize hA : World.setCells _ w5.heap.size 0 _ = w6
  obtain ⟨xb, hxb⟩ : ∃ xb, xb = w5.heap.size := ⟨_, rfl⟩
  have HA : Hid (Below w5.heap.size w5 w6 ∧ w6.rangeAt xb 0 (rowL (fX 1 0)) ∧ xb < w6.heap.size ∧ (∀ j, w6.frozen? ⟨xb, j, none⟩ = false) ∧ w5.heap.size ≤ xb) := Lib.hid (by
    rw [← hA, hxb, fX_zd1]
    exact ⟨dbelow_cells ((Below.refl _ _).alloc (Nat.le_refl _) _) (Nat.le_refl _) _ _, World.rangeAt_setCells_same _ _ 0 (rowL zd1) (by rw [rowL_len]; exact dthere_new _ _ 107 (by rfl) _), by rw [dsize_cells]; simp, fun j => by rw [World.frozen?_setCells]; simp, Nat.le_refl _⟩)
  rw [← hxb]
  clear hA hxb sc
  have c9 := range_at HA.out.2.1 9 (by decide)
  have c106 := range_at HA.out.2.1 106 (by decide)
  have z9 := HA.out.2.2.2.1 9
  have z106 := HA.out.2.2.2.1 106
  go_upto_region 12 with (first
    | (go_at_call 14; (with_reducible refine (CR.out _).mono ?_); rintro e w7 ⟨rfl, rfl⟩)
    | (go_at_call 14; (with_reducible refine (CM.out _).mono ?_); rintro e w7 ⟨rfl, rfl⟩))
  generalize hA : World.setCell (World.setCell w6 _ _) _ _ = w7
  have HA7 : Hid (w7.rangeAt xb 0 (rowL (fX s wt)) ∧ Below w4.heap.size w4 w7 ∧ xb < w7.heap.size ∧ w4.heap.size ≤ xb) := Lib.hid (by
    have hz : w4.heap.size ≤ xb := Nat.le_trans HB5.out.size HA.out.2.2.2.2
    rw [← hA]; exact ⟨range_put HA.out.2.1, ((HB5.out.trans (HA.out.1.mono HB5.out.size)).setCell hz _).setCell hz _, by simpa using HA.out.2.2.1, hz⟩)
  clear hA c9 c106 z9 z106
  have HW7 := Lib.hid (HW4.out.below HA7.out.2.1)
  have HS7 := Lib.hid (HS4.out.below HA7.out.2.1)
  have HE7 := Lib.hid (HE.out.below (HB1.out.trans (HW7.out.bel.mono HB1.out.size)))
  have sc := HS7.out.c1
  obtain ⟨D0, HD0⟩ : ∃ D0, Hid (D0 = boughtD (openedB st0 (-1) 10) 0 0 0) := ⟨_, Lib.hid rfl⟩
  obtain ⟨wD, hwD⟩ : ∃ wD, wD = w7.drew := ⟨_, rfl⟩
  have HBd7 : Hid (Below w7.heap.size w7 wD) := Lib.hid (by rw [hwD]; exact (Below.refl _ _).drew)
  have HWd := Lib.hid (HW7.out.below HBd7.out)
  have HPut := Lib.hid (dput_ok 0 0 (Lib.hid z_castD) (by have := HN.out; omega) (Lib.hid (by rfl)) (fX s wt) (fun _ _ => 0) (Lib.hid (fun j _ => fX_one _ _ j)) (Lib.hid (fX_keys _ _)) (Lib.hid zero_right) s 0 wt (Lib.hid ⟨rfl, rfl, rfl⟩) s1 s2 (by decide) (by decide) u1 u2 vs vr wD (HE7.out.below HBd7.out) HWd.out.d)
  have HTx : Hid (L.T ≤ xb) := Lib.hid (Nat.le_trans HW4.out.tw HA7.out.2.2.2)
  refine wp_region_noPanic ?_
  refine wp_region_held_drew (S := fun w' => World.cell? w' ⟨X.s, 1, none⟩ = some (.pointer (some ⟨L.dP, 0, none⟩)) ∧ w'.rangeAt xb 0 (rowL (fX s wt))) (by kernel_rfl) (by rw [← hwD]; exact ⟨(HS7.out.below HBd7.out).c1, by rw [hwD]; exact HA7.out.1.drewR⟩) (fun hHeld => ?_)
  rw [← hwD] at hHeld ⊢
  clear hwD
  refine wpAnyH_take (i := 0) (v := ?_) (by rfl) (by kernel_rfl) (by kernel_rfl) (by kernel_rfl) (fun _ _ _ h => h) (Or.inl ⟨by kernel_rfl, ?_⟩) (by assumption) ?_; rotate_left 1; (focus (intro w hSw; (try dsimp only at hSw); simp only [List.getElem_toArray, List.getElem_cons_succ, List.getElem_cons_zero]; all_goals go_simp; all_goals (try with_reducible rfl))); (try simp only [Act.put, List.getElem_toArray, List.getElem_cons_succ, List.getElem_cons_zero, List.setIfInBounds_toArray, List.set_cons_zero, List.set_cons_succ])
  refine wpAnyH_take (i := 1) (v := ?_) (by rfl) (by kernel_rfl) (by kernel_rfl) (by kernel_rfl) (fun _ _ _ h => h) (Or.inl ⟨by kernel_rfl, ?_⟩) (by assumption) ?_; rotate_left 1; (focus (intro w hSw; (try dsimp only at hSw); simp only [List.getElem_toArray, List.getElem_cons_succ, List.getElem_cons_zero]; all_goals go_simp; all_goals (try with_reducible rfl))); (try simp only [Act.put, List.getElem_toArray, List.getElem_cons_succ, List.getElem_cons_zero, List.setIfInBounds_toArray, List.set_cons_zero, List.set_cons_succ])
  refine wpAnyH_take (i := 2) (v := ?_) (by rfl) (by kernel_rfl) (by kernel_rfl) (by kernel_rfl) (fun _ _ _ h => h) (Or.inl ⟨by kernel_rfl, ?_⟩) (by assumption) ?_; rotate_left 1; (focus (intro w hSw; (try dsimp only at hSw); simp only [List.getElem_toArray, List.getElem_cons_succ, List.getElem_cons_zero]; all_goals go_simp; all_goals (try with_reducible rfl))); (try simp only [Act.put, List.getElem_toArray, List.getElem_cons_succ, List.getElem_cons_zero, List.setIfInBounds_toArray, List.set_cons_zero, List.set_cons_succ])
  refine wpAnyH_take (i := 3) (v := ?_) (by rfl) (by kernel_rfl) (by kernel_rfl) (by kernel_rfl) (fun _ _ _ h => h) (Or.inl ⟨by kernel_rfl, ?_⟩) (by assumption) ?_; rotate_left 1; (focus (intro w hSw; (try dsimp only at hSw); simp only [List.getElem_toArray, List.getElem_cons_succ, List.getElem_cons_zero]; all_goals go_simp; all_goals (try with_reducible rfl))); (try simp only [Act.put, List.getElem_toArray, List.getElem_cons_succ, List.getElem_cons_zero, List.setIfInBounds_toArray, List.set_cons_zero, List.set_cons_succ])
  refine wpAnyH_take (i := 4) (v := .agg (rowL (fX s wt)).toArray) (by rfl) (by kernel_rfl) (by kernel_rfl) (by kernel_rfl) (fun _ _ _ h => h) (Or.inl ⟨by kernel_rfl, ?_⟩) (by assumption) ?_
  focus
    intro w hSw
    exact dload_exec (Operand.tmp 10) (by rfl) (by rfl) hSw.2
  (try simp only [Act.put, List.getElem_toArray, List.getElem_cons_succ, List.getElem_cons_zero, List.setIfInBounds_toArray, List.set_cons_zero, List.set_cons_succ])
  refine wpAnyH_ready (rs := [5]) (by kernel_rfl) (by simp) ?_; refine AllReadyH.cons (by rfl) (fun K hK => ?_) AllReadyH.nil; rw [if_pos (by kernel_rfl)]; simp only [List.getElem_toArray, List.getElem_cons_succ, List.getElem_cons_zero]
  go_wp2_with (first
    | (go_at_call 15; (with_reducible refine HPut.out.mono ?_); rintro e w8 ⟨rfl, hD, hb⟩; have HW8 := Lib.hid (HWd.out.doms hD hb); have HU8 : Hid (UpT L.T w7 w8) := Lib.hid ((UpT.below HBd7.out).trans (UpT.pb hb (by have h1 := HW7.out.db; have h2 := HW7.out.tt; omega) (by have h1 := HW7.out.db; have h2 := HW7.out.tt; omega))); clear hD hb))
  refine hK.out _ _ ⟨(HS7.out.upt HU8.out HSy.out.lo.1).c1, range_block HA7.out.1 (HU8.out.2 xb HTx.out HA7.out.2.2.1)⟩ (fun hHeld => ?_)
  clear hK K
  (try simp only [Act.put, List.getElem_toArray, List.getElem_cons_succ, List.getElem_cons_zero, List.setIfInBounds_toArray, List.set_cons_zero, List.set_cons_succ])
  refine wpAnyH_done (by kernel_rfl) ?_ _
  refine NoPanic.normal ?_
  clear sc HPut
  obtain ⟨D8, HD8⟩ : ∃ D8, Hid (D8 = { boughtD (openedB st0 (-1) 10) 0 0 0 with dW := updS (boughtD (openedB st0 (-1) 10) 0 0 0).dW 0 0 (rowL (fX s wt)) }) := ⟨_, Lib.hid rfl⟩
  have HW8 : Hid (BW w1 w8 L D8) := Lib.hid (by rw [HD8.out]; exact HW8.out)
  have HDt : Hid (D8.dt 0 = true ∧ D8.dv 0 = 0) := Lib.hid (by rw [HD8.out]; exact ⟨rfl, rfl⟩)
  have HDW : Hid (∀ j, j < 107 → D8.dW 0 j = fX s wt j) := Lib.hid (fun j hj => by rw [HD8.out]; exact updS_row _ 0 j _ hj)
  have HS8 := Lib.hid (HS7.out.upt HU8.out HSy.out.lo.1)
  have HX8 : Hid (w8.rangeAt xb 0 (rowL (fX s wt)) ∧ xb < w8.heap.size) := Lib.hid ⟨range_block HA7.out.1 (HU8.out.2 xb HTx.out HA7.out.2.2.1), Nat.lt_of_lt_of_le HA7.out.2.2.1 HU8.out.1⟩
  go_upto_region 14 with fail
  generalize ha : World.alloc w8 _ = w9; obtain ⟨ba, hba⟩ : ∃ ba, ba = w8.heap.size := ⟨_, rfl⟩; have HBa : Hid (Below w8.heap.size w8 w9) := Lib.hid (by rw [← ha]; exact (Below.refl _ _).alloc (Nat.le_refl _) _); have HKa : Hid (KeyC w9 ba 5 0 0 0 7) := Lib.hid (by rw [← ha, hba]; exact KeyC.new w8 5 0 0 0 7 _); have HLa : Hid (w8.heap.size ≤ ba) := Lib.hid (by rw [hba]; exact Nat.le_refl _); rw [← hba]; clear ha hba
  have c106 : w9.cell? ⟨xb, 106, none⟩ = some (.int .i64 wt) := (HBa.out.cell (p := ⟨xb, 106, none⟩) HX8.out.2).trans (range_at HX8.out.1 106 (by decide))
  go_upto_region 15 with fail
  generalize hb : World.alloc w9 _ = w10; obtain ⟨bb, hbb⟩ : ∃ bb, bb = w9.heap.size := ⟨_, rfl⟩; have HBb : Hid (Below w9.heap.size w9 w10) := Lib.hid (by rw [← hb]; exact (Below.refl _ _).alloc (Nat.le_refl _) _); have HKb : Hid (KeyC w10 bb 6 0 0 0 wt) := Lib.hid (by rw [← hb, hbb]; exact KeyC.new w9 6 0 0 0 wt _); have HLb : Hid (w9.heap.size ≤ bb) := Lib.hid (by rw [hbb]; exact Nat.le_refl _); rw [← hbb]; clear hb hbb
  have HB10 := Lib.hid (HBa.out.trans (HBb.out.mono HBa.out.size))
  clear c106
  have c106 : w10.cell? ⟨xb, 106, none⟩ = some (.int .i64 wt) := (HB10.out.cell (p := ⟨xb, 106, none⟩) HX8.out.2).trans (range_at HX8.out.1 106 (by decide))
  go_upto_region 16 with fail
  generalize hc : World.alloc w10 _ = w11; obtain ⟨bc, hbc⟩ : ∃ bc, bc = w10.heap.size := ⟨_, rfl⟩; have HBc : Hid (Below w10.heap.size w10 w11) := Lib.hid (by rw [← hc]; exact (Below.refl _ _).alloc (Nat.le_refl _) _); have HKc : Hid (KeyC w11 bc 6 0 0 0 (wt + 1)) := Lib.hid (by rw [← hc, hbc]; exact KeyC.new w10 6 0 0 0 (wt + 1) _); have HLc : Hid (w10.heap.size ≤ bc) := Lib.hid (by rw [hbc]; exact Nat.le_refl _); rw [← hbc]; clear hc hbc
  have HB11 := Lib.hid (HB10.out.trans (HBc.out.mono HB10.out.size))
  have HKa1 := Lib.hid ((HKa.out.below HBb.out).below HBc.out)
  have HKb1 := Lib.hid (HKb.out.below HBc.out)
  clear c106
  have c9 : w11.cell? ⟨xb, 9, none⟩ = some (.int .i64 s) := (HB11.out.cell (p := ⟨xb, 9, none⟩) HX8.out.2).trans (range_at HX8.out.1 9 (by decide))
  have HW11 := Lib.hid (HW8.out.below HB11.out)
  have HS11 := Lib.hid (HS8.out.below HB11.out)
  clear c9
  go_upto_region 17 with fail
  have HN0 : Hid (0 < L.dn) := Lib.hid (by have := HN.out; omega)
  have HLv : Hid (liveK L D8 4 0 0 = true) := Lib.hid (by rw [HD8.out]; have := HN.out; simp [liveK, thereB, boughtD, openedB, st0, upd]; omega)
  have HTi : Hid (∀ W, BW w1 W L D8 → TiAt W L 4 L.G3 0 ((0 : Nat) : Int) 0) := Lib.hid (fun W hW => by have h := hW.title3x 0 (by decide); rw [show D8.o3 0 = ((0 : Nat) : Int) by rw [HD8.out]; rfl, show D8.v3 0 = 0 by rw [HD8.out]; rfl] at h; exact h)
  obtain ⟨Dg, HDg⟩ : ∃ Dg, Hid (Dg = { D8 with dt := upd D8.dt 0 false, dv := upd D8.dv 0 (0 + 1), o3 := upd D8.o3 0 (-1), v3 := upd D8.v3 0 0 }) := ⟨_, Lib.hid rfl⟩
  have HG2 : Hid (Dg.nb = D8.nb ∧ Dg.pr = D8.pr ∧ Dg.us = D8.us) := Lib.hid (by rw [HDg.out]; exact ⟨rfl, rfl, rfl⟩)
  have HUb : Hid (∀ i, i < L.n → -1000000 ≤ D8.us i ∧ D8.us i ≤ 1000000) := Lib.hid (fun i _ => by rw [HD8.out]; show -1000000 ≤ addL (openedB st0 (-1) 10).us _ 1 i ∧ addL (openedB st0 (-1) 10).us _ 1 i ≤ 1000000; unfold addL; split <;> simp [openedB, st0, upd])
  have HGb : Hid (∀ W, BW w1 W L D8 → Calls Tryd.prog 36 #[.pointer (some ⟨L.P, 0, none⟩), Value.agg #[.int .i64 4, .int .i64 ((0 : Nat) : Int), .int .i64 0, .int .i64 0, .int .u32 0]] W fun e w' => e = .returned (.tuple #[]) ∧ BW w1 w' L Dg ∧ UpT L.T W w') := Lib.hid (fun W hW => by rw [HDg.out]; exact bgb_dom 0 0 0 0 (by decide) HN0.out (Lib.hid HDt.out.1) (Lib.hid HDt.out.2) (by decide) (by decide) W hW)
  obtain ⟨De, HDe⟩ : ∃ De, Hid (De = { Dg with us := addL D8.us (chL D8.pr ((0 : Nat) : Int)) (-1) }) := ⟨_, Lib.hid rfl⟩
  have HTd : Hid (De.dt 0 = false) := Lib.hid (by rw [HDe.out, HDg.out]; simp [upd])
  have hq0 : 0 < D8.nb := by rw [HD8.out]; exact Nat.zero_lt_one
  obtain ⟨wF, hwF⟩ : ∃ wF, wF = w11.drew := ⟨_, rfl⟩
  have HBF : Hid (Below w11.heap.size w11 wF) := Lib.hid (by rw [hwF]; exact (Below.refl _ _).drew)
  have HWF := Lib.hid (HW11.out.below HBF.out)
  have HSF := Lib.hid (HS11.out.below HBF.out)
  have HKd := Lib.hid (skey_dom 0 4 0 0 0 0 wF HSF.out (fun V hV => dkey_of 0 4 0 0 0 0 V (fun U hU => dkeyof_in 4 0 0 0 (Lib.hid z_castD) HN0.out (Lib.hid HDt.out.1) (by decide) 0 (Lib.hid HDt.out.2) U (HWF.out.below (hV.trans (hU.mono hV.size))).d)))
  refine wp_region_noPanic ?_
  refine wp_region_held_drew (S := fun w' => World.cell? w' ⟨X.s, 3, none⟩ = some (.pointer (some ⟨L.P, 0, none⟩))) (by kernel_rfl) (by rw [← hwF]; exact HSF.out.c3) (fun hHeld => ?_)
  rw [← hwF] at hHeld ⊢
  clear hwF
  refine wpAnyH_take (i := 0) (v := ?_) (by rfl) (by kernel_rfl) (by kernel_rfl) (by kernel_rfl) (fun _ _ _ h => h) (Or.inl ⟨by kernel_rfl, ?_⟩) (by assumption) ?_; rotate_left 1; (focus (intro w hSw; (try dsimp only at hSw); simp only [List.getElem_toArray, List.getElem_cons_succ, List.getElem_cons_zero]; all_goals go_simp; all_goals (try with_reducible rfl))); (try simp only [Act.put, List.getElem_toArray, List.getElem_cons_succ, List.getElem_cons_zero, List.setIfInBounds_toArray, List.set_cons_zero, List.set_cons_succ])
  refine wpAnyH_take (i := 1) (v := ?_) (by rfl) (by kernel_rfl) (by kernel_rfl) (by kernel_rfl) (fun _ _ _ h => h) (Or.inl ⟨by kernel_rfl, ?_⟩) (by assumption) ?_; rotate_left 1; (focus (intro w hSw; (try dsimp only at hSw); simp only [List.getElem_toArray, List.getElem_cons_succ, List.getElem_cons_zero]; all_goals go_simp; all_goals (try with_reducible rfl))); (try simp only [Act.put, List.getElem_toArray, List.getElem_cons_succ, List.getElem_cons_zero, List.setIfInBounds_toArray, List.set_cons_zero, List.set_cons_succ])
  refine wpAnyH_take (i := 2) (v := ?_) (by rfl) (by kernel_rfl) (by kernel_rfl) (by kernel_rfl) (fun _ _ _ h => h) (Or.inl ⟨by kernel_rfl, ?_⟩) (by assumption) ?_; rotate_left 1; (focus (intro w hSw; (try dsimp only at hSw); simp only [List.getElem_toArray, List.getElem_cons_succ, List.getElem_cons_zero]; all_goals go_simp; all_goals (try with_reducible rfl))); (try simp only [Act.put, List.getElem_toArray, List.getElem_cons_succ, List.getElem_cons_zero, List.setIfInBounds_toArray, List.set_cons_zero, List.set_cons_succ])
  refine wpAnyH_take (i := 3) (v := ?_) (by rfl) (by kernel_rfl) (by kernel_rfl) (by kernel_rfl) (fun _ _ _ h => h) (Or.inl ⟨by kernel_rfl, ?_⟩) (by assumption) ?_; rotate_left 1; (focus (intro w hSw; (try dsimp only at hSw); simp only [List.getElem_toArray, List.getElem_cons_succ, List.getElem_cons_zero]; all_goals go_simp; all_goals (try with_reducible rfl))); (try simp only [Act.put, List.getElem_toArray, List.getElem_cons_succ, List.getElem_cons_zero, List.setIfInBounds_toArray, List.set_cons_zero, List.set_cons_succ])
  refine wpAnyH_take (i := 4) (v := ?_) (by rfl) (by kernel_rfl) (by kernel_rfl) (by kernel_rfl) (fun _ _ _ h => h) (Or.inl ⟨by kernel_rfl, ?_⟩) (by assumption) ?_; rotate_left 1; (focus (intro w hSw; (try dsimp only at hSw); simp only [List.getElem_toArray, List.getElem_cons_succ, List.getElem_cons_zero]; all_goals go_simp; all_goals (try with_reducible rfl))); (try simp only [Act.put, List.getElem_toArray, List.getElem_cons_succ, List.getElem_cons_zero, List.setIfInBounds_toArray, List.set_cons_zero, List.set_cons_succ])
  refine wpAnyH_ready (rs := [5]) (by kernel_rfl) (by simp) ?_; refine AllReadyH.cons (by rfl) (fun K hK => ?_) AllReadyH.nil; rw [if_pos (by kernel_rfl)]; simp only [List.getElem_toArray, List.getElem_cons_succ, List.getElem_cons_zero]
  go_wp2_with (first
    | (go_at_call 17; (with_reducible refine HKd.out.mono ?_); rintro e w12 ⟨rfl, hb⟩; have HB12 := Lib.hid (HBF.out.trans (hb.mono HBF.out.size)); clear hb))
  have HW12 := Lib.hid (HW11.out.below HB12.out)
  refine hK.out _ _ ((HS11.out.below HB12.out).c3) (fun hHeld => ?_)
  clear hK K
  (try simp only [Act.put, List.getElem_toArray, List.getElem_cons_succ, List.getElem_cons_zero, List.setIfInBounds_toArray, List.set_cons_zero, List.set_cons_succ])
  refine wpAnyH_ready (rs := [6]) (by kernel_rfl) (by simp) ?_; refine AllReadyH.cons (by rfl) (fun K hK => ?_) AllReadyH.nil; rw [if_pos (by kernel_rfl)]; simp only [List.getElem_toArray, List.getElem_cons_succ, List.getElem_cons_zero]
  go_wp2_with (first
    | (go_at_call 16; (with_reducible refine (bgive_z 4 0 0 (Lib.hid z_castD) 0 0 0 L.G3 0 0 (Lib.hid z_castD) (by decide) hq0 HLv HG2 HUb _ HW12.out (HTi.out _ HW12.out) HGb.out).mono ?_); rintro e w13 ⟨rfl, hW, hu⟩; rw [← HDe.out] at hW; have HW13 := Lib.hid hW; have HU13 := Lib.hid ((UpT.below HB12.out).trans hu); clear hW hu))
  have HS13 := Lib.hid (HS11.out.upt HU13.out HSy.out.lo.1)
  have hz8 : L.T ≤ w8.heap.size := HW8.out.tw
  have HKa3 := Lib.hid (HKa1.out.upt HU13.out (Nat.le_trans hz8 HLa.out))
  have HKb3 := Lib.hid (HKb1.out.upt HU13.out (Nat.le_trans hz8 (Nat.le_trans HBa.out.size HLb.out)))
  have HKc3 := Lib.hid (HKc.out.upt HU13.out (Nat.le_trans hz8 (Nat.le_trans HB10.out.size HLc.out)))
  have c9 : w13.cell? ⟨xb, 9, none⟩ = some (.int .i64 s) := (World.cell?_of_block (a := ⟨xb, 9, none⟩) (HU13.out.2 xb HTx.out (Nat.lt_of_lt_of_le HX8.out.2 HB11.out.size))).trans ((HB11.out.cell (p := ⟨xb, 9, none⟩) HX8.out.2).trans (range_at HX8.out.1 9 (by decide)))
  clear hz8
  refine hK.out _ _ HS13.out.c3 (fun hHeld => ?_)
  clear hK K
  (try simp only [Act.put, List.getElem_toArray, List.getElem_cons_succ, List.getElem_cons_zero, List.setIfInBounds_toArray, List.set_cons_zero, List.set_cons_succ])
  refine wpAnyH_done (by kernel_rfl) ?_ _
  refine NoPanic.normal ?_
  go_upto_region 19 with fail
  have HWW : Hid (∀ W, Below w13.heap.size w13 W → DMD W L De ∧ SyB W X.s L.mb L.dP X.tP L.P X.fP X.q 0) := Lib.hid (fun W hb => ⟨(HW13.out.below hb).d, HS13.out.below hb⟩)
  have HGe : Hid (∀ W, Below w13.heap.size w13 W → Calls Tryd.prog 13 #[.pointer (some ⟨L.dP, 0, none⟩), .int .i64 0] W fun e w' => e = .returned (.tuple #[.agg (rowL zd).toArray, .bool false]) ∧ Below W.heap.size W w') := Lib.hid (fun W hb => dget_dead 0 0 (Lib.hid z_castD) HTd W (HWW.out W hb).1)
  have HFo : Hid (∀ j, j < 107 → (zd j).oneCell' = true) := Lib.hid (fun j _ => zd_one j)
  have C1 : Hid (∀ W, Below w13.heap.size w13 W → Calls Tryd.prog 18 #[.pointer (some ⟨X.s, 0, none⟩), .agg #[.int .i64 5, .int .i64 0, .int .i64 0, .int .i64 0, .int .u32 7]] W fun e w' => e = .returned (.bool false) ∧ Below W.heap.size W w') := Lib.hid (fun W hb => slive_start (s := X.s) 0 0 0 7 L.dp L.dR L.dn L.dc L.dB De.dt De.dv false (Lib.hid (by have h1 := HTd.out; simp [thereB, h1])) W (HWW.out W hb).2 (HWW.out W hb).1.pl.f0 (HWW.out W hb).1.pl.ar)
  have C2 : Hid (∀ W, Below w13.heap.size w13 W → Calls Tryd.prog 18 #[.pointer (some ⟨X.s, 0, none⟩), .agg #[.int .i64 6, .int .i64 0, .int .i64 0, .int .i64 0, .int .u32 wt]] W fun e w' => e = .returned (.bool false) ∧ Below W.heap.size W w') := Lib.hid (fun W hb => slive_resume 0 0 0 wt false W (fun V hV => swaits_dead 0 0 0 wt L.dp zd HFo u1 u2 V (HWW.out V (hb.trans (hV.mono hb.size))).2 (HWW.out V (hb.trans (hV.mono hb.size))).1.pl.f0 (fun U hU => HGe.out U ((hb.trans (hV.mono hb.size)).trans (hU.mono (Nat.le_trans hb.size hV.size))))))
  have C3 : Hid (∀ W, Below w13.heap.size w13 W → Calls Tryd.prog 18 #[.pointer (some ⟨X.s, 0, none⟩), .agg #[.int .i64 6, .int .i64 0, .int .i64 0, .int .i64 0, .int .u32 (wt + 1)]] W fun e w' => e = .returned (.bool false) ∧ Below W.heap.size W w') := Lib.hid (fun W hb => slive_resume 0 0 0 (wt + 1) false W (fun V hV => swaits_dead 0 0 0 (wt + 1) L.dp zd HFo (by omega) u3 V (HWW.out V (hb.trans (hV.mono hb.size))).2 (HWW.out V (hb.trans (hV.mono hb.size))).1.pl.f0 (fun U hU => HGe.out U ((hb.trans (hV.mono hb.size)).trans (hU.mono (Nat.le_trans hb.size hV.size))))))
  have C4 : Hid (∀ W, Below w13.heap.size w13 W → Calls Tryd.prog 17 #[.pointer (some ⟨X.s, 0, none⟩), .int .i64 6, .int .i64 0] W fun e w' => e = .returned (.agg #[.int .i64 0, .int .i64 0, .int .i64 0, .int .i64 0, .int .u32 0]) ∧ Below W.heap.size W w') := Lib.hid (fun W hb => skey_resume 0 0 0 0 0 0 W (HWW.out W hb).2 (fun V hV => dresume_dead 0 0 (Lib.hid z_castD) HTd V (HWW.out V (hb.trans (hV.mono hb.size))).1))
  have C5 := Lib.hid (same_void 6 0 0 0 wt (by decide))

  have HAb : Hid (Below w13.heap.size w13 w13.drew ∧ (World.cell? w13.drew ⟨ba, 0, none⟩ = some (.int .i64 5) ∧ World.cell? w13.drew ⟨ba, 1, none⟩ = some (.int .i64 0) ∧ World.cell? w13.drew ⟨ba, 2, none⟩ = some (.int .i64 0) ∧ World.cell? w13.drew ⟨ba, 3, none⟩ = some (.int .i64 0) ∧ World.cell? w13.drew ⟨ba, 4, none⟩ = some (.int .u32 7)) ∧ (World.cell? w13.drew ⟨bb, 0, none⟩ = some (.int .i64 6) ∧ World.cell? w13.drew ⟨bb, 1, none⟩ = some (.int .i64 0) ∧ World.cell? w13.drew ⟨bb, 2, none⟩ = some (.int .i64 0) ∧ World.cell? w13.drew ⟨bb, 3, none⟩ = some (.int .i64 0) ∧ World.cell? w13.drew ⟨bb, 4, none⟩ = some (.int .u32 wt)) ∧ (World.cell? w13.drew ⟨bc, 0, none⟩ = some (.int .i64 6) ∧ World.cell? w13.drew ⟨bc, 1, none⟩ = some (.int .i64 0) ∧ World.cell? w13.drew ⟨bc, 2, none⟩ = some (.int .i64 0) ∧ World.cell? w13.drew ⟨bc, 3, none⟩ = some (.int .i64 0) ∧ World.cell? w13.drew ⟨bc, 4, none⟩ = some (.int .u32 (wt + 1)))) := Lib.hid (have hd : Below w13.heap.size w13 w13.drew := (Below.refl _ _).drew; ⟨hd, (HKa3.out.below hd).five, (HKb3.out.below hd).five, (HKc3.out.below hd).five⟩)
  go_region_held3 (fun w' => Below w13.heap.size w13 w' ∧ (World.cell? w' ⟨ba, 0, none⟩ = some (.int .i64 5) ∧ World.cell? w' ⟨ba, 1, none⟩ = some (.int .i64 0) ∧ World.cell? w' ⟨ba, 2, none⟩ = some (.int .i64 0) ∧ World.cell? w' ⟨ba, 3, none⟩ = some (.int .i64 0) ∧ World.cell? w' ⟨ba, 4, none⟩ = some (.int .u32 7)) ∧ (World.cell? w' ⟨bb, 0, none⟩ = some (.int .i64 6) ∧ World.cell? w' ⟨bb, 1, none⟩ = some (.int .i64 0) ∧ World.cell? w' ⟨bb, 2, none⟩ = some (.int .i64 0) ∧ World.cell? w' ⟨bb, 3, none⟩ = some (.int .i64 0) ∧ World.cell? w' ⟨bb, 4, none⟩ = some (.int .u32 wt)) ∧ (World.cell? w' ⟨bc, 0, none⟩ = some (.int .i64 6) ∧ World.cell? w' ⟨bc, 1, none⟩ = some (.int .i64 0) ∧ World.cell? w' ⟨bc, 2, none⟩ = some (.int .i64 0) ∧ World.cell? w' ⟨bc, 3, none⟩ = some (.int .i64 0) ∧ World.cell? w' ⟨bc, 4, none⟩ = some (.int .u32 (wt + 1)))) (first | exact HAb.out | exact kk15 (by assumption) hb) (first
    | (go_at_call 18; (with_reducible refine (C1.out _ (And.left (by assumption))).mono ?_); rintro e w' ⟨rfl, hb⟩)
    | (go_at_call 18; (with_reducible refine (C2.out _ (And.left (by assumption))).mono ?_); rintro e w' ⟨rfl, hb⟩)
    | (go_at_call 18; (with_reducible refine (C3.out _ (And.left (by assumption))).mono ?_); rintro e w' ⟨rfl, hb⟩)
    | (go_at_call 17; (with_reducible refine (C4.out _ (And.left (by assumption))).mono ?_); rintro e w' ⟨rfl, hb⟩)
    | (go_at_call 19; (with_reducible refine (C5.out _).mono ?_); rintro e w' ⟨rfl, hb⟩)
    | (go_at_call 20; (with_reducible refine (door_auth _).mono ?_); rintro e w' ⟨rfl, hb⟩))
  go_wp2_with fail
  go_ret
  refine ⟨rfl, (HB1.out.trans (HW13.out.bel.mono HB1.out.size)).trans (Below.mono ?_ (Nat.le_trans HB1.out.size HW13.out.bel.size))⟩
  apply And.left
  assumption
theorem walk_SysDoors (a0 : Int) (a1 : Int) (a2 : Bool) (w : World) (w0 : (Lit.int .i64 a0).wf = true) (w1 : (Lit.int .i64 a1).wf = true) (hL : laidMetH Tryd.prog Rows.sysDoorsRow.laid w) :
    Calls Tryd.prog 4 #[.int .i64 a0, .int .i64 a1, .bool a2] w fun e w' => e = .returned (.bool true) ∧ Below w.heap.size w w' := by
  obtain ⟨vs, vr, hE⟩ := (errs2 hL ⟨_, by repeat (first | exact List.Mem.head _ | apply List.Mem.tail)⟩ ⟨_, by repeat (first | exact List.Mem.head _ | apply List.Mem.tail)⟩)
  clear hL
  obtain ⟨R, hR, CR⟩ := number_nat a0 4 4 rfl (by decide) (by decide) (fit64 w0).1 (fit64 w0).2
  obtain ⟨M, hM, CM⟩ := number_nat a1 50 50 rfl (by decide) (by decide) (fit64 w1).1 (fit64 w1).2
  cases a2
  · by_cases h1 : R = 1
    · subst h1
      exact doors_yes a0 a1 1 M (M : Int) hM (Lib.hid CR) (Lib.hid CM) (Lib.hid rfl) w _ _ hE
    · exact doors_no a0 a1 R M ((R : Int) + 1) (M : Int) (Lib.hid rfl) hR h1 hM (Lib.hid CR) (Lib.hid CM) (Lib.hid rfl) w _ _ hE
  · by_cases h1 : R = 1
    · subst h1
      exact doors_endy a0 a1 1 M (M : Int) hM (Lib.hid CR) (Lib.hid CM) (Lib.hid rfl) w _ _ hE
    · exact doors_endn a0 a1 R M ((R : Int) + 1) (M : Int) (Lib.hid rfl) hR h1 hM (Lib.hid CR) (Lib.hid CM) (Lib.hid rfl) w _ _ hE
end Go.Proofs.YtncopdhhchmpeaaDoor
