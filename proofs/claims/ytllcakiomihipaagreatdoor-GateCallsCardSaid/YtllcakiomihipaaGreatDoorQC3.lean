/-
  Dq, Yh, Yi, Less, ValidA, ValidB, ValidC, ValidD, ValidE, ValidZ, Orders, RightMath, Ref7, Ol, Kr, Ok, Kb, Mk2, Kc, Kd, Si, Ke, Oi, Om, On, Kf, StV, Rs, Rt, Yk, Yl, Ym, Yn, Yo, Yp, Yq, Yt, Yv, Yw, Qv, Qv2, Qv3, Ga, Gb, Gc: what GateCalls reaches of them.
-/
import Derived.Test.YtllcakiomihipaaGreatDoorQC2
namespace Go.Proofs.YtllcakiomihipaaGreatDoor
open Go.ChangeShapes Go.WideShapes Go.ChangeAt Go.RowKit
set_option linter.unusedVariables false
set_option linter.unusedSimpArgs false
theorem updS_row (W : Nat → Nat → Value) (i j : Nat) (f : Nat → Value) (hj : j < 107) : updS W i 0 (rowL f) i j = f j := by
  have h := updS_in W i 0 (rowL f) j (by rw [rowL_len]; exact hj)
  rw [Nat.zero_add, rowL_at f j hj] at h
  exact Option.some.inj h
theorem zd1_one (j : Nat) : (zd1 j).oneCell' = true := by
  unfold zd1
  split
  · rfl
  · exact zd_one j
/-- A domain of such a state, such a wait. -/
def fX (s wt : Int) (j : Nat) : Value := if j = 9 then .int .i64 s else if j = 106 then .int .i64 wt else zd1 j
theorem fX_keys (s wt : Int) : KeysIn (fX s wt) (fun _ _ => 0) := fun q r hq hr => by
  have e : (11 + (q * 5 + r) - 11) % 5 = r := by omega
  unfold fX zd1 zd kval
  rw [if_neg (by omega), if_neg (by omega), if_neg (by omega), if_neg (by omega), if_neg (by omega), if_neg (by omega), e]
theorem fX_zd1 : fX 1 0 = zd1 := by
  funext j
  unfold fX zd1 zd
  by_cases h : j = 9
  · simp [h]
  · by_cases h2 : j = 106
    · simp [h2]
    · simp [h, h2]
theorem range_at {w : World} {b : Nat} {f : Nat → Value} (h : w.rangeAt b 0 (rowL f)) (j : Nat) (hj : j < 107) : w.cell? ⟨b, j, none⟩ = some (f j) := by
  have := h j _ (rowL_at f j hj)
  rwa [Nat.zero_add] at this
end Go.Proofs.YtllcakiomihipaaGreatDoor
namespace Go.Proofs.YtllcakiomihipaaGreatDoor
open Go.ChangeShapes Go.WideShapes Go.ChangeAt Go.RowKit
set_option linter.unusedVariables false
set_option linter.unusedSimpArgs false
set_option maxRecDepth 100000 in
set_option maxHeartbeats 4000000 in
theorem dget_dead {base P p B G Q n c : Nat} {th : Nat → Bool} {vr_ : Nat → Int} {W : Nat → Nat → Value} (x : Int) (k : Nat) (hx : Hid (x = (k : Int))) (ht : Hid (th k = false)) (w : World) (h : DsAt w base P p B G Q n c th vr_ W) :
    Calls Tryz.prog 10 #[.pointer (some ⟨P, 0, none⟩), .int .i64 x] w fun e w' => e = .returned (.tuple #[.agg (rowL zd).toArray, .bool false]) ∧ Below w.heap.size w w' := by
  have H := Lib.hid h
  clear h
  go_enter Tryz.func10, Tryz.ntmps10
  go_upto_region 1 with fail
  generalize hA : World.alloc w _ = wA
  have HA : Hid (Below w.heap.size w wA ∧ World.there wA w.heap.size 0 107) := Lib.hid (by rw [← hA]; exact ⟨(Below.refl _ _).alloc (Nat.le_refl _) _, dthere_new _ _ _ (by rfl) _⟩)
  clear hA
  have H1 := Lib.hid (H.out.below HA.out.1)
  have f0 := H1.out.pl.f0
  have f1 := H1.out.pl.f1
  go_upto_region 2 with (first
    | (go_at_call 29; (with_reducible refine (athere_dead k x hx ht _ H1.out.pl.ar).mono ?_); rintro e w1 ⟨rfl, rfl⟩))
  have hz : ∀ w : World, (zeroValue 34).run Tryz.prog w = .ok (.agg (rowL zd).toArray) w := fun _ => by kernel_rfl
  go_wp2_with (first
    | (refine wpList_store_mid (by rfl) _ _ _ (by rfl) w.heap.size 0 (rowL zd).toArray (by rfl) (by rfl) HA.out.2 (by rw [rowL_size]; exact infoDomS) (rowL_one zd (fun j _ => zd_one j)) ?_))
  have hr : (wA.setCells w.heap.size 0 (rowL zd).toArray.toList).rangeAt w.heap.size 0 (rowL zd) := World.rangeAt_setCells_same wA w.heap.size 0 (rowL zd) (by rw [rowL_len]; exact HA.out.2)
  have hld := dload hr
  refine bodyPost_ret (v := .tuple #[.agg (rowL zd).toArray, .bool false]) (by simp [results, Tryz.results10, asAddr, hld]) rfl ⟨rfl, dbelow_cells HA.out.1 (Nat.le_refl _) _ _⟩
section
variable {s m d t b f q : Nat} {st : Int}
set_option maxRecDepth 100000 in
set_option maxHeartbeats 4000000 in
theorem slive_start (k1 k2 k3 k4 : Int) (dp dR n c base : Nat) (th : Nat → Bool) (vr : Nat → Int) (r : Bool) (hr : Hid ((thereB n th k1 && (vr k1.toNat == k2)) = r)) (w : World) (hB : SyB w s m d t b f q st) (hP : w.cell? ⟨d, 0, none⟩ = some (.pointer (some ⟨dp, 0, none⟩))) (hA : ArAt w base dp dR n c th vr) :
    Calls Tryz.prog 23 #[.pointer (some ⟨s, 0, none⟩), .agg #[.int .i64 5, .int .i64 k1, .int .i64 k2, .int .i64 k3, .int .u32 k4]] w fun e w' => e = .returned (.bool r) ∧ Below w.heap.size w w' := by
  have HA := Lib.hid (fun W (hW : Below w.heap.size w W) => alive_is k1 k2 r hr W (hA.below hW))
  have HB := Lib.hid hB
  have HP := Lib.hid hP
  have hdl : d < w.heap.size := cell_lt hP
  clear hA hB hP
  go_enter Tryz.func23, Tryz.ntmps23
  go_upto_region 1 with fail
  generalize hA : World.alloc w _ = wA
  obtain ⟨K, hK⟩ : ∃ K, K = w.heap.size := ⟨_, rfl⟩
  have HBa : Hid (Below w.heap.size w wA) := Lib.hid (by rw [← hA]; exact (Below.refl _ _).alloc (Nat.le_refl _) _)
  have kc0 : wA.cell? ⟨K, 0, none⟩ = some (.int .i64 5) := by rw [← hA, hK]; simp
  have kc1 : wA.cell? ⟨K, 1, none⟩ = some (.int .i64 k1) := by rw [← hA, hK]; simp
  have kc2 : wA.cell? ⟨K, 2, none⟩ = some (.int .i64 k2) := by rw [← hA, hK]; simp
  have sc := ((HB.out.below HBa.out).c1)
  have pc := (HBa.out.cell (p := ⟨d, 0, none⟩) hdl).trans HP.out
  rw [← hK]
  clear hA hK hdl
  go_wp2_with fail
  have HA9 := Lib.hid (fun n => HA.out (wA.drewN n) (below_drewN HBa.out n))
  go_quiet ((go_at_call 44; exact kquiet_left (HA9.out _)))
  go_wp2_with fail
  go_ret
  exact ⟨rfl, below_drewN HBa.out _⟩
end
end Go.Proofs.YtllcakiomihipaaGreatDoor
namespace Go.Proofs.YtllcakiomihipaaGreatDoor
open Go.ChangeShapes Go.WideShapes Go.ChangeAt Go.RowKit
set_option linter.unusedVariables false
set_option linter.unusedSimpArgs false
theorem zsize : Tryz.zeroCells34.size = 107 := by kernel_rfl
theorem row_put (w2 : World) (b : Nat) (F : Nat → Value) (ht : w2.there b 0 107) (ho : ∀ j, j < 107 → (F j).oneCell' = true) : Sem.run Tryz.prog (storeCells ⟨b, 0, none⟩ (rowL F)) w2 = .ok () (w2.setCells b 0 (rowL F)) := by
  have h := run_storeCells_cells (P := Tryz.prog) b 0 (rowL F) 0 w2 (fun j hj => by rw [rowL_len] at hj; have := (ht j hj).1; simpa using this) (fun j hj => by rw [rowL_len] at hj; have := (ht j hj).2; simpa using this) (fun v hv => by obtain ⟨j, hj, rfl⟩ := List.mem_map.1 hv; exact ho j (by simpa using hj))
  simpa using h
theorem row_new (w2 : World) (F : Nat → Value) (ho : ∀ j, j < 107 → (F j).oneCell' = true) : Sem.run Tryz.prog (storeCells ⟨w2.heap.size, 0, none⟩ (rowL F)) (w2.alloc (.cells Tryz.zeroCells34 34 (0, 0))) = .ok () ((w2.alloc (.cells Tryz.zeroCells34 34 (0, 0))).setCells w2.heap.size 0 (rowL F)) := row_put _ _ F (dthere_new w2 Tryz.zeroCells34 107 zsize 34) ho
theorem there_below {w w2 : World} {b : Nat} (h : w.there b 0 107) (hb : Below w.heap.size w w2) (hl : b < w.heap.size) : w2.there b 0 107 := fun j hj => ⟨by rw [hb.cell (p := ⟨b, 0 + j, none⟩) hl]; exact (h j hj).1, by rw [hb.frozen (p := ⟨b, 0 + j, none⟩) hl]; exact (h j hj).2⟩
theorem there_drew {w : World} {b : Nat} (h : w.there b 0 107) : w.drew.there b 0 107 := fun j hj => ⟨by simpa using (h j hj).1, by simpa using (h j hj).2⟩
section
variable {s m d t b f q : Nat} {st : Int}
set_option maxRecDepth 100000 in
set_option maxHeartbeats 4000000 in
theorem swaits_yes (k1 k2 k3 k4 : Int) (dp : Nat) (F : Nat → Value) (hF : Hid (∀ j, j < 107 → (F j).oneCell' = true)) (hs9 : Hid (F 9 = .int .i64 2)) (hs106 : Hid (F 106 = .int .i64 k4)) (h40 : 0 ≤ k4) (h41 : k4 ≤ 536870911) (w : World) (hB : SyB w s m d t b f q st) (hP : w.cell? ⟨d, 0, none⟩ = some (.pointer (some ⟨dp, 0, none⟩)))
    (hG : ∀ W, Below w.heap.size w W → Calls Tryz.prog 10 #[.pointer (some ⟨d, 0, none⟩), .int .i64 k1] W fun e w' => e = .returned (.tuple #[.agg (rowL F).toArray, .bool true]) ∧ Below W.heap.size W w')
    (hV : ∀ W, Below w.heap.size w W → Calls Tryz.prog 68 #[.pointer (some ⟨dp, 0, none⟩), .int .i64 k1] W fun e w' => e = .returned (.int .i64 k2) ∧ W = w') :
    Calls Tryz.prog 45 #[.pointer (some ⟨s, 0, none⟩), .agg #[.int .i64 6, .int .i64 k1, .int .i64 k2, .int .i64 k3, .int .u32 k4]] w fun e w' => e = .returned (.bool true) ∧ Below w.heap.size w w' := by
  have HG := Lib.hid hG
  have HV := Lib.hid hV
  have HB := Lib.hid hB
  have HP := Lib.hid hP
  have HdL : Hid (d < w.heap.size) := Lib.hid (cell_lt hP)
  clear hG hB hP
  go_enter Tryz.func45, Tryz.ntmps45
  go_upto_region 1 with fail
  generalize hA : World.alloc w _ = wA
  obtain ⟨K, hK⟩ : ∃ K, K = w.heap.size := ⟨_, rfl⟩
  have HBa : Hid (Below w.heap.size w wA) := Lib.hid (by rw [← hA]; exact (Below.refl _ _).alloc (Nat.le_refl _) _)
  have HK0 : Hid (KeyC wA K 6 k1 k2 k3 k4) := Lib.hid (by rw [← hA, hK]; exact KeyC.new w 6 k1 k2 k3 k4 _)
  rw [← hK]
  clear hA hK
  go_cut [5, 6] (fun u o wx => ∃ bx : Nat, u = .pointer (some ⟨bx, 0, none⟩) ∧ o = .bool true ∧ Below w.heap.size w wx ∧ KeyC wx K 6 k1 k2 k3 k4 ∧ wx.rangeAt bx 0 (rowL F))
  case first =>
    have sc := ((HB.out.below HBa.out).c1)
    have kc1 := HK0.out.c1
    have HBd : Hid (Below wA.heap.size wA wA.drew) := Lib.hid (Below.refl _ _).drew
    have HBo : Hid (∀ o, Below wA.heap.size wA (wA.alloc o).drew) := Lib.hid (fun o => ((Below.refl _ _).alloc (Nat.le_refl _) o).drew)
    have scA : ∀ o, (wA.alloc o).cell? ⟨s, 1, none⟩ = some (.pointer (some ⟨d, 0, none⟩)) := fun o => ((HB.out.below HBa.out).below ((Below.refl wA.heap.size wA).alloc (Nat.le_refl _) o)).c1
    have kcA : ∀ o, (wA.alloc o).cell? ⟨K, 1, none⟩ = some (.int .i64 k1) := fun o => (HK0.out.below ((Below.refl wA.heap.size wA).alloc (Nat.le_refl _) o)).c1
    go_region_with (first | (go_at_call 10; (with_reducible refine (HG.out _ (HBa.out.trans (HBd.out.mono HBa.out.size))).mono ?_); rintro e w2 ⟨rfl, hb⟩; have HBB := Lib.hid hb; have hsN := row_new w2 F hF.out; clear hb) | (go_at_call 10; (with_reducible refine (HG.out _ (HBa.out.trans ((HBo.out _).mono HBa.out.size))).mono ?_); rintro e w2 ⟨rfl, hb⟩; have HBA := Lib.hid hb; have HTh := Lib.hid (there_below (there_drew (dthere_new wA Tryz.zeroCells34 107 zsize 34)) hb (by simp)); have hsN := row_put w2 wA.heap.size F HTh.out hF.out; clear hb))
    all_goals (go_wp2_with fail; go_meet; clear sc kc1 scA kcA)
    all_goals (first
      | (have hz : wA.heap.size ≤ w2.heap.size := HBB.out.size; have hb := dbelow_cells ((HBd.out.trans (HBB.out.mono (by simp))).alloc hz (.cells Tryz.zeroCells34 34 (0, 0))) hz (rowL F) 0; exact ⟨_, rfl, rfl, HBa.out.trans (hb.mono HBa.out.size), HK0.out.below hb, World.rangeAt_setCells_same _ _ 0 (rowL F) (by rw [rowL_len]; exact dthere_new _ _ 107 zsize _)⟩)
      | (have hb := dbelow_cells ((HBo.out _).trans (HBA.out.mono (by simp))) (Nat.le_refl _) (rowL F) 0; exact ⟨_, rfl, rfl, HBa.out.trans (hb.mono HBa.out.size), HK0.out.below hb, World.rangeAt_setCells_same _ _ 0 (rowL F) (by rw [rowL_len]; exact HTh.out)⟩))
  case rest =>
    obtain ⟨bx, rfl, rfl, hb, ky, hr⟩ := hcut
    have HC := Lib.hid hb
    have c9 := (range_at hr 9 (by decide)).trans (congrArg some hs9.out)
    have c106 := (range_at hr 106 (by decide)).trans (congrArg some hs106.out)
    have q1 := ky.c1
    have q2 := ky.c2
    have q4 := ky.c4
    have sc := (HB.out.below hb).c1
    have pc := (hb.cell (p := ⟨d, 0, none⟩) HdL.out).trans HP.out
    have HV9 := Lib.hid (fun n => HV.out _ (below_drewN hb n))
    have hk4 : IntKind.i64.wrap k4 = k4 := by rw [IntKind.wrap_i64]; omega
    clear hb ky hr
    go_wp2_with fail
    go_quiet ((go_at_call 68; exact kquiet_left (HV9.out _)))
    go_wp2_with fail
    go_ret
    exact ⟨rfl, below_drewN HC.out _⟩
set_option maxRecDepth 100000 in
set_option maxHeartbeats 4000000 in
theorem swaits_other (k1 k2 k3 k4 : Int) (dp : Nat) (F : Nat → Value) (hF : Hid (∀ j, j < 107 → (F j).oneCell' = true)) (hs9 : Hid (F 9 = .int .i64 2)) (wt : Int) (hs106 : Hid (F 106 = .int .i64 wt)) (hne : (wt == k4) = false) (h40 : 0 ≤ k4) (h41 : k4 ≤ 536870911) (w : World) (hB : SyB w s m d t b f q st) (hP : w.cell? ⟨d, 0, none⟩ = some (.pointer (some ⟨dp, 0, none⟩)))
    (hG : ∀ W, Below w.heap.size w W → Calls Tryz.prog 10 #[.pointer (some ⟨d, 0, none⟩), .int .i64 k1] W fun e w' => e = .returned (.tuple #[.agg (rowL F).toArray, .bool true]) ∧ Below W.heap.size W w')
    (hV : ∀ W, Below w.heap.size w W → Calls Tryz.prog 68 #[.pointer (some ⟨dp, 0, none⟩), .int .i64 k1] W fun e w' => e = .returned (.int .i64 k2) ∧ W = w') :
    Calls Tryz.prog 45 #[.pointer (some ⟨s, 0, none⟩), .agg #[.int .i64 6, .int .i64 k1, .int .i64 k2, .int .i64 k3, .int .u32 k4]] w fun e w' => e = .returned (.bool false) ∧ Below w.heap.size w w' := by
  have HG := Lib.hid hG
  have HV := Lib.hid hV
  have HB := Lib.hid hB
  have HP := Lib.hid hP
  have HdL : Hid (d < w.heap.size) := Lib.hid (cell_lt hP)
  clear hG hB hP
  go_enter Tryz.func45, Tryz.ntmps45
  go_upto_region 1 with fail
  generalize hA : World.alloc w _ = wA
  obtain ⟨K, hK⟩ : ∃ K, K = w.heap.size := ⟨_, rfl⟩
  have HBa : Hid (Below w.heap.size w wA) := Lib.hid (by rw [← hA]; exact (Below.refl _ _).alloc (Nat.le_refl _) _)
  have HK0 : Hid (KeyC wA K 6 k1 k2 k3 k4) := Lib.hid (by rw [← hA, hK]; exact KeyC.new w 6 k1 k2 k3 k4 _)
  rw [← hK]
  clear hA hK
  go_cut [5, 6] (fun u o wx => ∃ bx : Nat, u = .pointer (some ⟨bx, 0, none⟩) ∧ o = .bool true ∧ Below w.heap.size w wx ∧ KeyC wx K 6 k1 k2 k3 k4 ∧ wx.rangeAt bx 0 (rowL F))
  case first =>
    have sc := ((HB.out.below HBa.out).c1)
    have kc1 := HK0.out.c1
    have HBd : Hid (Below wA.heap.size wA wA.drew) := Lib.hid (Below.refl _ _).drew
    have HBo : Hid (∀ o, Below wA.heap.size wA (wA.alloc o).drew) := Lib.hid (fun o => ((Below.refl _ _).alloc (Nat.le_refl _) o).drew)
    have scA : ∀ o, (wA.alloc o).cell? ⟨s, 1, none⟩ = some (.pointer (some ⟨d, 0, none⟩)) := fun o => ((HB.out.below HBa.out).below ((Below.refl wA.heap.size wA).alloc (Nat.le_refl _) o)).c1
    have kcA : ∀ o, (wA.alloc o).cell? ⟨K, 1, none⟩ = some (.int .i64 k1) := fun o => (HK0.out.below ((Below.refl wA.heap.size wA).alloc (Nat.le_refl _) o)).c1
    go_region_with (first | (go_at_call 10; (with_reducible refine (HG.out _ (HBa.out.trans (HBd.out.mono HBa.out.size))).mono ?_); rintro e w2 ⟨rfl, hb⟩; have HBB := Lib.hid hb; have hsN := row_new w2 F hF.out; clear hb) | (go_at_call 10; (with_reducible refine (HG.out _ (HBa.out.trans ((HBo.out _).mono HBa.out.size))).mono ?_); rintro e w2 ⟨rfl, hb⟩; have HBA := Lib.hid hb; have HTh := Lib.hid (there_below (there_drew (dthere_new wA Tryz.zeroCells34 107 zsize 34)) hb (by simp)); have hsN := row_put w2 wA.heap.size F HTh.out hF.out; clear hb))
    all_goals (go_wp2_with fail; go_meet; clear sc kc1 scA kcA)
    all_goals (first
      | (have hz : wA.heap.size ≤ w2.heap.size := HBB.out.size; have hb := dbelow_cells ((HBd.out.trans (HBB.out.mono (by simp))).alloc hz (.cells Tryz.zeroCells34 34 (0, 0))) hz (rowL F) 0; exact ⟨_, rfl, rfl, HBa.out.trans (hb.mono HBa.out.size), HK0.out.below hb, World.rangeAt_setCells_same _ _ 0 (rowL F) (by rw [rowL_len]; exact dthere_new _ _ 107 zsize _)⟩)
      | (have hb := dbelow_cells ((HBo.out _).trans (HBA.out.mono (by simp))) (Nat.le_refl _) (rowL F) 0; exact ⟨_, rfl, rfl, HBa.out.trans (hb.mono HBa.out.size), HK0.out.below hb, World.rangeAt_setCells_same _ _ 0 (rowL F) (by rw [rowL_len]; exact HTh.out)⟩))
  case rest =>
    obtain ⟨bx, rfl, rfl, hb, ky, hr⟩ := hcut
    have HC := Lib.hid hb
    have c9 := (range_at hr 9 (by decide)).trans (congrArg some hs9.out)
    have c106 := (range_at hr 106 (by decide)).trans (congrArg some hs106.out)
    have q1 := ky.c1
    have q2 := ky.c2
    have q4 := ky.c4
    have sc := (HB.out.below hb).c1
    have pc := (hb.cell (p := ⟨d, 0, none⟩) HdL.out).trans HP.out
    have HV9 := Lib.hid (fun n => HV.out _ (below_drewN hb n))
    have hk4 : IntKind.i64.wrap k4 = k4 := by rw [IntKind.wrap_i64]; omega
    clear hb ky hr
    go_wp2_with fail
    go_quiet ((go_at_call 68; exact kquiet_left (HV9.out _)))
    go_wp2_with fail
    go_ret
    exact ⟨rfl, below_drewN HC.out _⟩
set_option maxRecDepth 100000 in
set_option maxHeartbeats 4000000 in
theorem swaits_state (k1 k2 k3 k4 : Int) (dp : Nat) (F : Nat → Value) (hF : Hid (∀ j, j < 107 → (F j).oneCell' = true)) (sv : Int) (hs9 : Hid (F 9 = .int .i64 sv)) (hne : (sv == 2) = false) (h40 : 0 ≤ k4) (h41 : k4 ≤ 536870911) (w : World) (hB : SyB w s m d t b f q st) (hP : w.cell? ⟨d, 0, none⟩ = some (.pointer (some ⟨dp, 0, none⟩)))
    (hG : ∀ W, Below w.heap.size w W → Calls Tryz.prog 10 #[.pointer (some ⟨d, 0, none⟩), .int .i64 k1] W fun e w' => e = .returned (.tuple #[.agg (rowL F).toArray, .bool true]) ∧ Below W.heap.size W w')
    (hV : ∀ W, Below w.heap.size w W → Calls Tryz.prog 68 #[.pointer (some ⟨dp, 0, none⟩), .int .i64 k1] W fun e w' => e = .returned (.int .i64 k2) ∧ W = w') :
    Calls Tryz.prog 45 #[.pointer (some ⟨s, 0, none⟩), .agg #[.int .i64 6, .int .i64 k1, .int .i64 k2, .int .i64 k3, .int .u32 k4]] w fun e w' => e = .returned (.bool false) ∧ Below w.heap.size w w' := by
  have HG := Lib.hid hG
  have HV := Lib.hid hV
  have HB := Lib.hid hB
  have HP := Lib.hid hP
  have HdL : Hid (d < w.heap.size) := Lib.hid (cell_lt hP)
  clear hG hB hP
  go_enter Tryz.func45, Tryz.ntmps45
  go_upto_region 1 with fail
  generalize hA : World.alloc w _ = wA
  obtain ⟨K, hK⟩ : ∃ K, K = w.heap.size := ⟨_, rfl⟩
  have HBa : Hid (Below w.heap.size w wA) := Lib.hid (by rw [← hA]; exact (Below.refl _ _).alloc (Nat.le_refl _) _)
  have HK0 : Hid (KeyC wA K 6 k1 k2 k3 k4) := Lib.hid (by rw [← hA, hK]; exact KeyC.new w 6 k1 k2 k3 k4 _)
  rw [← hK]
  clear hA hK
  go_cut [5, 6] (fun u o wx => ∃ bx : Nat, u = .pointer (some ⟨bx, 0, none⟩) ∧ o = .bool true ∧ Below w.heap.size w wx ∧ KeyC wx K 6 k1 k2 k3 k4 ∧ wx.rangeAt bx 0 (rowL F))
  case first =>
    have sc := ((HB.out.below HBa.out).c1)
    have kc1 := HK0.out.c1
    have HBd : Hid (Below wA.heap.size wA wA.drew) := Lib.hid (Below.refl _ _).drew
    have HBo : Hid (∀ o, Below wA.heap.size wA (wA.alloc o).drew) := Lib.hid (fun o => ((Below.refl _ _).alloc (Nat.le_refl _) o).drew)
    have scA : ∀ o, (wA.alloc o).cell? ⟨s, 1, none⟩ = some (.pointer (some ⟨d, 0, none⟩)) := fun o => ((HB.out.below HBa.out).below ((Below.refl wA.heap.size wA).alloc (Nat.le_refl _) o)).c1
    have kcA : ∀ o, (wA.alloc o).cell? ⟨K, 1, none⟩ = some (.int .i64 k1) := fun o => (HK0.out.below ((Below.refl wA.heap.size wA).alloc (Nat.le_refl _) o)).c1
    go_region_with (first | (go_at_call 10; (with_reducible refine (HG.out _ (HBa.out.trans (HBd.out.mono HBa.out.size))).mono ?_); rintro e w2 ⟨rfl, hb⟩; have HBB := Lib.hid hb; have hsN := row_new w2 F hF.out; clear hb) | (go_at_call 10; (with_reducible refine (HG.out _ (HBa.out.trans ((HBo.out _).mono HBa.out.size))).mono ?_); rintro e w2 ⟨rfl, hb⟩; have HBA := Lib.hid hb; have HTh := Lib.hid (there_below (there_drew (dthere_new wA Tryz.zeroCells34 107 zsize 34)) hb (by simp)); have hsN := row_put w2 wA.heap.size F HTh.out hF.out; clear hb))
    all_goals (go_wp2_with fail; go_meet; clear sc kc1 scA kcA)
    all_goals (first
      | (have hz : wA.heap.size ≤ w2.heap.size := HBB.out.size; have hb := dbelow_cells ((HBd.out.trans (HBB.out.mono (by simp))).alloc hz (.cells Tryz.zeroCells34 34 (0, 0))) hz (rowL F) 0; exact ⟨_, rfl, rfl, HBa.out.trans (hb.mono HBa.out.size), HK0.out.below hb, World.rangeAt_setCells_same _ _ 0 (rowL F) (by rw [rowL_len]; exact dthere_new _ _ 107 zsize _)⟩)
      | (have hb := dbelow_cells ((HBo.out _).trans (HBA.out.mono (by simp))) (Nat.le_refl _) (rowL F) 0; exact ⟨_, rfl, rfl, HBa.out.trans (hb.mono HBa.out.size), HK0.out.below hb, World.rangeAt_setCells_same _ _ 0 (rowL F) (by rw [rowL_len]; exact HTh.out)⟩))
  case rest =>
    obtain ⟨bx, rfl, rfl, hb, ky, hr⟩ := hcut
    have HC := Lib.hid hb
    have c9 := (range_at hr 9 (by decide)).trans (congrArg some hs9.out)
    have q1 := ky.c1
    have q2 := ky.c2
    have q4 := ky.c4
    have sc := (HB.out.below hb).c1
    have pc := (hb.cell (p := ⟨d, 0, none⟩) HdL.out).trans HP.out
    have HV9 := Lib.hid (fun n => HV.out _ (below_drewN hb n))
    have hk4 : IntKind.i64.wrap k4 = k4 := by rw [IntKind.wrap_i64]; omega
    clear hb ky hr
    go_wp2_with fail
    go_quiet ((go_at_call 68; exact kquiet_left (HV9.out _)))
    go_wp2_with fail
    go_ret
    exact ⟨rfl, below_drewN HC.out _⟩
set_option maxRecDepth 100000 in
set_option maxHeartbeats 4000000 in
theorem swaits_dead (k1 k2 k3 k4 : Int) (dp : Nat) (F : Nat → Value) (hF : Hid (∀ j, j < 107 → (F j).oneCell' = true)) (h40 : 0 ≤ k4) (h41 : k4 ≤ 536870911) (w : World) (hB : SyB w s m d t b f q st) (hP : w.cell? ⟨d, 0, none⟩ = some (.pointer (some ⟨dp, 0, none⟩)))
    (hG : ∀ W, Below w.heap.size w W → Calls Tryz.prog 10 #[.pointer (some ⟨d, 0, none⟩), .int .i64 k1] W fun e w' => e = .returned (.tuple #[.agg (rowL F).toArray, .bool false]) ∧ Below W.heap.size W w') :
    Calls Tryz.prog 45 #[.pointer (some ⟨s, 0, none⟩), .agg #[.int .i64 6, .int .i64 k1, .int .i64 k2, .int .i64 k3, .int .u32 k4]] w fun e w' => e = .returned (.bool false) ∧ Below w.heap.size w w' := by
  have HG := Lib.hid hG
  have HB := Lib.hid hB
  have HP := Lib.hid hP
  have HdL : Hid (d < w.heap.size) := Lib.hid (cell_lt hP)
  clear hG hB hP
  go_enter Tryz.func45, Tryz.ntmps45
  go_upto_region 1 with fail
  generalize hA : World.alloc w _ = wA
  obtain ⟨K, hK⟩ : ∃ K, K = w.heap.size := ⟨_, rfl⟩
  have HBa : Hid (Below w.heap.size w wA) := Lib.hid (by rw [← hA]; exact (Below.refl _ _).alloc (Nat.le_refl _) _)
  have HK0 : Hid (KeyC wA K 6 k1 k2 k3 k4) := Lib.hid (by rw [← hA, hK]; exact KeyC.new w 6 k1 k2 k3 k4 _)
  rw [← hK]
  clear hA hK
  go_cut [5, 6] (fun u o wx => ∃ bx : Nat, u = .pointer (some ⟨bx, 0, none⟩) ∧ o = .bool false ∧ Below w.heap.size w wx ∧ KeyC wx K 6 k1 k2 k3 k4 ∧ wx.rangeAt bx 0 (rowL F))
  case first =>
    have sc := ((HB.out.below HBa.out).c1)
    have kc1 := HK0.out.c1
    have HBd : Hid (Below wA.heap.size wA wA.drew) := Lib.hid (Below.refl _ _).drew
    have HBo : Hid (∀ o, Below wA.heap.size wA (wA.alloc o).drew) := Lib.hid (fun o => ((Below.refl _ _).alloc (Nat.le_refl _) o).drew)
    have scA : ∀ o, (wA.alloc o).cell? ⟨s, 1, none⟩ = some (.pointer (some ⟨d, 0, none⟩)) := fun o => ((HB.out.below HBa.out).below ((Below.refl wA.heap.size wA).alloc (Nat.le_refl _) o)).c1
    have kcA : ∀ o, (wA.alloc o).cell? ⟨K, 1, none⟩ = some (.int .i64 k1) := fun o => (HK0.out.below ((Below.refl wA.heap.size wA).alloc (Nat.le_refl _) o)).c1
    go_region_with (first | (go_at_call 10; (with_reducible refine (HG.out _ (HBa.out.trans (HBd.out.mono HBa.out.size))).mono ?_); rintro e w2 ⟨rfl, hb⟩; have HBB := Lib.hid hb; have hsN := row_new w2 F hF.out; clear hb) | (go_at_call 10; (with_reducible refine (HG.out _ (HBa.out.trans ((HBo.out _).mono HBa.out.size))).mono ?_); rintro e w2 ⟨rfl, hb⟩; have HBA := Lib.hid hb; have HTh := Lib.hid (there_below (there_drew (dthere_new wA Tryz.zeroCells34 107 zsize 34)) hb (by simp)); have hsN := row_put w2 wA.heap.size F HTh.out hF.out; clear hb))
    all_goals (go_wp2_with fail; go_meet; clear sc kc1 scA kcA)
    all_goals (first
      | (have hz : wA.heap.size ≤ w2.heap.size := HBB.out.size; have hb := dbelow_cells ((HBd.out.trans (HBB.out.mono (by simp))).alloc hz (.cells Tryz.zeroCells34 34 (0, 0))) hz (rowL F) 0; exact ⟨_, rfl, rfl, HBa.out.trans (hb.mono HBa.out.size), HK0.out.below hb, World.rangeAt_setCells_same _ _ 0 (rowL F) (by rw [rowL_len]; exact dthere_new _ _ 107 zsize _)⟩)
      | (have hb := dbelow_cells ((HBo.out _).trans (HBA.out.mono (by simp))) (Nat.le_refl _) (rowL F) 0; exact ⟨_, rfl, rfl, HBa.out.trans (hb.mono HBa.out.size), HK0.out.below hb, World.rangeAt_setCells_same _ _ 0 (rowL F) (by rw [rowL_len]; exact HTh.out)⟩))
  case rest =>
    obtain ⟨bx, rfl, rfl, hb, ky, hr⟩ := hcut
    have HC := Lib.hid hb
    have q1 := ky.c1
    have q2 := ky.c2
    have q4 := ky.c4
    have sc := (HB.out.below hb).c1
    have pc := (hb.cell (p := ⟨d, 0, none⟩) HdL.out).trans HP.out
    have hk4 : IntKind.i64.wrap k4 = k4 := by rw [IntKind.wrap_i64]; omega
    clear hb ky hr
    go_wp2_with fail
    go_quiet (fail)
    go_wp2_with fail
    go_ret
    exact ⟨rfl, below_drewN HC.out _⟩
set_option maxRecDepth 100000 in
set_option maxHeartbeats 4000000 in
theorem slive_resume (k1 k2 k3 k4 : Int) (r : Bool) (w : World) (hC : ∀ W, Below w.heap.size w W → Calls Tryz.prog 45 #[.pointer (some ⟨s, 0, none⟩), .agg #[.int .i64 6, .int .i64 k1, .int .i64 k2, .int .i64 k3, .int .u32 k4]] W fun e w' => e = .returned (.bool r) ∧ Below W.heap.size W w') :
    Calls Tryz.prog 23 #[.pointer (some ⟨s, 0, none⟩), .agg #[.int .i64 6, .int .i64 k1, .int .i64 k2, .int .i64 k3, .int .u32 k4]] w fun e w' => e = .returned (.bool r) ∧ Below w.heap.size w w' := by
  have HC := Lib.hid hC
  clear hC
  go_enter Tryz.func23, Tryz.ntmps23
  go_upto_region 1 with fail
  generalize hA : World.alloc w _ = wA
  obtain ⟨K, hK⟩ : ∃ K, K = w.heap.size := ⟨_, rfl⟩
  have HBa : Hid (Below w.heap.size w wA) := Lib.hid (by rw [← hA]; exact (Below.refl _ _).alloc (Nat.le_refl _) _)
  have HK0 : Hid (KeyC wA K 6 k1 k2 k3 k4) := Lib.hid (by rw [← hA, hK]; exact KeyC.new w 6 k1 k2 k3 k4 _)
  have kc0 := HK0.out.c0
  have kc1 := HK0.out.c1
  have kc2 := HK0.out.c2
  have kc3 := HK0.out.c3
  have kc4 := HK0.out.c4
  rw [← hK]
  clear hA hK
  go_wp2_with (first
    | (go_at_call 45; (with_reducible refine (HC.out _ HBa.out).mono ?_); rintro e w1 ⟨rfl, hb⟩; have HB1 := Lib.hid (HBa.out.trans (hb.mono HBa.out.size)); clear hb))
  go_ret
  exact ⟨rfl, HB1.out⟩
end
end Go.Proofs.YtllcakiomihipaaGreatDoor
namespace Go.Proofs.YtllcakiomihipaaGreatDoor
open Go.ChangeShapes Go.WideShapes Go.ChangeAt Go.RowKit
set_option linter.unusedVariables false
/-- Rights taken away, one by one; other numbers do nothing. -/
def lessOne (r x : Int) : Int := if x = 1 ∨ x = 2 ∨ x = 4 then bits BinOp.or IntKind.i64 r x else r
def lessR (r : Int) (l : List Int) : Int := l.foldl lessOne r
/-- A slice of numbers whose elements are xs. -/
structure RowI (w : World) (a : Option Addr) (len : Nat) (xs : List Int) : Prop where
  len_eq : xs.length = len
  cells : len = 0 ∨ ∃ b off, a = some ⟨b, off, none⟩ ∧ b < w.heap.size ∧ ∀ i, i < len → w.cell? ⟨b, off + i, none⟩ = some (.int .i64 (xs.getD i 0))

/-- The worlds within Less: the key's box, the answer's place. -/
structure LRs (w wr : World) (k0 k1 k2 R k4 : Int) : Prop where
  bel : Below w.heap.size w wr
  size : w.heap.size + 1 < wr.heap.size
  box : wr.cell? ⟨w.heap.size, 0, none⟩ = some (.int .i64 k0) ∧ wr.cell? ⟨w.heap.size, 1, none⟩ = some (.int .i64 k1) ∧ wr.cell? ⟨w.heap.size, 2, none⟩ = some (.int .i64 k2) ∧ wr.cell? ⟨w.heap.size, 3, none⟩ = some (.int .i64 R) ∧ wr.cell? ⟨w.heap.size, 4, none⟩ = some (.int .u32 k4)
  out : ∀ i, i < 5 → ∃ v, wr.cell? ⟨w.heap.size + 1, i, none⟩ = some v
  fr : ∀ i, wr.frozen? ⟨w.heap.size, i, none⟩ = false
  fr1 : ∀ i, wr.frozen? ⟨w.heap.size + 1, i, none⟩ = false
theorem LRs.start (w w1 : World) (k0 k1 k2 k3 k4 : Int)
    (hb : Below ((w.alloc (.cells #[.int .i64 k0, .int .i64 k1, .int .i64 k2, .int .i64 k3, .int .u32 k4] 31)).alloc (.cells #[.int .i64 0, .int .i64 0, .int .i64 0, .int .i64 0, .int .u32 0] 31)).heap.size ((w.alloc (.cells #[.int .i64 k0, .int .i64 k1, .int .i64 k2, .int .i64 k3, .int .u32 k4] 31)).alloc (.cells #[.int .i64 0, .int .i64 0, .int .i64 0, .int .i64 0, .int .u32 0] 31)) w1) : LRs w w1 k0 k1 k2 k3 k4 := by
  have hc := (bcell hb).1
  have hf := (bcell hb).2
  have hz := hb.size
  simp at hz
  refine ⟨Below.trans (((Below.refl _ _).alloc (Nat.le_refl _) _).alloc (by simp) _) (hb.mono (by simp; omega)), by omega, ?_, fun i hi => ?_, fun i => ?_, fun i => ?_⟩
  · refine ⟨?_, ?_, ?_, ?_, ?_⟩ <;> (rw [hc _ _ (by simp; omega)]; simp)
  · rw [hc _ _ (by simp)]
    match i, hi with
    | 0, _ => exact ⟨_, by simp; rfl⟩
    | 1, _ => exact ⟨_, by simp; rfl⟩
    | 2, _ => exact ⟨_, by simp; rfl⟩
    | 3, _ => exact ⟨_, by simp; rfl⟩
    | 4, _ => exact ⟨_, by simp; rfl⟩
  · rw [hf _ _ (by simp; omega)]; simp
  · rw [hf _ _ (by simp)]; simp
theorem LRs.set {w wr : World} {k0 k1 k2 R k4 : Int} (h : LRs w wr k0 k1 k2 R k4) (x : Int) : LRs w (wr.setCell ⟨w.heap.size, 3, none⟩ (.int .i64 x)) k0 k1 k2 x k4 := by
  obtain ⟨h1, h2, ⟨a0, a1, a2, a3, a4⟩, h4, h5, h6⟩ := h
  refine ⟨h1.setCell (by simp) _, by simpa [World.setCell] using h2, ?_, fun i hi => ?_, fun i => ?_, fun i => ?_⟩
  · refine ⟨?_, ?_, ?_, ?_, ?_⟩
    · rw [World.cell?_setCell_other _ _ _ _ (by simp)]; exact a0
    · rw [World.cell?_setCell_other _ _ _ _ (by simp)]; exact a1
    · rw [World.cell?_setCell_other _ _ _ _ (by simp)]; exact a2
    · exact World.cell?_setCell_same wr _ _ a3
    · rw [World.cell?_setCell_other _ _ _ _ (by simp)]; exact a4
  · rw [World.cell?_setCell_other _ _ _ _ (by simp)]; exact h4 i hi
  · rw [World.frozen?_setCell]; exact h5 i
  · rw [World.frozen?_setCell]; exact h6 i
def lessK (k0 k3 : Int) (l : List Int) : Int := if k0 = 2 ∨ k0 = 3 then lessR k3 l else k3
end Go.Proofs.YtllcakiomihipaaGreatDoor
namespace Go.Proofs.YtllcakiomihipaaGreatDoor
open Go.ChangeShapes Go.WideShapes Go.ChangeAt Go.RowKit
set_option linter.unusedVariables false
def manyOf (k : Int) : Int := if k = 2 ∨ k = 3 then 256 else if k = 8 then 64 else if k = 4 ∨ k = 5 ∨ k = 6 ∨ k = 7 ∨ k = 9 ∨ k = 10 then 32 else 1
theorem many_any (k : Int) (w : World) : Calls Tryz.prog 41 #[.int .i64 k] w fun e w' => e = .returned (.int .i64 (manyOf k)) ∧ w = w' := by
  by_cases h : k = 2 ∨ k = 3 ∨ k = 4 ∨ k = 5 ∨ k = 6 ∨ k = 7 ∨ k = 8 ∨ k = 9 ∨ k = 10
  · rcases h with rfl | rfl | rfl | rfl | rfl | rfl | rfl | rfl | rfl
    all_goals
      go_enter Tryz.func41, Tryz.ntmps41
      go_wp2
      go_ret
      exact ⟨rfl, rfl⟩
  · have h2 : ¬ k = 2 := by omega
    have h3 : ¬ k = 3 := by omega
    have h4 : ¬ k = 4 := by omega
    have h5 : ¬ k = 5 := by omega
    have h6 : ¬ k = 6 := by omega
    have h7 : ¬ k = 7 := by omega
    have h8 : ¬ k = 8 := by omega
    have h9 : ¬ k = 9 := by omega
    have h10 : ¬ k = 10 := by omega
    have e : manyOf k = 1 := by simp [manyOf, h2, h3, h4, h5, h6, h7, h8, h9, h10]
    rw [e]
    clear h e
    go_enter Tryz.func41, Tryz.ntmps41
    go_wp2
    go_ret
    exact ⟨rfl, rfl⟩
theorem many_is (k m : Int) (h : Hid (manyOf k = m)) (w : World) : Calls Tryz.prog 41 #[.int .i64 k] w fun e w' => e = .returned (.int .i64 m) ∧ w = w' := by
  rw [← h.out]; exact many_any k w
theorem quiet_left {P : Program} {f : FuncId} {args : Array Value} {w : World} {n : Nat} {v : Value}
    (h : Calls P f args (w.drewN n) fun e w' => e = .returned v ∧ w.drewN n = w') : Calls P f args (w.drewN n) fun e w'' => e = .returned v ∧ ∃ m, w'' = w.drewN m :=
  h.mono fun _ _ ⟨he, hm⟩ => ⟨he, n, hm.symm⟩

theorem valid_kind0 (k0 k1 k2 k3 k4 : Int) (h : k0 < 0) (w : World) :
    Calls Tryz.prog 20 #[(Value.agg #[.int .i64 k0, .int .i64 k1, .int .i64 k2, .int .i64 k3, .int .u32 k4])] w fun e w' => e = .returned (.int .i64 102) ∧ Below w.heap.size w w' := by
  go_enter Tryz.func20, Tryz.ntmps20
  go_wp2
  go_ret
  exact ⟨rfl, (Below.refl _ _).alloc (Nat.le_refl _) _⟩
theorem valid_kind1 (k0 k1 k2 k3 k4 : Int) (h : 14 < k0) (w : World) :
    Calls Tryz.prog 20 #[(Value.agg #[.int .i64 k0, .int .i64 k1, .int .i64 k2, .int .i64 k3, .int .u32 k4])] w fun e w' => e = .returned (.int .i64 102) ∧ Below w.heap.size w w' := by
  have e0 : decide (k0 < 0) = false := by rw [decide_eq_false_iff_not]; omega
  go_enter Tryz.func20, Tryz.ntmps20
  go_wp2
  go_ret
  exact ⟨rfl, (Below.refl _ _).alloc (Nat.le_refl _) _⟩
end Go.Proofs.YtllcakiomihipaaGreatDoor
namespace Go.Proofs.YtllcakiomihipaaGreatDoor
open Go.ChangeShapes Go.WideShapes Go.ChangeAt Go.RowKit
set_option linter.unusedVariables false
set_option maxHeartbeats 1000000 in
theorem valid_1_ok (k1 k2 k3 k4 : Int) (hm : Hid (manyOf 1 = 1)) (g1 : 0 ≤ k1) (g2 : k1 < 1) (g3 : 0 ≤ k2) (g4 : k2 ≤ 0) (g5 : 0 ≤ k3) (g6 : k3 ≤ 0) (g7 : k4 ≤ 4294967295) (w : World) :
    Calls Tryz.prog 20 #[Value.agg #[.int .i64 1, .int .i64 k1, .int .i64 k2, .int .i64 k3, .int .u32 k4]] w fun e w' => e = .returned (.int .i64 0) ∧ Below w.heap.size w w' := by
  have d0 : decide (k1 < 0) = false := by rw [decide_eq_false_iff_not]; omega
  have d1 : decide (1 ≤ k1) = false := by rw [decide_eq_false_iff_not]; omega
  have d2 : decide (k2 < 0) = false := by rw [decide_eq_false_iff_not]; omega
  have d3 : decide (0 < k2) = false := by rw [decide_eq_false_iff_not]; omega
  have d4 : decide (k3 < 0) = false := by rw [decide_eq_false_iff_not]; omega
  have d5 : decide (0 < k3) = false := by rw [decide_eq_false_iff_not]; omega
  have d6 : decide (4294967295 < k4) = false := by rw [decide_eq_false_iff_not]; omega
  go_enter Tryz.func20, Tryz.ntmps20
  go_wp2_with (first | (go_at_call 41; refine (many_is _ _ hm _).mono ?_; rintro e w' ⟨rfl, rfl⟩))
  go_quiet ((go_at_call 41; exact quiet_left (many_is _ _ hm _)))
  go_wp2
  go_ret
  exact ⟨rfl, below_drewN ((Below.refl _ _).alloc (Nat.le_refl _) _) _⟩
set_option maxHeartbeats 1000000 in
theorem valid_1_b0 (k1 k2 k3 k4 : Int) (hm : Hid (manyOf 1 = 1))  (g : ¬ 0 ≤ k1) (w : World) :
    Calls Tryz.prog 20 #[Value.agg #[.int .i64 1, .int .i64 k1, .int .i64 k2, .int .i64 k3, .int .u32 k4]] w fun e w' => e = .returned (.int .i64 103) ∧ Below w.heap.size w w' := by
  have d0 : decide (k1 < 0) = true := by rw [decide_eq_true_iff]; omega
  go_enter Tryz.func20, Tryz.ntmps20
  go_wp2_with (first | (go_at_call 41; refine (many_is _ _ hm _).mono ?_; rintro e w' ⟨rfl, rfl⟩))
  go_quiet ((go_at_call 41; exact quiet_left (many_is _ _ hm _)))
  go_wp2
  go_ret
  exact ⟨rfl, below_drewN ((Below.refl _ _).alloc (Nat.le_refl _) _) _⟩
set_option maxHeartbeats 1000000 in
theorem valid_1_b1 (k1 k2 k3 k4 : Int) (hm : Hid (manyOf 1 = 1)) (g0 : 0 ≤ k1) (g : ¬ k1 < 1) (w : World) :
    Calls Tryz.prog 20 #[Value.agg #[.int .i64 1, .int .i64 k1, .int .i64 k2, .int .i64 k3, .int .u32 k4]] w fun e w' => e = .returned (.int .i64 103) ∧ Below w.heap.size w w' := by
  have d0 : decide (k1 < 0) = false := by rw [decide_eq_false_iff_not]; omega
  have d1 : decide (1 ≤ k1) = true := by rw [decide_eq_true_iff]; omega
  go_enter Tryz.func20, Tryz.ntmps20
  go_wp2_with (first | (go_at_call 41; refine (many_is _ _ hm _).mono ?_; rintro e w' ⟨rfl, rfl⟩))
  go_quiet ((go_at_call 41; exact quiet_left (many_is _ _ hm _)))
  go_wp2
  go_ret
  exact ⟨rfl, below_drewN ((Below.refl _ _).alloc (Nat.le_refl _) _) _⟩
set_option maxHeartbeats 1000000 in
theorem valid_1_b2 (k1 k2 k3 k4 : Int) (hm : Hid (manyOf 1 = 1)) (g0 : 0 ≤ k1) (g1 : k1 < 1) (g : ¬ 0 ≤ k2) (w : World) :
    Calls Tryz.prog 20 #[Value.agg #[.int .i64 1, .int .i64 k1, .int .i64 k2, .int .i64 k3, .int .u32 k4]] w fun e w' => e = .returned (.int .i64 103) ∧ Below w.heap.size w w' := by
  have d0 : decide (k1 < 0) = false := by rw [decide_eq_false_iff_not]; omega
  have d1 : decide (1 ≤ k1) = false := by rw [decide_eq_false_iff_not]; omega
  have d2 : decide (k2 < 0) = true := by rw [decide_eq_true_iff]; omega
  go_enter Tryz.func20, Tryz.ntmps20
  go_wp2_with (first | (go_at_call 41; refine (many_is _ _ hm _).mono ?_; rintro e w' ⟨rfl, rfl⟩))
  go_quiet ((go_at_call 41; exact quiet_left (many_is _ _ hm _)))
  go_wp2
  go_ret
  exact ⟨rfl, below_drewN ((Below.refl _ _).alloc (Nat.le_refl _) _) _⟩
set_option maxHeartbeats 1000000 in
theorem valid_1_b3 (k1 k2 k3 k4 : Int) (hm : Hid (manyOf 1 = 1)) (g0 : 0 ≤ k1) (g1 : k1 < 1) (g2 : 0 ≤ k2) (g : ¬ k2 ≤ 0) (w : World) :
    Calls Tryz.prog 20 #[Value.agg #[.int .i64 1, .int .i64 k1, .int .i64 k2, .int .i64 k3, .int .u32 k4]] w fun e w' => e = .returned (.int .i64 103) ∧ Below w.heap.size w w' := by
  have d0 : decide (k1 < 0) = false := by rw [decide_eq_false_iff_not]; omega
  have d1 : decide (1 ≤ k1) = false := by rw [decide_eq_false_iff_not]; omega
  have d2 : decide (k2 < 0) = false := by rw [decide_eq_false_iff_not]; omega
  have d3 : decide (0 < k2) = true := by rw [decide_eq_true_iff]; omega
  go_enter Tryz.func20, Tryz.ntmps20
  go_wp2_with (first | (go_at_call 41; refine (many_is _ _ hm _).mono ?_; rintro e w' ⟨rfl, rfl⟩))
  go_quiet ((go_at_call 41; exact quiet_left (many_is _ _ hm _)))
  go_wp2
  go_ret
  exact ⟨rfl, below_drewN ((Below.refl _ _).alloc (Nat.le_refl _) _) _⟩
set_option maxHeartbeats 1000000 in
theorem valid_1_b4 (k1 k2 k3 k4 : Int) (hm : Hid (manyOf 1 = 1)) (g0 : 0 ≤ k1) (g1 : k1 < 1) (g2 : 0 ≤ k2) (g3 : k2 ≤ 0) (g : ¬ 0 ≤ k3) (w : World) :
    Calls Tryz.prog 20 #[Value.agg #[.int .i64 1, .int .i64 k1, .int .i64 k2, .int .i64 k3, .int .u32 k4]] w fun e w' => e = .returned (.int .i64 103) ∧ Below w.heap.size w w' := by
  have d0 : decide (k1 < 0) = false := by rw [decide_eq_false_iff_not]; omega
  have d1 : decide (1 ≤ k1) = false := by rw [decide_eq_false_iff_not]; omega
  have d2 : decide (k2 < 0) = false := by rw [decide_eq_false_iff_not]; omega
  have d3 : decide (0 < k2) = false := by rw [decide_eq_false_iff_not]; omega
  have d4 : decide (k3 < 0) = true := by rw [decide_eq_true_iff]; omega
  go_enter Tryz.func20, Tryz.ntmps20
  go_wp2_with (first | (go_at_call 41; refine (many_is _ _ hm _).mono ?_; rintro e w' ⟨rfl, rfl⟩))
  go_quiet ((go_at_call 41; exact quiet_left (many_is _ _ hm _)))
  go_wp2
  go_ret
  exact ⟨rfl, below_drewN ((Below.refl _ _).alloc (Nat.le_refl _) _) _⟩
set_option maxHeartbeats 1000000 in
theorem valid_1_b5 (k1 k2 k3 k4 : Int) (hm : Hid (manyOf 1 = 1)) (g0 : 0 ≤ k1) (g1 : k1 < 1) (g2 : 0 ≤ k2) (g3 : k2 ≤ 0) (g4 : 0 ≤ k3) (g : ¬ k3 ≤ 0) (w : World) :
    Calls Tryz.prog 20 #[Value.agg #[.int .i64 1, .int .i64 k1, .int .i64 k2, .int .i64 k3, .int .u32 k4]] w fun e w' => e = .returned (.int .i64 103) ∧ Below w.heap.size w w' := by
  have d0 : decide (k1 < 0) = false := by rw [decide_eq_false_iff_not]; omega
  have d1 : decide (1 ≤ k1) = false := by rw [decide_eq_false_iff_not]; omega
  have d2 : decide (k2 < 0) = false := by rw [decide_eq_false_iff_not]; omega
  have d3 : decide (0 < k2) = false := by rw [decide_eq_false_iff_not]; omega
  have d4 : decide (k3 < 0) = false := by rw [decide_eq_false_iff_not]; omega
  have d5 : decide (0 < k3) = true := by rw [decide_eq_true_iff]; omega
  go_enter Tryz.func20, Tryz.ntmps20
  go_wp2_with (first | (go_at_call 41; refine (many_is _ _ hm _).mono ?_; rintro e w' ⟨rfl, rfl⟩))
  go_quiet ((go_at_call 41; exact quiet_left (many_is _ _ hm _)))
  go_wp2
  go_ret
  exact ⟨rfl, below_drewN ((Below.refl _ _).alloc (Nat.le_refl _) _) _⟩
set_option maxHeartbeats 1000000 in
theorem valid_1_b6 (k1 k2 k3 k4 : Int) (hm : Hid (manyOf 1 = 1)) (g0 : 0 ≤ k1) (g1 : k1 < 1) (g2 : 0 ≤ k2) (g3 : k2 ≤ 0) (g4 : 0 ≤ k3) (g5 : k3 ≤ 0) (g : ¬ k4 ≤ 4294967295) (gu : k4 ≤ 4294967295) (w : World) :
    Calls Tryz.prog 20 #[Value.agg #[.int .i64 1, .int .i64 k1, .int .i64 k2, .int .i64 k3, .int .u32 k4]] w fun e w' => e = .returned (.int .i64 103) ∧ Below w.heap.size w w' := by
  omega
set_option maxHeartbeats 1000000 in
theorem valid_2_ok (k1 k2 k3 k4 : Int) (hm : Hid (manyOf 2 = 256)) (g1 : 0 ≤ k1) (g2 : k1 < 256) (g3 : 0 ≤ k2) (g4 : k2 ≤ 1048575) (g5 : 0 ≤ k3) (g6 : k3 ≤ 7) (g7 : k4 ≤ 4) (w : World) :
    Calls Tryz.prog 20 #[Value.agg #[.int .i64 2, .int .i64 k1, .int .i64 k2, .int .i64 k3, .int .u32 k4]] w fun e w' => e = .returned (.int .i64 0) ∧ Below w.heap.size w w' := by
  have d0 : decide (k1 < 0) = false := by rw [decide_eq_false_iff_not]; omega
  have d1 : decide (256 ≤ k1) = false := by rw [decide_eq_false_iff_not]; omega
  have d2 : decide (k2 < 0) = false := by rw [decide_eq_false_iff_not]; omega
  have d3 : decide (1048575 < k2) = false := by rw [decide_eq_false_iff_not]; omega
  have d4 : decide (k3 < 0) = false := by rw [decide_eq_false_iff_not]; omega
  have d5 : decide (7 < k3) = false := by rw [decide_eq_false_iff_not]; omega
  have d6 : decide (4 < k4) = false := by rw [decide_eq_false_iff_not]; omega
  go_enter Tryz.func20, Tryz.ntmps20
  go_wp2_with (first | (go_at_call 41; refine (many_is _ _ hm _).mono ?_; rintro e w' ⟨rfl, rfl⟩))
  go_quiet ((go_at_call 41; exact quiet_left (many_is _ _ hm _)))
  go_wp2
  go_ret
  exact ⟨rfl, below_drewN ((Below.refl _ _).alloc (Nat.le_refl _) _) _⟩
set_option maxHeartbeats 1000000 in
theorem valid_2_b0 (k1 k2 k3 k4 : Int) (hm : Hid (manyOf 2 = 256))  (g : ¬ 0 ≤ k1) (w : World) :
    Calls Tryz.prog 20 #[Value.agg #[.int .i64 2, .int .i64 k1, .int .i64 k2, .int .i64 k3, .int .u32 k4]] w fun e w' => e = .returned (.int .i64 103) ∧ Below w.heap.size w w' := by
  have d0 : decide (k1 < 0) = true := by rw [decide_eq_true_iff]; omega
  go_enter Tryz.func20, Tryz.ntmps20
  go_wp2_with (first | (go_at_call 41; refine (many_is _ _ hm _).mono ?_; rintro e w' ⟨rfl, rfl⟩))
  go_quiet ((go_at_call 41; exact quiet_left (many_is _ _ hm _)))
  go_wp2
  go_ret
  exact ⟨rfl, below_drewN ((Below.refl _ _).alloc (Nat.le_refl _) _) _⟩
set_option maxHeartbeats 1000000 in
theorem valid_2_b1 (k1 k2 k3 k4 : Int) (hm : Hid (manyOf 2 = 256)) (g0 : 0 ≤ k1) (g : ¬ k1 < 256) (w : World) :
    Calls Tryz.prog 20 #[Value.agg #[.int .i64 2, .int .i64 k1, .int .i64 k2, .int .i64 k3, .int .u32 k4]] w fun e w' => e = .returned (.int .i64 103) ∧ Below w.heap.size w w' := by
  have d0 : decide (k1 < 0) = false := by rw [decide_eq_false_iff_not]; omega
  have d1 : decide (256 ≤ k1) = true := by rw [decide_eq_true_iff]; omega
  go_enter Tryz.func20, Tryz.ntmps20
  go_wp2_with (first | (go_at_call 41; refine (many_is _ _ hm _).mono ?_; rintro e w' ⟨rfl, rfl⟩))
  go_quiet ((go_at_call 41; exact quiet_left (many_is _ _ hm _)))
  go_wp2
  go_ret
  exact ⟨rfl, below_drewN ((Below.refl _ _).alloc (Nat.le_refl _) _) _⟩
set_option maxHeartbeats 1000000 in
theorem valid_2_b2 (k1 k2 k3 k4 : Int) (hm : Hid (manyOf 2 = 256)) (g0 : 0 ≤ k1) (g1 : k1 < 256) (g : ¬ 0 ≤ k2) (w : World) :
    Calls Tryz.prog 20 #[Value.agg #[.int .i64 2, .int .i64 k1, .int .i64 k2, .int .i64 k3, .int .u32 k4]] w fun e w' => e = .returned (.int .i64 103) ∧ Below w.heap.size w w' := by
  have d0 : decide (k1 < 0) = false := by rw [decide_eq_false_iff_not]; omega
  have d1 : decide (256 ≤ k1) = false := by rw [decide_eq_false_iff_not]; omega
  have d2 : decide (k2 < 0) = true := by rw [decide_eq_true_iff]; omega
  go_enter Tryz.func20, Tryz.ntmps20
  go_wp2_with (first | (go_at_call 41; refine (many_is _ _ hm _).mono ?_; rintro e w' ⟨rfl, rfl⟩))
  go_quiet ((go_at_call 41; exact quiet_left (many_is _ _ hm _)))
  go_wp2
  go_ret
  exact ⟨rfl, below_drewN ((Below.refl _ _).alloc (Nat.le_refl _) _) _⟩
set_option maxHeartbeats 1000000 in
theorem valid_2_b3 (k1 k2 k3 k4 : Int) (hm : Hid (manyOf 2 = 256)) (g0 : 0 ≤ k1) (g1 : k1 < 256) (g2 : 0 ≤ k2) (g : ¬ k2 ≤ 1048575) (w : World) :
    Calls Tryz.prog 20 #[Value.agg #[.int .i64 2, .int .i64 k1, .int .i64 k2, .int .i64 k3, .int .u32 k4]] w fun e w' => e = .returned (.int .i64 103) ∧ Below w.heap.size w w' := by
  have d0 : decide (k1 < 0) = false := by rw [decide_eq_false_iff_not]; omega
  have d1 : decide (256 ≤ k1) = false := by rw [decide_eq_false_iff_not]; omega
  have d2 : decide (k2 < 0) = false := by rw [decide_eq_false_iff_not]; omega
  have d3 : decide (1048575 < k2) = true := by rw [decide_eq_true_iff]; omega
  go_enter Tryz.func20, Tryz.ntmps20
  go_wp2_with (first | (go_at_call 41; refine (many_is _ _ hm _).mono ?_; rintro e w' ⟨rfl, rfl⟩))
  go_quiet ((go_at_call 41; exact quiet_left (many_is _ _ hm _)))
  go_wp2
  go_ret
  exact ⟨rfl, below_drewN ((Below.refl _ _).alloc (Nat.le_refl _) _) _⟩
set_option maxHeartbeats 1000000 in
theorem valid_2_b4 (k1 k2 k3 k4 : Int) (hm : Hid (manyOf 2 = 256)) (g0 : 0 ≤ k1) (g1 : k1 < 256) (g2 : 0 ≤ k2) (g3 : k2 ≤ 1048575) (g : ¬ 0 ≤ k3) (w : World) :
    Calls Tryz.prog 20 #[Value.agg #[.int .i64 2, .int .i64 k1, .int .i64 k2, .int .i64 k3, .int .u32 k4]] w fun e w' => e = .returned (.int .i64 103) ∧ Below w.heap.size w w' := by
  have d0 : decide (k1 < 0) = false := by rw [decide_eq_false_iff_not]; omega
  have d1 : decide (256 ≤ k1) = false := by rw [decide_eq_false_iff_not]; omega
  have d2 : decide (k2 < 0) = false := by rw [decide_eq_false_iff_not]; omega
  have d3 : decide (1048575 < k2) = false := by rw [decide_eq_false_iff_not]; omega
  have d4 : decide (k3 < 0) = true := by rw [decide_eq_true_iff]; omega
  go_enter Tryz.func20, Tryz.ntmps20
  go_wp2_with (first | (go_at_call 41; refine (many_is _ _ hm _).mono ?_; rintro e w' ⟨rfl, rfl⟩))
  go_quiet ((go_at_call 41; exact quiet_left (many_is _ _ hm _)))
  go_wp2
  go_ret
  exact ⟨rfl, below_drewN ((Below.refl _ _).alloc (Nat.le_refl _) _) _⟩
set_option maxHeartbeats 1000000 in
theorem valid_2_b5 (k1 k2 k3 k4 : Int) (hm : Hid (manyOf 2 = 256)) (g0 : 0 ≤ k1) (g1 : k1 < 256) (g2 : 0 ≤ k2) (g3 : k2 ≤ 1048575) (g4 : 0 ≤ k3) (g : ¬ k3 ≤ 7) (w : World) :
    Calls Tryz.prog 20 #[Value.agg #[.int .i64 2, .int .i64 k1, .int .i64 k2, .int .i64 k3, .int .u32 k4]] w fun e w' => e = .returned (.int .i64 103) ∧ Below w.heap.size w w' := by
  have d0 : decide (k1 < 0) = false := by rw [decide_eq_false_iff_not]; omega
  have d1 : decide (256 ≤ k1) = false := by rw [decide_eq_false_iff_not]; omega
  have d2 : decide (k2 < 0) = false := by rw [decide_eq_false_iff_not]; omega
  have d3 : decide (1048575 < k2) = false := by rw [decide_eq_false_iff_not]; omega
  have d4 : decide (k3 < 0) = false := by rw [decide_eq_false_iff_not]; omega
  have d5 : decide (7 < k3) = true := by rw [decide_eq_true_iff]; omega
  go_enter Tryz.func20, Tryz.ntmps20
  go_wp2_with (first | (go_at_call 41; refine (many_is _ _ hm _).mono ?_; rintro e w' ⟨rfl, rfl⟩))
  go_quiet ((go_at_call 41; exact quiet_left (many_is _ _ hm _)))
  go_wp2
  go_ret
  exact ⟨rfl, below_drewN ((Below.refl _ _).alloc (Nat.le_refl _) _) _⟩
set_option maxHeartbeats 1000000 in
theorem valid_2_b6 (k1 k2 k3 k4 : Int) (hm : Hid (manyOf 2 = 256)) (g0 : 0 ≤ k1) (g1 : k1 < 256) (g2 : 0 ≤ k2) (g3 : k2 ≤ 1048575) (g4 : 0 ≤ k3) (g5 : k3 ≤ 7) (g : ¬ k4 ≤ 4) (w : World) :
    Calls Tryz.prog 20 #[Value.agg #[.int .i64 2, .int .i64 k1, .int .i64 k2, .int .i64 k3, .int .u32 k4]] w fun e w' => e = .returned (.int .i64 103) ∧ Below w.heap.size w w' := by
  have d0 : decide (k1 < 0) = false := by rw [decide_eq_false_iff_not]; omega
  have d1 : decide (256 ≤ k1) = false := by rw [decide_eq_false_iff_not]; omega
  have d2 : decide (k2 < 0) = false := by rw [decide_eq_false_iff_not]; omega
  have d3 : decide (1048575 < k2) = false := by rw [decide_eq_false_iff_not]; omega
  have d4 : decide (k3 < 0) = false := by rw [decide_eq_false_iff_not]; omega
  have d5 : decide (7 < k3) = false := by rw [decide_eq_false_iff_not]; omega
  have d6 : decide (4 < k4) = true := by rw [decide_eq_true_iff]; omega
  go_enter Tryz.func20, Tryz.ntmps20
  go_wp2_with (first | (go_at_call 41; refine (many_is _ _ hm _).mono ?_; rintro e w' ⟨rfl, rfl⟩))
  go_quiet ((go_at_call 41; exact quiet_left (many_is _ _ hm _)))
  go_wp2
  go_ret
  exact ⟨rfl, below_drewN ((Below.refl _ _).alloc (Nat.le_refl _) _) _⟩
end Go.Proofs.YtllcakiomihipaaGreatDoor
namespace Go.Proofs.YtllcakiomihipaaGreatDoor
open Go.ChangeShapes Go.WideShapes Go.ChangeAt Go.RowKit
set_option linter.unusedVariables false
set_option maxHeartbeats 1000000 in
theorem valid_3_ok (k1 k2 k3 k4 : Int) (hm : Hid (manyOf 3 = 256)) (g1 : 0 ≤ k1) (g2 : k1 < 256) (g3 : 0 ≤ k2) (g4 : k2 ≤ 1048575) (g5 : 0 ≤ k3) (g6 : k3 ≤ 7) (g7 : k4 ≤ 0) (w : World) :
    Calls Tryz.prog 20 #[Value.agg #[.int .i64 3, .int .i64 k1, .int .i64 k2, .int .i64 k3, .int .u32 k4]] w fun e w' => e = .returned (.int .i64 0) ∧ Below w.heap.size w w' := by
  have d0 : decide (k1 < 0) = false := by rw [decide_eq_false_iff_not]; omega
  have d1 : decide (256 ≤ k1) = false := by rw [decide_eq_false_iff_not]; omega
  have d2 : decide (k2 < 0) = false := by rw [decide_eq_false_iff_not]; omega
  have d3 : decide (1048575 < k2) = false := by rw [decide_eq_false_iff_not]; omega
  have d4 : decide (k3 < 0) = false := by rw [decide_eq_false_iff_not]; omega
  have d5 : decide (7 < k3) = false := by rw [decide_eq_false_iff_not]; omega
  have d6 : decide (0 < k4) = false := by rw [decide_eq_false_iff_not]; omega
  go_enter Tryz.func20, Tryz.ntmps20
  go_wp2_with (first | (go_at_call 41; refine (many_is _ _ hm _).mono ?_; rintro e w' ⟨rfl, rfl⟩))
  go_quiet ((go_at_call 41; exact quiet_left (many_is _ _ hm _)))
  go_wp2
  go_ret
  exact ⟨rfl, below_drewN ((Below.refl _ _).alloc (Nat.le_refl _) _) _⟩
set_option maxHeartbeats 1000000 in
theorem valid_3_b0 (k1 k2 k3 k4 : Int) (hm : Hid (manyOf 3 = 256))  (g : ¬ 0 ≤ k1) (w : World) :
    Calls Tryz.prog 20 #[Value.agg #[.int .i64 3, .int .i64 k1, .int .i64 k2, .int .i64 k3, .int .u32 k4]] w fun e w' => e = .returned (.int .i64 103) ∧ Below w.heap.size w w' := by
  have d0 : decide (k1 < 0) = true := by rw [decide_eq_true_iff]; omega
  go_enter Tryz.func20, Tryz.ntmps20
  go_wp2_with (first | (go_at_call 41; refine (many_is _ _ hm _).mono ?_; rintro e w' ⟨rfl, rfl⟩))
  go_quiet ((go_at_call 41; exact quiet_left (many_is _ _ hm _)))
  go_wp2
  go_ret
  exact ⟨rfl, below_drewN ((Below.refl _ _).alloc (Nat.le_refl _) _) _⟩
set_option maxHeartbeats 1000000 in
theorem valid_3_b1 (k1 k2 k3 k4 : Int) (hm : Hid (manyOf 3 = 256)) (g0 : 0 ≤ k1) (g : ¬ k1 < 256) (w : World) :
    Calls Tryz.prog 20 #[Value.agg #[.int .i64 3, .int .i64 k1, .int .i64 k2, .int .i64 k3, .int .u32 k4]] w fun e w' => e = .returned (.int .i64 103) ∧ Below w.heap.size w w' := by
  have d0 : decide (k1 < 0) = false := by rw [decide_eq_false_iff_not]; omega
  have d1 : decide (256 ≤ k1) = true := by rw [decide_eq_true_iff]; omega
  go_enter Tryz.func20, Tryz.ntmps20
  go_wp2_with (first | (go_at_call 41; refine (many_is _ _ hm _).mono ?_; rintro e w' ⟨rfl, rfl⟩))
  go_quiet ((go_at_call 41; exact quiet_left (many_is _ _ hm _)))
  go_wp2
  go_ret
  exact ⟨rfl, below_drewN ((Below.refl _ _).alloc (Nat.le_refl _) _) _⟩
set_option maxHeartbeats 1000000 in
theorem valid_3_b2 (k1 k2 k3 k4 : Int) (hm : Hid (manyOf 3 = 256)) (g0 : 0 ≤ k1) (g1 : k1 < 256) (g : ¬ 0 ≤ k2) (w : World) :
    Calls Tryz.prog 20 #[Value.agg #[.int .i64 3, .int .i64 k1, .int .i64 k2, .int .i64 k3, .int .u32 k4]] w fun e w' => e = .returned (.int .i64 103) ∧ Below w.heap.size w w' := by
  have d0 : decide (k1 < 0) = false := by rw [decide_eq_false_iff_not]; omega
  have d1 : decide (256 ≤ k1) = false := by rw [decide_eq_false_iff_not]; omega
  have d2 : decide (k2 < 0) = true := by rw [decide_eq_true_iff]; omega
  go_enter Tryz.func20, Tryz.ntmps20
  go_wp2_with (first | (go_at_call 41; refine (many_is _ _ hm _).mono ?_; rintro e w' ⟨rfl, rfl⟩))
  go_quiet ((go_at_call 41; exact quiet_left (many_is _ _ hm _)))
  go_wp2
  go_ret
  exact ⟨rfl, below_drewN ((Below.refl _ _).alloc (Nat.le_refl _) _) _⟩
set_option maxHeartbeats 1000000 in
theorem valid_3_b3 (k1 k2 k3 k4 : Int) (hm : Hid (manyOf 3 = 256)) (g0 : 0 ≤ k1) (g1 : k1 < 256) (g2 : 0 ≤ k2) (g : ¬ k2 ≤ 1048575) (w : World) :
    Calls Tryz.prog 20 #[Value.agg #[.int .i64 3, .int .i64 k1, .int .i64 k2, .int .i64 k3, .int .u32 k4]] w fun e w' => e = .returned (.int .i64 103) ∧ Below w.heap.size w w' := by
  have d0 : decide (k1 < 0) = false := by rw [decide_eq_false_iff_not]; omega
  have d1 : decide (256 ≤ k1) = false := by rw [decide_eq_false_iff_not]; omega
  have d2 : decide (k2 < 0) = false := by rw [decide_eq_false_iff_not]; omega
  have d3 : decide (1048575 < k2) = true := by rw [decide_eq_true_iff]; omega
  go_enter Tryz.func20, Tryz.ntmps20
  go_wp2_with (first | (go_at_call 41; refine (many_is _ _ hm _).mono ?_; rintro e w' ⟨rfl, rfl⟩))
  go_quiet ((go_at_call 41; exact quiet_left (many_is _ _ hm _)))
  go_wp2
  go_ret
  exact ⟨rfl, below_drewN ((Below.refl _ _).alloc (Nat.le_refl _) _) _⟩
set_option maxHeartbeats 1000000 in
theorem valid_3_b4 (k1 k2 k3 k4 : Int) (hm : Hid (manyOf 3 = 256)) (g0 : 0 ≤ k1) (g1 : k1 < 256) (g2 : 0 ≤ k2) (g3 : k2 ≤ 1048575) (g : ¬ 0 ≤ k3) (w : World) :
    Calls Tryz.prog 20 #[Value.agg #[.int .i64 3, .int .i64 k1, .int .i64 k2, .int .i64 k3, .int .u32 k4]] w fun e w' => e = .returned (.int .i64 103) ∧ Below w.heap.size w w' := by
  have d0 : decide (k1 < 0) = false := by rw [decide_eq_false_iff_not]; omega
  have d1 : decide (256 ≤ k1) = false := by rw [decide_eq_false_iff_not]; omega
  have d2 : decide (k2 < 0) = false := by rw [decide_eq_false_iff_not]; omega
  have d3 : decide (1048575 < k2) = false := by rw [decide_eq_false_iff_not]; omega
  have d4 : decide (k3 < 0) = true := by rw [decide_eq_true_iff]; omega
  go_enter Tryz.func20, Tryz.ntmps20
  go_wp2_with (first | (go_at_call 41; refine (many_is _ _ hm _).mono ?_; rintro e w' ⟨rfl, rfl⟩))
  go_quiet ((go_at_call 41; exact quiet_left (many_is _ _ hm _)))
  go_wp2
  go_ret
  exact ⟨rfl, below_drewN ((Below.refl _ _).alloc (Nat.le_refl _) _) _⟩
set_option maxHeartbeats 1000000 in
theorem valid_3_b5 (k1 k2 k3 k4 : Int) (hm : Hid (manyOf 3 = 256)) (g0 : 0 ≤ k1) (g1 : k1 < 256) (g2 : 0 ≤ k2) (g3 : k2 ≤ 1048575) (g4 : 0 ≤ k3) (g : ¬ k3 ≤ 7) (w : World) :
    Calls Tryz.prog 20 #[Value.agg #[.int .i64 3, .int .i64 k1, .int .i64 k2, .int .i64 k3, .int .u32 k4]] w fun e w' => e = .returned (.int .i64 103) ∧ Below w.heap.size w w' := by
  have d0 : decide (k1 < 0) = false := by rw [decide_eq_false_iff_not]; omega
  have d1 : decide (256 ≤ k1) = false := by rw [decide_eq_false_iff_not]; omega
  have d2 : decide (k2 < 0) = false := by rw [decide_eq_false_iff_not]; omega
  have d3 : decide (1048575 < k2) = false := by rw [decide_eq_false_iff_not]; omega
  have d4 : decide (k3 < 0) = false := by rw [decide_eq_false_iff_not]; omega
  have d5 : decide (7 < k3) = true := by rw [decide_eq_true_iff]; omega
  go_enter Tryz.func20, Tryz.ntmps20
  go_wp2_with (first | (go_at_call 41; refine (many_is _ _ hm _).mono ?_; rintro e w' ⟨rfl, rfl⟩))
  go_quiet ((go_at_call 41; exact quiet_left (many_is _ _ hm _)))
  go_wp2
  go_ret
  exact ⟨rfl, below_drewN ((Below.refl _ _).alloc (Nat.le_refl _) _) _⟩
set_option maxHeartbeats 1000000 in
theorem valid_3_b6 (k1 k2 k3 k4 : Int) (hm : Hid (manyOf 3 = 256)) (g0 : 0 ≤ k1) (g1 : k1 < 256) (g2 : 0 ≤ k2) (g3 : k2 ≤ 1048575) (g4 : 0 ≤ k3) (g5 : k3 ≤ 7) (g : ¬ k4 ≤ 0) (w : World) :
    Calls Tryz.prog 20 #[Value.agg #[.int .i64 3, .int .i64 k1, .int .i64 k2, .int .i64 k3, .int .u32 k4]] w fun e w' => e = .returned (.int .i64 103) ∧ Below w.heap.size w w' := by
  have d0 : decide (k1 < 0) = false := by rw [decide_eq_false_iff_not]; omega
  have d1 : decide (256 ≤ k1) = false := by rw [decide_eq_false_iff_not]; omega
  have d2 : decide (k2 < 0) = false := by rw [decide_eq_false_iff_not]; omega
  have d3 : decide (1048575 < k2) = false := by rw [decide_eq_false_iff_not]; omega
  have d4 : decide (k3 < 0) = false := by rw [decide_eq_false_iff_not]; omega
  have d5 : decide (7 < k3) = false := by rw [decide_eq_false_iff_not]; omega
  have d6 : decide (0 < k4) = true := by rw [decide_eq_true_iff]; omega
  go_enter Tryz.func20, Tryz.ntmps20
  go_wp2_with (first | (go_at_call 41; refine (many_is _ _ hm _).mono ?_; rintro e w' ⟨rfl, rfl⟩))
  go_quiet ((go_at_call 41; exact quiet_left (many_is _ _ hm _)))
  go_wp2
  go_ret
  exact ⟨rfl, below_drewN ((Below.refl _ _).alloc (Nat.le_refl _) _) _⟩
set_option maxHeartbeats 1000000 in
theorem valid_5_ok (k1 k2 k3 k4 : Int) (hm : Hid (manyOf 5 = 32)) (g1 : 0 ≤ k1) (g2 : k1 < 32) (g3 : 0 ≤ k2) (g4 : k2 ≤ 1048575) (g5 : 0 ≤ k3) (g6 : k3 ≤ 0) (g7 : k4 ≤ 536870911) (w : World) :
    Calls Tryz.prog 20 #[Value.agg #[.int .i64 5, .int .i64 k1, .int .i64 k2, .int .i64 k3, .int .u32 k4]] w fun e w' => e = .returned (.int .i64 0) ∧ Below w.heap.size w w' := by
  have d0 : decide (k1 < 0) = false := by rw [decide_eq_false_iff_not]; omega
  have d1 : decide (32 ≤ k1) = false := by rw [decide_eq_false_iff_not]; omega
  have d2 : decide (k2 < 0) = false := by rw [decide_eq_false_iff_not]; omega
  have d3 : decide (1048575 < k2) = false := by rw [decide_eq_false_iff_not]; omega
  have d4 : decide (k3 < 0) = false := by rw [decide_eq_false_iff_not]; omega
  have d5 : decide (0 < k3) = false := by rw [decide_eq_false_iff_not]; omega
  have d6 : decide (536870911 < k4) = false := by rw [decide_eq_false_iff_not]; omega
  go_enter Tryz.func20, Tryz.ntmps20
  go_wp2_with (first | (go_at_call 41; refine (many_is _ _ hm _).mono ?_; rintro e w' ⟨rfl, rfl⟩))
  go_quiet ((go_at_call 41; exact quiet_left (many_is _ _ hm _)))
  go_wp2
  go_ret
  exact ⟨rfl, below_drewN ((Below.refl _ _).alloc (Nat.le_refl _) _) _⟩
set_option maxHeartbeats 1000000 in
theorem valid_5_b0 (k1 k2 k3 k4 : Int) (hm : Hid (manyOf 5 = 32))  (g : ¬ 0 ≤ k1) (w : World) :
    Calls Tryz.prog 20 #[Value.agg #[.int .i64 5, .int .i64 k1, .int .i64 k2, .int .i64 k3, .int .u32 k4]] w fun e w' => e = .returned (.int .i64 103) ∧ Below w.heap.size w w' := by
  have d0 : decide (k1 < 0) = true := by rw [decide_eq_true_iff]; omega
  go_enter Tryz.func20, Tryz.ntmps20
  go_wp2_with (first | (go_at_call 41; refine (many_is _ _ hm _).mono ?_; rintro e w' ⟨rfl, rfl⟩))
  go_quiet ((go_at_call 41; exact quiet_left (many_is _ _ hm _)))
  go_wp2
  go_ret
  exact ⟨rfl, below_drewN ((Below.refl _ _).alloc (Nat.le_refl _) _) _⟩
set_option maxHeartbeats 1000000 in
theorem valid_5_b1 (k1 k2 k3 k4 : Int) (hm : Hid (manyOf 5 = 32)) (g0 : 0 ≤ k1) (g : ¬ k1 < 32) (w : World) :
    Calls Tryz.prog 20 #[Value.agg #[.int .i64 5, .int .i64 k1, .int .i64 k2, .int .i64 k3, .int .u32 k4]] w fun e w' => e = .returned (.int .i64 103) ∧ Below w.heap.size w w' := by
  have d0 : decide (k1 < 0) = false := by rw [decide_eq_false_iff_not]; omega
  have d1 : decide (32 ≤ k1) = true := by rw [decide_eq_true_iff]; omega
  go_enter Tryz.func20, Tryz.ntmps20
  go_wp2_with (first | (go_at_call 41; refine (many_is _ _ hm _).mono ?_; rintro e w' ⟨rfl, rfl⟩))
  go_quiet ((go_at_call 41; exact quiet_left (many_is _ _ hm _)))
  go_wp2
  go_ret
  exact ⟨rfl, below_drewN ((Below.refl _ _).alloc (Nat.le_refl _) _) _⟩
set_option maxHeartbeats 1000000 in
theorem valid_5_b2 (k1 k2 k3 k4 : Int) (hm : Hid (manyOf 5 = 32)) (g0 : 0 ≤ k1) (g1 : k1 < 32) (g : ¬ 0 ≤ k2) (w : World) :
    Calls Tryz.prog 20 #[Value.agg #[.int .i64 5, .int .i64 k1, .int .i64 k2, .int .i64 k3, .int .u32 k4]] w fun e w' => e = .returned (.int .i64 103) ∧ Below w.heap.size w w' := by
  have d0 : decide (k1 < 0) = false := by rw [decide_eq_false_iff_not]; omega
  have d1 : decide (32 ≤ k1) = false := by rw [decide_eq_false_iff_not]; omega
  have d2 : decide (k2 < 0) = true := by rw [decide_eq_true_iff]; omega
  go_enter Tryz.func20, Tryz.ntmps20
  go_wp2_with (first | (go_at_call 41; refine (many_is _ _ hm _).mono ?_; rintro e w' ⟨rfl, rfl⟩))
  go_quiet ((go_at_call 41; exact quiet_left (many_is _ _ hm _)))
  go_wp2
  go_ret
  exact ⟨rfl, below_drewN ((Below.refl _ _).alloc (Nat.le_refl _) _) _⟩
set_option maxHeartbeats 1000000 in
theorem valid_5_b3 (k1 k2 k3 k4 : Int) (hm : Hid (manyOf 5 = 32)) (g0 : 0 ≤ k1) (g1 : k1 < 32) (g2 : 0 ≤ k2) (g : ¬ k2 ≤ 1048575) (w : World) :
    Calls Tryz.prog 20 #[Value.agg #[.int .i64 5, .int .i64 k1, .int .i64 k2, .int .i64 k3, .int .u32 k4]] w fun e w' => e = .returned (.int .i64 103) ∧ Below w.heap.size w w' := by
  have d0 : decide (k1 < 0) = false := by rw [decide_eq_false_iff_not]; omega
  have d1 : decide (32 ≤ k1) = false := by rw [decide_eq_false_iff_not]; omega
  have d2 : decide (k2 < 0) = false := by rw [decide_eq_false_iff_not]; omega
  have d3 : decide (1048575 < k2) = true := by rw [decide_eq_true_iff]; omega
  go_enter Tryz.func20, Tryz.ntmps20
  go_wp2_with (first | (go_at_call 41; refine (many_is _ _ hm _).mono ?_; rintro e w' ⟨rfl, rfl⟩))
  go_quiet ((go_at_call 41; exact quiet_left (many_is _ _ hm _)))
  go_wp2
  go_ret
  exact ⟨rfl, below_drewN ((Below.refl _ _).alloc (Nat.le_refl _) _) _⟩
set_option maxHeartbeats 1000000 in
theorem valid_5_b4 (k1 k2 k3 k4 : Int) (hm : Hid (manyOf 5 = 32)) (g0 : 0 ≤ k1) (g1 : k1 < 32) (g2 : 0 ≤ k2) (g3 : k2 ≤ 1048575) (g : ¬ 0 ≤ k3) (w : World) :
    Calls Tryz.prog 20 #[Value.agg #[.int .i64 5, .int .i64 k1, .int .i64 k2, .int .i64 k3, .int .u32 k4]] w fun e w' => e = .returned (.int .i64 103) ∧ Below w.heap.size w w' := by
  have d0 : decide (k1 < 0) = false := by rw [decide_eq_false_iff_not]; omega
  have d1 : decide (32 ≤ k1) = false := by rw [decide_eq_false_iff_not]; omega
  have d2 : decide (k2 < 0) = false := by rw [decide_eq_false_iff_not]; omega
  have d3 : decide (1048575 < k2) = false := by rw [decide_eq_false_iff_not]; omega
  have d4 : decide (k3 < 0) = true := by rw [decide_eq_true_iff]; omega
  go_enter Tryz.func20, Tryz.ntmps20
  go_wp2_with (first | (go_at_call 41; refine (many_is _ _ hm _).mono ?_; rintro e w' ⟨rfl, rfl⟩))
  go_quiet ((go_at_call 41; exact quiet_left (many_is _ _ hm _)))
  go_wp2
  go_ret
  exact ⟨rfl, below_drewN ((Below.refl _ _).alloc (Nat.le_refl _) _) _⟩
set_option maxHeartbeats 1000000 in
theorem valid_5_b5 (k1 k2 k3 k4 : Int) (hm : Hid (manyOf 5 = 32)) (g0 : 0 ≤ k1) (g1 : k1 < 32) (g2 : 0 ≤ k2) (g3 : k2 ≤ 1048575) (g4 : 0 ≤ k3) (g : ¬ k3 ≤ 0) (w : World) :
    Calls Tryz.prog 20 #[Value.agg #[.int .i64 5, .int .i64 k1, .int .i64 k2, .int .i64 k3, .int .u32 k4]] w fun e w' => e = .returned (.int .i64 103) ∧ Below w.heap.size w w' := by
  have d0 : decide (k1 < 0) = false := by rw [decide_eq_false_iff_not]; omega
  have d1 : decide (32 ≤ k1) = false := by rw [decide_eq_false_iff_not]; omega
  have d2 : decide (k2 < 0) = false := by rw [decide_eq_false_iff_not]; omega
  have d3 : decide (1048575 < k2) = false := by rw [decide_eq_false_iff_not]; omega
  have d4 : decide (k3 < 0) = false := by rw [decide_eq_false_iff_not]; omega
  have d5 : decide (0 < k3) = true := by rw [decide_eq_true_iff]; omega
  go_enter Tryz.func20, Tryz.ntmps20
  go_wp2_with (first | (go_at_call 41; refine (many_is _ _ hm _).mono ?_; rintro e w' ⟨rfl, rfl⟩))
  go_quiet ((go_at_call 41; exact quiet_left (many_is _ _ hm _)))
  go_wp2
  go_ret
  exact ⟨rfl, below_drewN ((Below.refl _ _).alloc (Nat.le_refl _) _) _⟩
set_option maxHeartbeats 1000000 in
theorem valid_5_b6 (k1 k2 k3 k4 : Int) (hm : Hid (manyOf 5 = 32)) (g0 : 0 ≤ k1) (g1 : k1 < 32) (g2 : 0 ≤ k2) (g3 : k2 ≤ 1048575) (g4 : 0 ≤ k3) (g5 : k3 ≤ 0) (g : ¬ k4 ≤ 536870911) (w : World) :
    Calls Tryz.prog 20 #[Value.agg #[.int .i64 5, .int .i64 k1, .int .i64 k2, .int .i64 k3, .int .u32 k4]] w fun e w' => e = .returned (.int .i64 103) ∧ Below w.heap.size w w' := by
  have d0 : decide (k1 < 0) = false := by rw [decide_eq_false_iff_not]; omega
  have d1 : decide (32 ≤ k1) = false := by rw [decide_eq_false_iff_not]; omega
  have d2 : decide (k2 < 0) = false := by rw [decide_eq_false_iff_not]; omega
  have d3 : decide (1048575 < k2) = false := by rw [decide_eq_false_iff_not]; omega
  have d4 : decide (k3 < 0) = false := by rw [decide_eq_false_iff_not]; omega
  have d5 : decide (0 < k3) = false := by rw [decide_eq_false_iff_not]; omega
  have d6 : decide (536870911 < k4) = true := by rw [decide_eq_true_iff]; omega
  go_enter Tryz.func20, Tryz.ntmps20
  go_wp2_with (first | (go_at_call 41; refine (many_is _ _ hm _).mono ?_; rintro e w' ⟨rfl, rfl⟩))
  go_quiet ((go_at_call 41; exact quiet_left (many_is _ _ hm _)))
  go_wp2
  go_ret
  exact ⟨rfl, below_drewN ((Below.refl _ _).alloc (Nat.le_refl _) _) _⟩
end Go.Proofs.YtllcakiomihipaaGreatDoor
namespace Go.Proofs.YtllcakiomihipaaGreatDoor
open Go.ChangeShapes Go.WideShapes Go.ChangeAt Go.RowKit
set_option linter.unusedVariables false
set_option maxHeartbeats 1000000 in
theorem valid_6_ok (k1 k2 k3 k4 : Int) (hm : Hid (manyOf 6 = 32)) (g1 : 0 ≤ k1) (g2 : k1 < 32) (g3 : 0 ≤ k2) (g4 : k2 ≤ 1048575) (g5 : 0 ≤ k3) (g6 : k3 ≤ 0) (g7 : k4 ≤ 536870911) (w : World) :
    Calls Tryz.prog 20 #[Value.agg #[.int .i64 6, .int .i64 k1, .int .i64 k2, .int .i64 k3, .int .u32 k4]] w fun e w' => e = .returned (.int .i64 0) ∧ Below w.heap.size w w' := by
  have d0 : decide (k1 < 0) = false := by rw [decide_eq_false_iff_not]; omega
  have d1 : decide (32 ≤ k1) = false := by rw [decide_eq_false_iff_not]; omega
  have d2 : decide (k2 < 0) = false := by rw [decide_eq_false_iff_not]; omega
  have d3 : decide (1048575 < k2) = false := by rw [decide_eq_false_iff_not]; omega
  have d4 : decide (k3 < 0) = false := by rw [decide_eq_false_iff_not]; omega
  have d5 : decide (0 < k3) = false := by rw [decide_eq_false_iff_not]; omega
  have d6 : decide (536870911 < k4) = false := by rw [decide_eq_false_iff_not]; omega
  go_enter Tryz.func20, Tryz.ntmps20
  go_wp2_with (first | (go_at_call 41; refine (many_is _ _ hm _).mono ?_; rintro e w' ⟨rfl, rfl⟩))
  go_quiet ((go_at_call 41; exact quiet_left (many_is _ _ hm _)))
  go_wp2
  go_ret
  exact ⟨rfl, below_drewN ((Below.refl _ _).alloc (Nat.le_refl _) _) _⟩
set_option maxHeartbeats 1000000 in
theorem valid_6_b0 (k1 k2 k3 k4 : Int) (hm : Hid (manyOf 6 = 32))  (g : ¬ 0 ≤ k1) (w : World) :
    Calls Tryz.prog 20 #[Value.agg #[.int .i64 6, .int .i64 k1, .int .i64 k2, .int .i64 k3, .int .u32 k4]] w fun e w' => e = .returned (.int .i64 103) ∧ Below w.heap.size w w' := by
  have d0 : decide (k1 < 0) = true := by rw [decide_eq_true_iff]; omega
  go_enter Tryz.func20, Tryz.ntmps20
  go_wp2_with (first | (go_at_call 41; refine (many_is _ _ hm _).mono ?_; rintro e w' ⟨rfl, rfl⟩))
  go_quiet ((go_at_call 41; exact quiet_left (many_is _ _ hm _)))
  go_wp2
  go_ret
  exact ⟨rfl, below_drewN ((Below.refl _ _).alloc (Nat.le_refl _) _) _⟩
set_option maxHeartbeats 1000000 in
theorem valid_6_b1 (k1 k2 k3 k4 : Int) (hm : Hid (manyOf 6 = 32)) (g0 : 0 ≤ k1) (g : ¬ k1 < 32) (w : World) :
    Calls Tryz.prog 20 #[Value.agg #[.int .i64 6, .int .i64 k1, .int .i64 k2, .int .i64 k3, .int .u32 k4]] w fun e w' => e = .returned (.int .i64 103) ∧ Below w.heap.size w w' := by
  have d0 : decide (k1 < 0) = false := by rw [decide_eq_false_iff_not]; omega
  have d1 : decide (32 ≤ k1) = true := by rw [decide_eq_true_iff]; omega
  go_enter Tryz.func20, Tryz.ntmps20
  go_wp2_with (first | (go_at_call 41; refine (many_is _ _ hm _).mono ?_; rintro e w' ⟨rfl, rfl⟩))
  go_quiet ((go_at_call 41; exact quiet_left (many_is _ _ hm _)))
  go_wp2
  go_ret
  exact ⟨rfl, below_drewN ((Below.refl _ _).alloc (Nat.le_refl _) _) _⟩
set_option maxHeartbeats 1000000 in
theorem valid_6_b2 (k1 k2 k3 k4 : Int) (hm : Hid (manyOf 6 = 32)) (g0 : 0 ≤ k1) (g1 : k1 < 32) (g : ¬ 0 ≤ k2) (w : World) :
    Calls Tryz.prog 20 #[Value.agg #[.int .i64 6, .int .i64 k1, .int .i64 k2, .int .i64 k3, .int .u32 k4]] w fun e w' => e = .returned (.int .i64 103) ∧ Below w.heap.size w w' := by
  have d0 : decide (k1 < 0) = false := by rw [decide_eq_false_iff_not]; omega
  have d1 : decide (32 ≤ k1) = false := by rw [decide_eq_false_iff_not]; omega
  have d2 : decide (k2 < 0) = true := by rw [decide_eq_true_iff]; omega
  go_enter Tryz.func20, Tryz.ntmps20
  go_wp2_with (first | (go_at_call 41; refine (many_is _ _ hm _).mono ?_; rintro e w' ⟨rfl, rfl⟩))
  go_quiet ((go_at_call 41; exact quiet_left (many_is _ _ hm _)))
  go_wp2
  go_ret
  exact ⟨rfl, below_drewN ((Below.refl _ _).alloc (Nat.le_refl _) _) _⟩
set_option maxHeartbeats 1000000 in
theorem valid_6_b3 (k1 k2 k3 k4 : Int) (hm : Hid (manyOf 6 = 32)) (g0 : 0 ≤ k1) (g1 : k1 < 32) (g2 : 0 ≤ k2) (g : ¬ k2 ≤ 1048575) (w : World) :
    Calls Tryz.prog 20 #[Value.agg #[.int .i64 6, .int .i64 k1, .int .i64 k2, .int .i64 k3, .int .u32 k4]] w fun e w' => e = .returned (.int .i64 103) ∧ Below w.heap.size w w' := by
  have d0 : decide (k1 < 0) = false := by rw [decide_eq_false_iff_not]; omega
  have d1 : decide (32 ≤ k1) = false := by rw [decide_eq_false_iff_not]; omega
  have d2 : decide (k2 < 0) = false := by rw [decide_eq_false_iff_not]; omega
  have d3 : decide (1048575 < k2) = true := by rw [decide_eq_true_iff]; omega
  go_enter Tryz.func20, Tryz.ntmps20
  go_wp2_with (first | (go_at_call 41; refine (many_is _ _ hm _).mono ?_; rintro e w' ⟨rfl, rfl⟩))
  go_quiet ((go_at_call 41; exact quiet_left (many_is _ _ hm _)))
  go_wp2
  go_ret
  exact ⟨rfl, below_drewN ((Below.refl _ _).alloc (Nat.le_refl _) _) _⟩
set_option maxHeartbeats 1000000 in
theorem valid_6_b4 (k1 k2 k3 k4 : Int) (hm : Hid (manyOf 6 = 32)) (g0 : 0 ≤ k1) (g1 : k1 < 32) (g2 : 0 ≤ k2) (g3 : k2 ≤ 1048575) (g : ¬ 0 ≤ k3) (w : World) :
    Calls Tryz.prog 20 #[Value.agg #[.int .i64 6, .int .i64 k1, .int .i64 k2, .int .i64 k3, .int .u32 k4]] w fun e w' => e = .returned (.int .i64 103) ∧ Below w.heap.size w w' := by
  have d0 : decide (k1 < 0) = false := by rw [decide_eq_false_iff_not]; omega
  have d1 : decide (32 ≤ k1) = false := by rw [decide_eq_false_iff_not]; omega
  have d2 : decide (k2 < 0) = false := by rw [decide_eq_false_iff_not]; omega
  have d3 : decide (1048575 < k2) = false := by rw [decide_eq_false_iff_not]; omega
  have d4 : decide (k3 < 0) = true := by rw [decide_eq_true_iff]; omega
  go_enter Tryz.func20, Tryz.ntmps20
  go_wp2_with (first | (go_at_call 41; refine (many_is _ _ hm _).mono ?_; rintro e w' ⟨rfl, rfl⟩))
  go_quiet ((go_at_call 41; exact quiet_left (many_is _ _ hm _)))
  go_wp2
  go_ret
  exact ⟨rfl, below_drewN ((Below.refl _ _).alloc (Nat.le_refl _) _) _⟩
set_option maxHeartbeats 1000000 in
theorem valid_6_b5 (k1 k2 k3 k4 : Int) (hm : Hid (manyOf 6 = 32)) (g0 : 0 ≤ k1) (g1 : k1 < 32) (g2 : 0 ≤ k2) (g3 : k2 ≤ 1048575) (g4 : 0 ≤ k3) (g : ¬ k3 ≤ 0) (w : World) :
    Calls Tryz.prog 20 #[Value.agg #[.int .i64 6, .int .i64 k1, .int .i64 k2, .int .i64 k3, .int .u32 k4]] w fun e w' => e = .returned (.int .i64 103) ∧ Below w.heap.size w w' := by
  have d0 : decide (k1 < 0) = false := by rw [decide_eq_false_iff_not]; omega
  have d1 : decide (32 ≤ k1) = false := by rw [decide_eq_false_iff_not]; omega
  have d2 : decide (k2 < 0) = false := by rw [decide_eq_false_iff_not]; omega
  have d3 : decide (1048575 < k2) = false := by rw [decide_eq_false_iff_not]; omega
  have d4 : decide (k3 < 0) = false := by rw [decide_eq_false_iff_not]; omega
  have d5 : decide (0 < k3) = true := by rw [decide_eq_true_iff]; omega
  go_enter Tryz.func20, Tryz.ntmps20
  go_wp2_with (first | (go_at_call 41; refine (many_is _ _ hm _).mono ?_; rintro e w' ⟨rfl, rfl⟩))
  go_quiet ((go_at_call 41; exact quiet_left (many_is _ _ hm _)))
  go_wp2
  go_ret
  exact ⟨rfl, below_drewN ((Below.refl _ _).alloc (Nat.le_refl _) _) _⟩
set_option maxHeartbeats 1000000 in
theorem valid_6_b6 (k1 k2 k3 k4 : Int) (hm : Hid (manyOf 6 = 32)) (g0 : 0 ≤ k1) (g1 : k1 < 32) (g2 : 0 ≤ k2) (g3 : k2 ≤ 1048575) (g4 : 0 ≤ k3) (g5 : k3 ≤ 0) (g : ¬ k4 ≤ 536870911) (w : World) :
    Calls Tryz.prog 20 #[Value.agg #[.int .i64 6, .int .i64 k1, .int .i64 k2, .int .i64 k3, .int .u32 k4]] w fun e w' => e = .returned (.int .i64 103) ∧ Below w.heap.size w w' := by
  have d0 : decide (k1 < 0) = false := by rw [decide_eq_false_iff_not]; omega
  have d1 : decide (32 ≤ k1) = false := by rw [decide_eq_false_iff_not]; omega
  have d2 : decide (k2 < 0) = false := by rw [decide_eq_false_iff_not]; omega
  have d3 : decide (1048575 < k2) = false := by rw [decide_eq_false_iff_not]; omega
  have d4 : decide (k3 < 0) = false := by rw [decide_eq_false_iff_not]; omega
  have d5 : decide (0 < k3) = false := by rw [decide_eq_false_iff_not]; omega
  have d6 : decide (536870911 < k4) = true := by rw [decide_eq_true_iff]; omega
  go_enter Tryz.func20, Tryz.ntmps20
  go_wp2_with (first | (go_at_call 41; refine (many_is _ _ hm _).mono ?_; rintro e w' ⟨rfl, rfl⟩))
  go_quiet ((go_at_call 41; exact quiet_left (many_is _ _ hm _)))
  go_wp2
  go_ret
  exact ⟨rfl, below_drewN ((Below.refl _ _).alloc (Nat.le_refl _) _) _⟩
set_option maxHeartbeats 1000000 in
theorem valid_D_ok (k0 k1 k2 k3 k4 m : Int) (h0 : 0 ≤ k0) (h14 : k0 ≤ 14) (h1 : ¬ k0 = 1) (h2 : ¬ k0 = 2) (h3 : ¬ k0 = 3) (h5 : ¬ k0 = 5) (h6 : ¬ k0 = 6) (hm : Hid (manyOf k0 = m)) (hm1 : 1 < m) (g1 : 0 ≤ k1) (g2 : k1 < m) (g3 : 0 ≤ k2) (g4 : k2 ≤ 1048575) (g5 : 0 ≤ k3) (g6 : k3 ≤ 0) (g7 : k4 ≤ 0) (w : World) :
    Calls Tryz.prog 20 #[Value.agg #[.int .i64 k0, .int .i64 k1, .int .i64 k2, .int .i64 k3, .int .u32 k4]] w fun e w' => e = .returned (.int .i64 0) ∧ Below w.heap.size w w' := by
  have e1 : (k0 == 1) = false := by simpa using h1
  have e2 : (k0 == 2) = false := by simpa using h2
  have e3 : (k0 == 3) = false := by simpa using h3
  have e5 : (k0 == 5) = false := by simpa using h5
  have e6 : (k0 == 6) = false := by simpa using h6
  have e0 : decide (k0 < 0) = false := by rw [decide_eq_false_iff_not]; omega
  have e14 : decide (14 < k0) = false := by rw [decide_eq_false_iff_not]; omega
  have d0 : decide (k1 < 0) = false := by rw [decide_eq_false_iff_not]; omega
  have d1 : decide (m ≤ k1) = false := by rw [decide_eq_false_iff_not]; omega
  have d2 : decide (k2 < 0) = false := by rw [decide_eq_false_iff_not]; omega
  have d3 : decide (1048575 < k2) = false := by rw [decide_eq_false_iff_not]; omega
  have d4 : decide (k3 < 0) = false := by rw [decide_eq_false_iff_not]; omega
  have d5 : decide (0 < k3) = false := by rw [decide_eq_false_iff_not]; omega
  have d6 : decide (0 < k4) = false := by rw [decide_eq_false_iff_not]; omega
  go_enter Tryz.func20, Tryz.ntmps20
  go_wp2_with (first | (go_at_call 41; refine (many_is _ _ hm _).mono ?_; rintro e w' ⟨rfl, rfl⟩))
  go_quiet ((go_at_call 41; exact quiet_left (many_is _ _ hm _)))
  go_wp2
  go_ret
  exact ⟨rfl, below_drewN ((Below.refl _ _).alloc (Nat.le_refl _) _) _⟩
set_option maxHeartbeats 1000000 in
theorem valid_D_b0 (k0 k1 k2 k3 k4 m : Int) (h0 : 0 ≤ k0) (h14 : k0 ≤ 14) (h1 : ¬ k0 = 1) (h2 : ¬ k0 = 2) (h3 : ¬ k0 = 3) (h5 : ¬ k0 = 5) (h6 : ¬ k0 = 6) (hm : Hid (manyOf k0 = m)) (hm1 : 1 < m)  (g : ¬ 0 ≤ k1) (w : World) :
    Calls Tryz.prog 20 #[Value.agg #[.int .i64 k0, .int .i64 k1, .int .i64 k2, .int .i64 k3, .int .u32 k4]] w fun e w' => e = .returned (.int .i64 103) ∧ Below w.heap.size w w' := by
  have e1 : (k0 == 1) = false := by simpa using h1
  have e2 : (k0 == 2) = false := by simpa using h2
  have e3 : (k0 == 3) = false := by simpa using h3
  have e5 : (k0 == 5) = false := by simpa using h5
  have e6 : (k0 == 6) = false := by simpa using h6
  have e0 : decide (k0 < 0) = false := by rw [decide_eq_false_iff_not]; omega
  have e14 : decide (14 < k0) = false := by rw [decide_eq_false_iff_not]; omega
  have d0 : decide (k1 < 0) = true := by rw [decide_eq_true_iff]; omega
  go_enter Tryz.func20, Tryz.ntmps20
  go_wp2_with (first | (go_at_call 41; refine (many_is _ _ hm _).mono ?_; rintro e w' ⟨rfl, rfl⟩))
  go_quiet ((go_at_call 41; exact quiet_left (many_is _ _ hm _)))
  go_wp2
  go_ret
  exact ⟨rfl, below_drewN ((Below.refl _ _).alloc (Nat.le_refl _) _) _⟩
set_option maxHeartbeats 1000000 in
theorem valid_D_b1 (k0 k1 k2 k3 k4 m : Int) (h0 : 0 ≤ k0) (h14 : k0 ≤ 14) (h1 : ¬ k0 = 1) (h2 : ¬ k0 = 2) (h3 : ¬ k0 = 3) (h5 : ¬ k0 = 5) (h6 : ¬ k0 = 6) (hm : Hid (manyOf k0 = m)) (hm1 : 1 < m) (g0 : 0 ≤ k1) (g : ¬ k1 < m) (w : World) :
    Calls Tryz.prog 20 #[Value.agg #[.int .i64 k0, .int .i64 k1, .int .i64 k2, .int .i64 k3, .int .u32 k4]] w fun e w' => e = .returned (.int .i64 103) ∧ Below w.heap.size w w' := by
  have e1 : (k0 == 1) = false := by simpa using h1
  have e2 : (k0 == 2) = false := by simpa using h2
  have e3 : (k0 == 3) = false := by simpa using h3
  have e5 : (k0 == 5) = false := by simpa using h5
  have e6 : (k0 == 6) = false := by simpa using h6
  have e0 : decide (k0 < 0) = false := by rw [decide_eq_false_iff_not]; omega
  have e14 : decide (14 < k0) = false := by rw [decide_eq_false_iff_not]; omega
  have d0 : decide (k1 < 0) = false := by rw [decide_eq_false_iff_not]; omega
  have d1 : decide (m ≤ k1) = true := by rw [decide_eq_true_iff]; omega
  go_enter Tryz.func20, Tryz.ntmps20
  go_wp2_with (first | (go_at_call 41; refine (many_is _ _ hm _).mono ?_; rintro e w' ⟨rfl, rfl⟩))
  go_quiet ((go_at_call 41; exact quiet_left (many_is _ _ hm _)))
  go_wp2
  go_ret
  exact ⟨rfl, below_drewN ((Below.refl _ _).alloc (Nat.le_refl _) _) _⟩
set_option maxHeartbeats 1000000 in
theorem valid_D_b2 (k0 k1 k2 k3 k4 m : Int) (h0 : 0 ≤ k0) (h14 : k0 ≤ 14) (h1 : ¬ k0 = 1) (h2 : ¬ k0 = 2) (h3 : ¬ k0 = 3) (h5 : ¬ k0 = 5) (h6 : ¬ k0 = 6) (hm : Hid (manyOf k0 = m)) (hm1 : 1 < m) (g0 : 0 ≤ k1) (g1 : k1 < m) (g : ¬ 0 ≤ k2) (w : World) :
    Calls Tryz.prog 20 #[Value.agg #[.int .i64 k0, .int .i64 k1, .int .i64 k2, .int .i64 k3, .int .u32 k4]] w fun e w' => e = .returned (.int .i64 103) ∧ Below w.heap.size w w' := by
  have e1 : (k0 == 1) = false := by simpa using h1
  have e2 : (k0 == 2) = false := by simpa using h2
  have e3 : (k0 == 3) = false := by simpa using h3
  have e5 : (k0 == 5) = false := by simpa using h5
  have e6 : (k0 == 6) = false := by simpa using h6
  have e0 : decide (k0 < 0) = false := by rw [decide_eq_false_iff_not]; omega
  have e14 : decide (14 < k0) = false := by rw [decide_eq_false_iff_not]; omega
  have d0 : decide (k1 < 0) = false := by rw [decide_eq_false_iff_not]; omega
  have d1 : decide (m ≤ k1) = false := by rw [decide_eq_false_iff_not]; omega
  have d2 : decide (k2 < 0) = true := by rw [decide_eq_true_iff]; omega
  go_enter Tryz.func20, Tryz.ntmps20
  go_wp2_with (first | (go_at_call 41; refine (many_is _ _ hm _).mono ?_; rintro e w' ⟨rfl, rfl⟩))
  go_quiet ((go_at_call 41; exact quiet_left (many_is _ _ hm _)))
  go_wp2
  go_ret
  exact ⟨rfl, below_drewN ((Below.refl _ _).alloc (Nat.le_refl _) _) _⟩
set_option maxHeartbeats 1000000 in
theorem valid_D_b3 (k0 k1 k2 k3 k4 m : Int) (h0 : 0 ≤ k0) (h14 : k0 ≤ 14) (h1 : ¬ k0 = 1) (h2 : ¬ k0 = 2) (h3 : ¬ k0 = 3) (h5 : ¬ k0 = 5) (h6 : ¬ k0 = 6) (hm : Hid (manyOf k0 = m)) (hm1 : 1 < m) (g0 : 0 ≤ k1) (g1 : k1 < m) (g2 : 0 ≤ k2) (g : ¬ k2 ≤ 1048575) (w : World) :
    Calls Tryz.prog 20 #[Value.agg #[.int .i64 k0, .int .i64 k1, .int .i64 k2, .int .i64 k3, .int .u32 k4]] w fun e w' => e = .returned (.int .i64 103) ∧ Below w.heap.size w w' := by
  have e1 : (k0 == 1) = false := by simpa using h1
  have e2 : (k0 == 2) = false := by simpa using h2
  have e3 : (k0 == 3) = false := by simpa using h3
  have e5 : (k0 == 5) = false := by simpa using h5
  have e6 : (k0 == 6) = false := by simpa using h6
  have e0 : decide (k0 < 0) = false := by rw [decide_eq_false_iff_not]; omega
  have e14 : decide (14 < k0) = false := by rw [decide_eq_false_iff_not]; omega
  have d0 : decide (k1 < 0) = false := by rw [decide_eq_false_iff_not]; omega
  have d1 : decide (m ≤ k1) = false := by rw [decide_eq_false_iff_not]; omega
  have d2 : decide (k2 < 0) = false := by rw [decide_eq_false_iff_not]; omega
  have d3 : decide (1048575 < k2) = true := by rw [decide_eq_true_iff]; omega
  go_enter Tryz.func20, Tryz.ntmps20
  go_wp2_with (first | (go_at_call 41; refine (many_is _ _ hm _).mono ?_; rintro e w' ⟨rfl, rfl⟩))
  go_quiet ((go_at_call 41; exact quiet_left (many_is _ _ hm _)))
  go_wp2
  go_ret
  exact ⟨rfl, below_drewN ((Below.refl _ _).alloc (Nat.le_refl _) _) _⟩
set_option maxHeartbeats 1000000 in
theorem valid_D_b4 (k0 k1 k2 k3 k4 m : Int) (h0 : 0 ≤ k0) (h14 : k0 ≤ 14) (h1 : ¬ k0 = 1) (h2 : ¬ k0 = 2) (h3 : ¬ k0 = 3) (h5 : ¬ k0 = 5) (h6 : ¬ k0 = 6) (hm : Hid (manyOf k0 = m)) (hm1 : 1 < m) (g0 : 0 ≤ k1) (g1 : k1 < m) (g2 : 0 ≤ k2) (g3 : k2 ≤ 1048575) (g : ¬ 0 ≤ k3) (w : World) :
    Calls Tryz.prog 20 #[Value.agg #[.int .i64 k0, .int .i64 k1, .int .i64 k2, .int .i64 k3, .int .u32 k4]] w fun e w' => e = .returned (.int .i64 103) ∧ Below w.heap.size w w' := by
  have e1 : (k0 == 1) = false := by simpa using h1
  have e2 : (k0 == 2) = false := by simpa using h2
  have e3 : (k0 == 3) = false := by simpa using h3
  have e5 : (k0 == 5) = false := by simpa using h5
  have e6 : (k0 == 6) = false := by simpa using h6
  have e0 : decide (k0 < 0) = false := by rw [decide_eq_false_iff_not]; omega
  have e14 : decide (14 < k0) = false := by rw [decide_eq_false_iff_not]; omega
  have d0 : decide (k1 < 0) = false := by rw [decide_eq_false_iff_not]; omega
  have d1 : decide (m ≤ k1) = false := by rw [decide_eq_false_iff_not]; omega
  have d2 : decide (k2 < 0) = false := by rw [decide_eq_false_iff_not]; omega
  have d3 : decide (1048575 < k2) = false := by rw [decide_eq_false_iff_not]; omega
  have d4 : decide (k3 < 0) = true := by rw [decide_eq_true_iff]; omega
  go_enter Tryz.func20, Tryz.ntmps20
  go_wp2_with (first | (go_at_call 41; refine (many_is _ _ hm _).mono ?_; rintro e w' ⟨rfl, rfl⟩))
  go_quiet ((go_at_call 41; exact quiet_left (many_is _ _ hm _)))
  go_wp2
  go_ret
  exact ⟨rfl, below_drewN ((Below.refl _ _).alloc (Nat.le_refl _) _) _⟩
set_option maxHeartbeats 1000000 in
theorem valid_D_b5 (k0 k1 k2 k3 k4 m : Int) (h0 : 0 ≤ k0) (h14 : k0 ≤ 14) (h1 : ¬ k0 = 1) (h2 : ¬ k0 = 2) (h3 : ¬ k0 = 3) (h5 : ¬ k0 = 5) (h6 : ¬ k0 = 6) (hm : Hid (manyOf k0 = m)) (hm1 : 1 < m) (g0 : 0 ≤ k1) (g1 : k1 < m) (g2 : 0 ≤ k2) (g3 : k2 ≤ 1048575) (g4 : 0 ≤ k3) (g : ¬ k3 ≤ 0) (w : World) :
    Calls Tryz.prog 20 #[Value.agg #[.int .i64 k0, .int .i64 k1, .int .i64 k2, .int .i64 k3, .int .u32 k4]] w fun e w' => e = .returned (.int .i64 103) ∧ Below w.heap.size w w' := by
  have e1 : (k0 == 1) = false := by simpa using h1
  have e2 : (k0 == 2) = false := by simpa using h2
  have e3 : (k0 == 3) = false := by simpa using h3
  have e5 : (k0 == 5) = false := by simpa using h5
  have e6 : (k0 == 6) = false := by simpa using h6
  have e0 : decide (k0 < 0) = false := by rw [decide_eq_false_iff_not]; omega
  have e14 : decide (14 < k0) = false := by rw [decide_eq_false_iff_not]; omega
  have d0 : decide (k1 < 0) = false := by rw [decide_eq_false_iff_not]; omega
  have d1 : decide (m ≤ k1) = false := by rw [decide_eq_false_iff_not]; omega
  have d2 : decide (k2 < 0) = false := by rw [decide_eq_false_iff_not]; omega
  have d3 : decide (1048575 < k2) = false := by rw [decide_eq_false_iff_not]; omega
  have d4 : decide (k3 < 0) = false := by rw [decide_eq_false_iff_not]; omega
  have d5 : decide (0 < k3) = true := by rw [decide_eq_true_iff]; omega
  go_enter Tryz.func20, Tryz.ntmps20
  go_wp2_with (first | (go_at_call 41; refine (many_is _ _ hm _).mono ?_; rintro e w' ⟨rfl, rfl⟩))
  go_quiet ((go_at_call 41; exact quiet_left (many_is _ _ hm _)))
  go_wp2
  go_ret
  exact ⟨rfl, below_drewN ((Below.refl _ _).alloc (Nat.le_refl _) _) _⟩
set_option maxHeartbeats 1000000 in
theorem valid_D_b6 (k0 k1 k2 k3 k4 m : Int) (h0 : 0 ≤ k0) (h14 : k0 ≤ 14) (h1 : ¬ k0 = 1) (h2 : ¬ k0 = 2) (h3 : ¬ k0 = 3) (h5 : ¬ k0 = 5) (h6 : ¬ k0 = 6) (hm : Hid (manyOf k0 = m)) (hm1 : 1 < m) (g0 : 0 ≤ k1) (g1 : k1 < m) (g2 : 0 ≤ k2) (g3 : k2 ≤ 1048575) (g4 : 0 ≤ k3) (g5 : k3 ≤ 0) (g : ¬ k4 ≤ 0) (w : World) :
    Calls Tryz.prog 20 #[Value.agg #[.int .i64 k0, .int .i64 k1, .int .i64 k2, .int .i64 k3, .int .u32 k4]] w fun e w' => e = .returned (.int .i64 103) ∧ Below w.heap.size w w' := by
  have e1 : (k0 == 1) = false := by simpa using h1
  have e2 : (k0 == 2) = false := by simpa using h2
  have e3 : (k0 == 3) = false := by simpa using h3
  have e5 : (k0 == 5) = false := by simpa using h5
  have e6 : (k0 == 6) = false := by simpa using h6
  have e0 : decide (k0 < 0) = false := by rw [decide_eq_false_iff_not]; omega
  have e14 : decide (14 < k0) = false := by rw [decide_eq_false_iff_not]; omega
  have d0 : decide (k1 < 0) = false := by rw [decide_eq_false_iff_not]; omega
  have d1 : decide (m ≤ k1) = false := by rw [decide_eq_false_iff_not]; omega
  have d2 : decide (k2 < 0) = false := by rw [decide_eq_false_iff_not]; omega
  have d3 : decide (1048575 < k2) = false := by rw [decide_eq_false_iff_not]; omega
  have d4 : decide (k3 < 0) = false := by rw [decide_eq_false_iff_not]; omega
  have d5 : decide (0 < k3) = false := by rw [decide_eq_false_iff_not]; omega
  have d6 : decide (0 < k4) = true := by rw [decide_eq_true_iff]; omega
  go_enter Tryz.func20, Tryz.ntmps20
  go_wp2_with (first | (go_at_call 41; refine (many_is _ _ hm _).mono ?_; rintro e w' ⟨rfl, rfl⟩))
  go_quiet ((go_at_call 41; exact quiet_left (many_is _ _ hm _)))
  go_wp2
  go_ret
  exact ⟨rfl, below_drewN ((Below.refl _ _).alloc (Nat.le_refl _) _) _⟩
end Go.Proofs.YtllcakiomihipaaGreatDoor
namespace Go.Proofs.YtllcakiomihipaaGreatDoor
open Go.ChangeShapes Go.WideShapes Go.ChangeAt Go.RowKit
set_option linter.unusedVariables false
set_option maxHeartbeats 1000000 in
theorem valid_F_ok (k0 k1 k2 k3 k4 : Int) (h0 : 0 ≤ k0) (h14 : k0 ≤ 14) (h1 : ¬ k0 = 1) (h2 : ¬ k0 = 2) (h3 : ¬ k0 = 3) (h5 : ¬ k0 = 5) (h6 : ¬ k0 = 6) (hm : Hid (manyOf k0 = 1)) (g1 : 0 ≤ k1) (g2 : k1 < 1) (g3 : 0 ≤ k2) (g4 : k2 ≤ 0) (g5 : 0 ≤ k3) (g6 : k3 ≤ 0) (g7 : k4 ≤ 0) (w : World) :
    Calls Tryz.prog 20 #[Value.agg #[.int .i64 k0, .int .i64 k1, .int .i64 k2, .int .i64 k3, .int .u32 k4]] w fun e w' => e = .returned (.int .i64 0) ∧ Below w.heap.size w w' := by
  have e1 : (k0 == 1) = false := by simpa using h1
  have e2 : (k0 == 2) = false := by simpa using h2
  have e3 : (k0 == 3) = false := by simpa using h3
  have e5 : (k0 == 5) = false := by simpa using h5
  have e6 : (k0 == 6) = false := by simpa using h6
  have e0 : decide (k0 < 0) = false := by rw [decide_eq_false_iff_not]; omega
  have e14 : decide (14 < k0) = false := by rw [decide_eq_false_iff_not]; omega
  have d0 : decide (k1 < 0) = false := by rw [decide_eq_false_iff_not]; omega
  have d1 : decide (1 ≤ k1) = false := by rw [decide_eq_false_iff_not]; omega
  have d2 : decide (k2 < 0) = false := by rw [decide_eq_false_iff_not]; omega
  have d3 : decide (0 < k2) = false := by rw [decide_eq_false_iff_not]; omega
  have d4 : decide (k3 < 0) = false := by rw [decide_eq_false_iff_not]; omega
  have d5 : decide (0 < k3) = false := by rw [decide_eq_false_iff_not]; omega
  have d6 : decide (0 < k4) = false := by rw [decide_eq_false_iff_not]; omega
  go_enter Tryz.func20, Tryz.ntmps20
  go_wp2_with (first | (go_at_call 41; refine (many_is _ _ hm _).mono ?_; rintro e w' ⟨rfl, rfl⟩))
  go_quiet ((go_at_call 41; exact quiet_left (many_is _ _ hm _)))
  go_wp2
  go_ret
  exact ⟨rfl, below_drewN ((Below.refl _ _).alloc (Nat.le_refl _) _) _⟩
set_option maxHeartbeats 1000000 in
theorem valid_F_b0 (k0 k1 k2 k3 k4 : Int) (h0 : 0 ≤ k0) (h14 : k0 ≤ 14) (h1 : ¬ k0 = 1) (h2 : ¬ k0 = 2) (h3 : ¬ k0 = 3) (h5 : ¬ k0 = 5) (h6 : ¬ k0 = 6) (hm : Hid (manyOf k0 = 1))  (g : ¬ 0 ≤ k1) (w : World) :
    Calls Tryz.prog 20 #[Value.agg #[.int .i64 k0, .int .i64 k1, .int .i64 k2, .int .i64 k3, .int .u32 k4]] w fun e w' => e = .returned (.int .i64 103) ∧ Below w.heap.size w w' := by
  have e1 : (k0 == 1) = false := by simpa using h1
  have e2 : (k0 == 2) = false := by simpa using h2
  have e3 : (k0 == 3) = false := by simpa using h3
  have e5 : (k0 == 5) = false := by simpa using h5
  have e6 : (k0 == 6) = false := by simpa using h6
  have e0 : decide (k0 < 0) = false := by rw [decide_eq_false_iff_not]; omega
  have e14 : decide (14 < k0) = false := by rw [decide_eq_false_iff_not]; omega
  have d0 : decide (k1 < 0) = true := by rw [decide_eq_true_iff]; omega
  go_enter Tryz.func20, Tryz.ntmps20
  go_wp2_with (first | (go_at_call 41; refine (many_is _ _ hm _).mono ?_; rintro e w' ⟨rfl, rfl⟩))
  go_quiet ((go_at_call 41; exact quiet_left (many_is _ _ hm _)))
  go_wp2
  go_ret
  exact ⟨rfl, below_drewN ((Below.refl _ _).alloc (Nat.le_refl _) _) _⟩
set_option maxHeartbeats 1000000 in
theorem valid_F_b1 (k0 k1 k2 k3 k4 : Int) (h0 : 0 ≤ k0) (h14 : k0 ≤ 14) (h1 : ¬ k0 = 1) (h2 : ¬ k0 = 2) (h3 : ¬ k0 = 3) (h5 : ¬ k0 = 5) (h6 : ¬ k0 = 6) (hm : Hid (manyOf k0 = 1)) (g0 : 0 ≤ k1) (g : ¬ k1 < 1) (w : World) :
    Calls Tryz.prog 20 #[Value.agg #[.int .i64 k0, .int .i64 k1, .int .i64 k2, .int .i64 k3, .int .u32 k4]] w fun e w' => e = .returned (.int .i64 103) ∧ Below w.heap.size w w' := by
  have e1 : (k0 == 1) = false := by simpa using h1
  have e2 : (k0 == 2) = false := by simpa using h2
  have e3 : (k0 == 3) = false := by simpa using h3
  have e5 : (k0 == 5) = false := by simpa using h5
  have e6 : (k0 == 6) = false := by simpa using h6
  have e0 : decide (k0 < 0) = false := by rw [decide_eq_false_iff_not]; omega
  have e14 : decide (14 < k0) = false := by rw [decide_eq_false_iff_not]; omega
  have d0 : decide (k1 < 0) = false := by rw [decide_eq_false_iff_not]; omega
  have d1 : decide (1 ≤ k1) = true := by rw [decide_eq_true_iff]; omega
  go_enter Tryz.func20, Tryz.ntmps20
  go_wp2_with (first | (go_at_call 41; refine (many_is _ _ hm _).mono ?_; rintro e w' ⟨rfl, rfl⟩))
  go_quiet ((go_at_call 41; exact quiet_left (many_is _ _ hm _)))
  go_wp2
  go_ret
  exact ⟨rfl, below_drewN ((Below.refl _ _).alloc (Nat.le_refl _) _) _⟩
set_option maxHeartbeats 1000000 in
theorem valid_F_b2 (k0 k1 k2 k3 k4 : Int) (h0 : 0 ≤ k0) (h14 : k0 ≤ 14) (h1 : ¬ k0 = 1) (h2 : ¬ k0 = 2) (h3 : ¬ k0 = 3) (h5 : ¬ k0 = 5) (h6 : ¬ k0 = 6) (hm : Hid (manyOf k0 = 1)) (g0 : 0 ≤ k1) (g1 : k1 < 1) (g : ¬ 0 ≤ k2) (w : World) :
    Calls Tryz.prog 20 #[Value.agg #[.int .i64 k0, .int .i64 k1, .int .i64 k2, .int .i64 k3, .int .u32 k4]] w fun e w' => e = .returned (.int .i64 103) ∧ Below w.heap.size w w' := by
  have e1 : (k0 == 1) = false := by simpa using h1
  have e2 : (k0 == 2) = false := by simpa using h2
  have e3 : (k0 == 3) = false := by simpa using h3
  have e5 : (k0 == 5) = false := by simpa using h5
  have e6 : (k0 == 6) = false := by simpa using h6
  have e0 : decide (k0 < 0) = false := by rw [decide_eq_false_iff_not]; omega
  have e14 : decide (14 < k0) = false := by rw [decide_eq_false_iff_not]; omega
  have d0 : decide (k1 < 0) = false := by rw [decide_eq_false_iff_not]; omega
  have d1 : decide (1 ≤ k1) = false := by rw [decide_eq_false_iff_not]; omega
  have d2 : decide (k2 < 0) = true := by rw [decide_eq_true_iff]; omega
  go_enter Tryz.func20, Tryz.ntmps20
  go_wp2_with (first | (go_at_call 41; refine (many_is _ _ hm _).mono ?_; rintro e w' ⟨rfl, rfl⟩))
  go_quiet ((go_at_call 41; exact quiet_left (many_is _ _ hm _)))
  go_wp2
  go_ret
  exact ⟨rfl, below_drewN ((Below.refl _ _).alloc (Nat.le_refl _) _) _⟩
set_option maxHeartbeats 1000000 in
theorem valid_F_b3 (k0 k1 k2 k3 k4 : Int) (h0 : 0 ≤ k0) (h14 : k0 ≤ 14) (h1 : ¬ k0 = 1) (h2 : ¬ k0 = 2) (h3 : ¬ k0 = 3) (h5 : ¬ k0 = 5) (h6 : ¬ k0 = 6) (hm : Hid (manyOf k0 = 1)) (g0 : 0 ≤ k1) (g1 : k1 < 1) (g2 : 0 ≤ k2) (g : ¬ k2 ≤ 0) (w : World) :
    Calls Tryz.prog 20 #[Value.agg #[.int .i64 k0, .int .i64 k1, .int .i64 k2, .int .i64 k3, .int .u32 k4]] w fun e w' => e = .returned (.int .i64 103) ∧ Below w.heap.size w w' := by
  have e1 : (k0 == 1) = false := by simpa using h1
  have e2 : (k0 == 2) = false := by simpa using h2
  have e3 : (k0 == 3) = false := by simpa using h3
  have e5 : (k0 == 5) = false := by simpa using h5
  have e6 : (k0 == 6) = false := by simpa using h6
  have e0 : decide (k0 < 0) = false := by rw [decide_eq_false_iff_not]; omega
  have e14 : decide (14 < k0) = false := by rw [decide_eq_false_iff_not]; omega
  have d0 : decide (k1 < 0) = false := by rw [decide_eq_false_iff_not]; omega
  have d1 : decide (1 ≤ k1) = false := by rw [decide_eq_false_iff_not]; omega
  have d2 : decide (k2 < 0) = false := by rw [decide_eq_false_iff_not]; omega
  have d3 : decide (0 < k2) = true := by rw [decide_eq_true_iff]; omega
  go_enter Tryz.func20, Tryz.ntmps20
  go_wp2_with (first | (go_at_call 41; refine (many_is _ _ hm _).mono ?_; rintro e w' ⟨rfl, rfl⟩))
  go_quiet ((go_at_call 41; exact quiet_left (many_is _ _ hm _)))
  go_wp2
  go_ret
  exact ⟨rfl, below_drewN ((Below.refl _ _).alloc (Nat.le_refl _) _) _⟩
set_option maxHeartbeats 1000000 in
theorem valid_F_b4 (k0 k1 k2 k3 k4 : Int) (h0 : 0 ≤ k0) (h14 : k0 ≤ 14) (h1 : ¬ k0 = 1) (h2 : ¬ k0 = 2) (h3 : ¬ k0 = 3) (h5 : ¬ k0 = 5) (h6 : ¬ k0 = 6) (hm : Hid (manyOf k0 = 1)) (g0 : 0 ≤ k1) (g1 : k1 < 1) (g2 : 0 ≤ k2) (g3 : k2 ≤ 0) (g : ¬ 0 ≤ k3) (w : World) :
    Calls Tryz.prog 20 #[Value.agg #[.int .i64 k0, .int .i64 k1, .int .i64 k2, .int .i64 k3, .int .u32 k4]] w fun e w' => e = .returned (.int .i64 103) ∧ Below w.heap.size w w' := by
  have e1 : (k0 == 1) = false := by simpa using h1
  have e2 : (k0 == 2) = false := by simpa using h2
  have e3 : (k0 == 3) = false := by simpa using h3
  have e5 : (k0 == 5) = false := by simpa using h5
  have e6 : (k0 == 6) = false := by simpa using h6
  have e0 : decide (k0 < 0) = false := by rw [decide_eq_false_iff_not]; omega
  have e14 : decide (14 < k0) = false := by rw [decide_eq_false_iff_not]; omega
  have d0 : decide (k1 < 0) = false := by rw [decide_eq_false_iff_not]; omega
  have d1 : decide (1 ≤ k1) = false := by rw [decide_eq_false_iff_not]; omega
  have d2 : decide (k2 < 0) = false := by rw [decide_eq_false_iff_not]; omega
  have d3 : decide (0 < k2) = false := by rw [decide_eq_false_iff_not]; omega
  have d4 : decide (k3 < 0) = true := by rw [decide_eq_true_iff]; omega
  go_enter Tryz.func20, Tryz.ntmps20
  go_wp2_with (first | (go_at_call 41; refine (many_is _ _ hm _).mono ?_; rintro e w' ⟨rfl, rfl⟩))
  go_quiet ((go_at_call 41; exact quiet_left (many_is _ _ hm _)))
  go_wp2
  go_ret
  exact ⟨rfl, below_drewN ((Below.refl _ _).alloc (Nat.le_refl _) _) _⟩
set_option maxHeartbeats 1000000 in
theorem valid_F_b5 (k0 k1 k2 k3 k4 : Int) (h0 : 0 ≤ k0) (h14 : k0 ≤ 14) (h1 : ¬ k0 = 1) (h2 : ¬ k0 = 2) (h3 : ¬ k0 = 3) (h5 : ¬ k0 = 5) (h6 : ¬ k0 = 6) (hm : Hid (manyOf k0 = 1)) (g0 : 0 ≤ k1) (g1 : k1 < 1) (g2 : 0 ≤ k2) (g3 : k2 ≤ 0) (g4 : 0 ≤ k3) (g : ¬ k3 ≤ 0) (w : World) :
    Calls Tryz.prog 20 #[Value.agg #[.int .i64 k0, .int .i64 k1, .int .i64 k2, .int .i64 k3, .int .u32 k4]] w fun e w' => e = .returned (.int .i64 103) ∧ Below w.heap.size w w' := by
  have e1 : (k0 == 1) = false := by simpa using h1
  have e2 : (k0 == 2) = false := by simpa using h2
  have e3 : (k0 == 3) = false := by simpa using h3
  have e5 : (k0 == 5) = false := by simpa using h5
  have e6 : (k0 == 6) = false := by simpa using h6
  have e0 : decide (k0 < 0) = false := by rw [decide_eq_false_iff_not]; omega
  have e14 : decide (14 < k0) = false := by rw [decide_eq_false_iff_not]; omega
  have d0 : decide (k1 < 0) = false := by rw [decide_eq_false_iff_not]; omega
  have d1 : decide (1 ≤ k1) = false := by rw [decide_eq_false_iff_not]; omega
  have d2 : decide (k2 < 0) = false := by rw [decide_eq_false_iff_not]; omega
  have d3 : decide (0 < k2) = false := by rw [decide_eq_false_iff_not]; omega
  have d4 : decide (k3 < 0) = false := by rw [decide_eq_false_iff_not]; omega
  have d5 : decide (0 < k3) = true := by rw [decide_eq_true_iff]; omega
  go_enter Tryz.func20, Tryz.ntmps20
  go_wp2_with (first | (go_at_call 41; refine (many_is _ _ hm _).mono ?_; rintro e w' ⟨rfl, rfl⟩))
  go_quiet ((go_at_call 41; exact quiet_left (many_is _ _ hm _)))
  go_wp2
  go_ret
  exact ⟨rfl, below_drewN ((Below.refl _ _).alloc (Nat.le_refl _) _) _⟩
set_option maxHeartbeats 1000000 in
theorem valid_F_b6 (k0 k1 k2 k3 k4 : Int) (h0 : 0 ≤ k0) (h14 : k0 ≤ 14) (h1 : ¬ k0 = 1) (h2 : ¬ k0 = 2) (h3 : ¬ k0 = 3) (h5 : ¬ k0 = 5) (h6 : ¬ k0 = 6) (hm : Hid (manyOf k0 = 1)) (g0 : 0 ≤ k1) (g1 : k1 < 1) (g2 : 0 ≤ k2) (g3 : k2 ≤ 0) (g4 : 0 ≤ k3) (g5 : k3 ≤ 0) (g : ¬ k4 ≤ 0) (w : World) :
    Calls Tryz.prog 20 #[Value.agg #[.int .i64 k0, .int .i64 k1, .int .i64 k2, .int .i64 k3, .int .u32 k4]] w fun e w' => e = .returned (.int .i64 103) ∧ Below w.heap.size w w' := by
  have e1 : (k0 == 1) = false := by simpa using h1
  have e2 : (k0 == 2) = false := by simpa using h2
  have e3 : (k0 == 3) = false := by simpa using h3
  have e5 : (k0 == 5) = false := by simpa using h5
  have e6 : (k0 == 6) = false := by simpa using h6
  have e0 : decide (k0 < 0) = false := by rw [decide_eq_false_iff_not]; omega
  have e14 : decide (14 < k0) = false := by rw [decide_eq_false_iff_not]; omega
  have d0 : decide (k1 < 0) = false := by rw [decide_eq_false_iff_not]; omega
  have d1 : decide (1 ≤ k1) = false := by rw [decide_eq_false_iff_not]; omega
  have d2 : decide (k2 < 0) = false := by rw [decide_eq_false_iff_not]; omega
  have d3 : decide (0 < k2) = false := by rw [decide_eq_false_iff_not]; omega
  have d4 : decide (k3 < 0) = false := by rw [decide_eq_false_iff_not]; omega
  have d5 : decide (0 < k3) = false := by rw [decide_eq_false_iff_not]; omega
  have d6 : decide (0 < k4) = true := by rw [decide_eq_true_iff]; omega
  go_enter Tryz.func20, Tryz.ntmps20
  go_wp2_with (first | (go_at_call 41; refine (many_is _ _ hm _).mono ?_; rintro e w' ⟨rfl, rfl⟩))
  go_quiet ((go_at_call 41; exact quiet_left (many_is _ _ hm _)))
  go_wp2
  go_ret
  exact ⟨rfl, below_drewN ((Below.refl _ _).alloc (Nat.le_refl _) _) _⟩
end Go.Proofs.YtllcakiomihipaaGreatDoor
namespace Go.Proofs.YtllcakiomihipaaGreatDoor
open Go.ChangeShapes Go.WideShapes Go.ChangeAt Go.RowKit
set_option linter.unusedVariables false
def mostOf (k : Int) : Int := if 1 < manyOf k then 1048575 else 0
def rightsOf (k : Int) : Int := if k = 2 ∨ k = 3 then 7 else 0
def dataOf (k : Int) : Int := if k = 1 then 4294967295 else if k = 2 then 4 else if k = 5 ∨ k = 6 then 536870911 else 0
def InB (k0 k1 k2 k3 k4 : Int) : Prop := 0 ≤ k1 ∧ k1 < manyOf k0 ∧ 0 ≤ k2 ∧ k2 ≤ mostOf k0 ∧ 0 ≤ k3 ∧ k3 ≤ rightsOf k0 ∧ k4 ≤ dataOf k0
instance (k0 k1 k2 k3 k4 : Int) : Decidable (InB k0 k1 k2 k3 k4) := by unfold InB; infer_instance
/-- The error's number of a key that may not be; 0: it may. -/
def codeOf (k0 k1 k2 k3 k4 : Int) : Int := if k0 < 0 ∨ 14 < k0 then 102 else if InB k0 k1 k2 k3 k4 then 0 else 103
theorem codeOf_102 (k0 k1 k2 k3 k4 : Int) (h : k0 < 0 ∨ 14 < k0) : codeOf k0 k1 k2 k3 k4 = 102 := by unfold codeOf; rw [if_pos h]
theorem codeOf_0 (k0 k1 k2 k3 k4 : Int) (h : ¬ (k0 < 0 ∨ 14 < k0)) (hi : InB k0 k1 k2 k3 k4) : codeOf k0 k1 k2 k3 k4 = 0 := by unfold codeOf; rw [if_neg h, if_pos hi]
theorem codeOf_103 (k0 k1 k2 k3 k4 : Int) (h : ¬ (k0 < 0 ∨ 14 < k0)) (hi : ¬ InB k0 k1 k2 k3 k4) : codeOf k0 k1 k2 k3 k4 = 103 := by unfold codeOf; rw [if_neg h, if_neg hi]
theorem valid_1 (k1 k2 k3 k4 : Int) (gu : k4 ≤ 4294967295) (w : World) : Calls Tryz.prog 20 #[Value.agg #[.int .i64 1, .int .i64 k1, .int .i64 k2, .int .i64 k3, .int .u32 k4]] w fun e w' => e = .returned (.int .i64 (codeOf 1 k1 k2 k3 k4)) ∧ Below w.heap.size w w' := by
  have hm : manyOf 1 = 1 := rfl
  have nk : ¬ ((1 : Int) < 0 ∨ 14 < (1 : Int)) := by omega
  have hmo : mostOf 1 = 0 := rfl
  have hrg : rightsOf 1 = 0 := rfl
  have hda : dataOf 1 = 4294967295 := rfl
  by_cases g0 : 0 ≤ k1
  rotate_left
  · rw [codeOf_103 _ _ _ _ _ nk (by unfold InB; rw [hm, hmo, hrg, hda]; omega)]; exact valid_1_b0 k1 k2 k3 k4 (Lib.hid hm)  g0 w
  by_cases g1 : k1 < 1
  rotate_left
  · rw [codeOf_103 _ _ _ _ _ nk (by unfold InB; rw [hm, hmo, hrg, hda]; omega)]; exact valid_1_b1 k1 k2 k3 k4 (Lib.hid hm) g0 g1 w
  by_cases g2 : 0 ≤ k2
  rotate_left
  · rw [codeOf_103 _ _ _ _ _ nk (by unfold InB; rw [hm, hmo, hrg, hda]; omega)]; exact valid_1_b2 k1 k2 k3 k4 (Lib.hid hm) g0 g1 g2 w
  by_cases g3 : k2 ≤ 0
  rotate_left
  · rw [codeOf_103 _ _ _ _ _ nk (by unfold InB; rw [hm, hmo, hrg, hda]; omega)]; exact valid_1_b3 k1 k2 k3 k4 (Lib.hid hm) g0 g1 g2 g3 w
  by_cases g4 : 0 ≤ k3
  rotate_left
  · rw [codeOf_103 _ _ _ _ _ nk (by unfold InB; rw [hm, hmo, hrg, hda]; omega)]; exact valid_1_b4 k1 k2 k3 k4 (Lib.hid hm) g0 g1 g2 g3 g4 w
  by_cases g5 : k3 ≤ 0
  rotate_left
  · rw [codeOf_103 _ _ _ _ _ nk (by unfold InB; rw [hm, hmo, hrg, hda]; omega)]; exact valid_1_b5 k1 k2 k3 k4 (Lib.hid hm) g0 g1 g2 g3 g4 g5 w
  by_cases g6 : k4 ≤ 4294967295
  rotate_left
  · rw [codeOf_103 _ _ _ _ _ nk (by unfold InB; rw [hm, hmo, hrg, hda]; omega)]; exact valid_1_b6 k1 k2 k3 k4 (Lib.hid hm) g0 g1 g2 g3 g4 g5 g6 gu w
  rw [codeOf_0 _ _ _ _ _ nk (by unfold InB; rw [hm, hmo, hrg, hda]; omega)]; exact valid_1_ok k1 k2 k3 k4 (Lib.hid hm) g0 g1 g2 g3 g4 g5 g6 w
theorem valid_2 (k1 k2 k3 k4 : Int) (gu : k4 ≤ 4294967295) (w : World) : Calls Tryz.prog 20 #[Value.agg #[.int .i64 2, .int .i64 k1, .int .i64 k2, .int .i64 k3, .int .u32 k4]] w fun e w' => e = .returned (.int .i64 (codeOf 2 k1 k2 k3 k4)) ∧ Below w.heap.size w w' := by
  have hm : manyOf 2 = 256 := rfl
  have nk : ¬ ((2 : Int) < 0 ∨ 14 < (2 : Int)) := by omega
  have hmo : mostOf 2 = 1048575 := rfl
  have hrg : rightsOf 2 = 7 := rfl
  have hda : dataOf 2 = 4 := rfl
  by_cases g0 : 0 ≤ k1
  rotate_left
  · rw [codeOf_103 _ _ _ _ _ nk (by unfold InB; rw [hm, hmo, hrg, hda]; omega)]; exact valid_2_b0 k1 k2 k3 k4 (Lib.hid hm)  g0 w
  by_cases g1 : k1 < 256
  rotate_left
  · rw [codeOf_103 _ _ _ _ _ nk (by unfold InB; rw [hm, hmo, hrg, hda]; omega)]; exact valid_2_b1 k1 k2 k3 k4 (Lib.hid hm) g0 g1 w
  by_cases g2 : 0 ≤ k2
  rotate_left
  · rw [codeOf_103 _ _ _ _ _ nk (by unfold InB; rw [hm, hmo, hrg, hda]; omega)]; exact valid_2_b2 k1 k2 k3 k4 (Lib.hid hm) g0 g1 g2 w
  by_cases g3 : k2 ≤ 1048575
  rotate_left
  · rw [codeOf_103 _ _ _ _ _ nk (by unfold InB; rw [hm, hmo, hrg, hda]; omega)]; exact valid_2_b3 k1 k2 k3 k4 (Lib.hid hm) g0 g1 g2 g3 w
  by_cases g4 : 0 ≤ k3
  rotate_left
  · rw [codeOf_103 _ _ _ _ _ nk (by unfold InB; rw [hm, hmo, hrg, hda]; omega)]; exact valid_2_b4 k1 k2 k3 k4 (Lib.hid hm) g0 g1 g2 g3 g4 w
  by_cases g5 : k3 ≤ 7
  rotate_left
  · rw [codeOf_103 _ _ _ _ _ nk (by unfold InB; rw [hm, hmo, hrg, hda]; omega)]; exact valid_2_b5 k1 k2 k3 k4 (Lib.hid hm) g0 g1 g2 g3 g4 g5 w
  by_cases g6 : k4 ≤ 4
  rotate_left
  · rw [codeOf_103 _ _ _ _ _ nk (by unfold InB; rw [hm, hmo, hrg, hda]; omega)]; exact valid_2_b6 k1 k2 k3 k4 (Lib.hid hm) g0 g1 g2 g3 g4 g5 g6 w
  rw [codeOf_0 _ _ _ _ _ nk (by unfold InB; rw [hm, hmo, hrg, hda]; omega)]; exact valid_2_ok k1 k2 k3 k4 (Lib.hid hm) g0 g1 g2 g3 g4 g5 g6 w
theorem valid_3 (k1 k2 k3 k4 : Int) (gu : k4 ≤ 4294967295) (w : World) : Calls Tryz.prog 20 #[Value.agg #[.int .i64 3, .int .i64 k1, .int .i64 k2, .int .i64 k3, .int .u32 k4]] w fun e w' => e = .returned (.int .i64 (codeOf 3 k1 k2 k3 k4)) ∧ Below w.heap.size w w' := by
  have hm : manyOf 3 = 256 := rfl
  have nk : ¬ ((3 : Int) < 0 ∨ 14 < (3 : Int)) := by omega
  have hmo : mostOf 3 = 1048575 := rfl
  have hrg : rightsOf 3 = 7 := rfl
  have hda : dataOf 3 = 0 := rfl
  by_cases g0 : 0 ≤ k1
  rotate_left
  · rw [codeOf_103 _ _ _ _ _ nk (by unfold InB; rw [hm, hmo, hrg, hda]; omega)]; exact valid_3_b0 k1 k2 k3 k4 (Lib.hid hm)  g0 w
  by_cases g1 : k1 < 256
  rotate_left
  · rw [codeOf_103 _ _ _ _ _ nk (by unfold InB; rw [hm, hmo, hrg, hda]; omega)]; exact valid_3_b1 k1 k2 k3 k4 (Lib.hid hm) g0 g1 w
  by_cases g2 : 0 ≤ k2
  rotate_left
  · rw [codeOf_103 _ _ _ _ _ nk (by unfold InB; rw [hm, hmo, hrg, hda]; omega)]; exact valid_3_b2 k1 k2 k3 k4 (Lib.hid hm) g0 g1 g2 w
  by_cases g3 : k2 ≤ 1048575
  rotate_left
  · rw [codeOf_103 _ _ _ _ _ nk (by unfold InB; rw [hm, hmo, hrg, hda]; omega)]; exact valid_3_b3 k1 k2 k3 k4 (Lib.hid hm) g0 g1 g2 g3 w
  by_cases g4 : 0 ≤ k3
  rotate_left
  · rw [codeOf_103 _ _ _ _ _ nk (by unfold InB; rw [hm, hmo, hrg, hda]; omega)]; exact valid_3_b4 k1 k2 k3 k4 (Lib.hid hm) g0 g1 g2 g3 g4 w
  by_cases g5 : k3 ≤ 7
  rotate_left
  · rw [codeOf_103 _ _ _ _ _ nk (by unfold InB; rw [hm, hmo, hrg, hda]; omega)]; exact valid_3_b5 k1 k2 k3 k4 (Lib.hid hm) g0 g1 g2 g3 g4 g5 w
  by_cases g6 : k4 ≤ 0
  rotate_left
  · rw [codeOf_103 _ _ _ _ _ nk (by unfold InB; rw [hm, hmo, hrg, hda]; omega)]; exact valid_3_b6 k1 k2 k3 k4 (Lib.hid hm) g0 g1 g2 g3 g4 g5 g6 w
  rw [codeOf_0 _ _ _ _ _ nk (by unfold InB; rw [hm, hmo, hrg, hda]; omega)]; exact valid_3_ok k1 k2 k3 k4 (Lib.hid hm) g0 g1 g2 g3 g4 g5 g6 w
theorem valid_5 (k1 k2 k3 k4 : Int) (gu : k4 ≤ 4294967295) (w : World) : Calls Tryz.prog 20 #[Value.agg #[.int .i64 5, .int .i64 k1, .int .i64 k2, .int .i64 k3, .int .u32 k4]] w fun e w' => e = .returned (.int .i64 (codeOf 5 k1 k2 k3 k4)) ∧ Below w.heap.size w w' := by
  have hm : manyOf 5 = 32 := rfl
  have nk : ¬ ((5 : Int) < 0 ∨ 14 < (5 : Int)) := by omega
  have hmo : mostOf 5 = 1048575 := rfl
  have hrg : rightsOf 5 = 0 := rfl
  have hda : dataOf 5 = 536870911 := rfl
  by_cases g0 : 0 ≤ k1
  rotate_left
  · rw [codeOf_103 _ _ _ _ _ nk (by unfold InB; rw [hm, hmo, hrg, hda]; omega)]; exact valid_5_b0 k1 k2 k3 k4 (Lib.hid hm)  g0 w
  by_cases g1 : k1 < 32
  rotate_left
  · rw [codeOf_103 _ _ _ _ _ nk (by unfold InB; rw [hm, hmo, hrg, hda]; omega)]; exact valid_5_b1 k1 k2 k3 k4 (Lib.hid hm) g0 g1 w
  by_cases g2 : 0 ≤ k2
  rotate_left
  · rw [codeOf_103 _ _ _ _ _ nk (by unfold InB; rw [hm, hmo, hrg, hda]; omega)]; exact valid_5_b2 k1 k2 k3 k4 (Lib.hid hm) g0 g1 g2 w
  by_cases g3 : k2 ≤ 1048575
  rotate_left
  · rw [codeOf_103 _ _ _ _ _ nk (by unfold InB; rw [hm, hmo, hrg, hda]; omega)]; exact valid_5_b3 k1 k2 k3 k4 (Lib.hid hm) g0 g1 g2 g3 w
  by_cases g4 : 0 ≤ k3
  rotate_left
  · rw [codeOf_103 _ _ _ _ _ nk (by unfold InB; rw [hm, hmo, hrg, hda]; omega)]; exact valid_5_b4 k1 k2 k3 k4 (Lib.hid hm) g0 g1 g2 g3 g4 w
  by_cases g5 : k3 ≤ 0
  rotate_left
  · rw [codeOf_103 _ _ _ _ _ nk (by unfold InB; rw [hm, hmo, hrg, hda]; omega)]; exact valid_5_b5 k1 k2 k3 k4 (Lib.hid hm) g0 g1 g2 g3 g4 g5 w
  by_cases g6 : k4 ≤ 536870911
  rotate_left
  · rw [codeOf_103 _ _ _ _ _ nk (by unfold InB; rw [hm, hmo, hrg, hda]; omega)]; exact valid_5_b6 k1 k2 k3 k4 (Lib.hid hm) g0 g1 g2 g3 g4 g5 g6 w
  rw [codeOf_0 _ _ _ _ _ nk (by unfold InB; rw [hm, hmo, hrg, hda]; omega)]; exact valid_5_ok k1 k2 k3 k4 (Lib.hid hm) g0 g1 g2 g3 g4 g5 g6 w
theorem valid_6 (k1 k2 k3 k4 : Int) (gu : k4 ≤ 4294967295) (w : World) : Calls Tryz.prog 20 #[Value.agg #[.int .i64 6, .int .i64 k1, .int .i64 k2, .int .i64 k3, .int .u32 k4]] w fun e w' => e = .returned (.int .i64 (codeOf 6 k1 k2 k3 k4)) ∧ Below w.heap.size w w' := by
  have hm : manyOf 6 = 32 := rfl
  have nk : ¬ ((6 : Int) < 0 ∨ 14 < (6 : Int)) := by omega
  have hmo : mostOf 6 = 1048575 := rfl
  have hrg : rightsOf 6 = 0 := rfl
  have hda : dataOf 6 = 536870911 := rfl
  by_cases g0 : 0 ≤ k1
  rotate_left
  · rw [codeOf_103 _ _ _ _ _ nk (by unfold InB; rw [hm, hmo, hrg, hda]; omega)]; exact valid_6_b0 k1 k2 k3 k4 (Lib.hid hm)  g0 w
  by_cases g1 : k1 < 32
  rotate_left
  · rw [codeOf_103 _ _ _ _ _ nk (by unfold InB; rw [hm, hmo, hrg, hda]; omega)]; exact valid_6_b1 k1 k2 k3 k4 (Lib.hid hm) g0 g1 w
  by_cases g2 : 0 ≤ k2
  rotate_left
  · rw [codeOf_103 _ _ _ _ _ nk (by unfold InB; rw [hm, hmo, hrg, hda]; omega)]; exact valid_6_b2 k1 k2 k3 k4 (Lib.hid hm) g0 g1 g2 w
  by_cases g3 : k2 ≤ 1048575
  rotate_left
  · rw [codeOf_103 _ _ _ _ _ nk (by unfold InB; rw [hm, hmo, hrg, hda]; omega)]; exact valid_6_b3 k1 k2 k3 k4 (Lib.hid hm) g0 g1 g2 g3 w
  by_cases g4 : 0 ≤ k3
  rotate_left
  · rw [codeOf_103 _ _ _ _ _ nk (by unfold InB; rw [hm, hmo, hrg, hda]; omega)]; exact valid_6_b4 k1 k2 k3 k4 (Lib.hid hm) g0 g1 g2 g3 g4 w
  by_cases g5 : k3 ≤ 0
  rotate_left
  · rw [codeOf_103 _ _ _ _ _ nk (by unfold InB; rw [hm, hmo, hrg, hda]; omega)]; exact valid_6_b5 k1 k2 k3 k4 (Lib.hid hm) g0 g1 g2 g3 g4 g5 w
  by_cases g6 : k4 ≤ 536870911
  rotate_left
  · rw [codeOf_103 _ _ _ _ _ nk (by unfold InB; rw [hm, hmo, hrg, hda]; omega)]; exact valid_6_b6 k1 k2 k3 k4 (Lib.hid hm) g0 g1 g2 g3 g4 g5 g6 w
  rw [codeOf_0 _ _ _ _ _ nk (by unfold InB; rw [hm, hmo, hrg, hda]; omega)]; exact valid_6_ok k1 k2 k3 k4 (Lib.hid hm) g0 g1 g2 g3 g4 g5 g6 w
theorem valid_D (k0 k1 k2 k3 k4 : Int) (h0 : 0 ≤ k0) (h14 : k0 ≤ 14) (h1 : ¬ k0 = 1) (h2 : ¬ k0 = 2) (h3 : ¬ k0 = 3) (h5 : ¬ k0 = 5) (h6 : ¬ k0 = 6) (hm1 : 1 < manyOf k0) (gu : k4 ≤ 4294967295) (w : World) : Calls Tryz.prog 20 #[Value.agg #[.int .i64 k0, .int .i64 k1, .int .i64 k2, .int .i64 k3, .int .u32 k4]] w fun e w' => e = .returned (.int .i64 (codeOf k0 k1 k2 k3 k4)) ∧ Below w.heap.size w w' := by
  have hm : manyOf k0 = (manyOf k0) := rfl
  have nk : ¬ ((k0 : Int) < 0 ∨ 14 < (k0 : Int)) := by omega
  have hmo : mostOf k0 = 1048575 := by unfold mostOf; rw [if_pos hm1]
  have hrg : rightsOf k0 = 0 := by unfold rightsOf; rw [if_neg (by omega)]
  have hda : dataOf k0 = 0 := by unfold dataOf; rw [if_neg h1, if_neg h2, if_neg (by omega)]
  by_cases g0 : 0 ≤ k1
  rotate_left
  · rw [codeOf_103 _ _ _ _ _ nk (by unfold InB; rw [hm, hmo, hrg, hda]; omega)]; exact valid_D_b0 k0 k1 k2 k3 k4 (manyOf k0) h0 h14 h1 h2 h3 h5 h6 (Lib.hid hm) hm1  g0 w
  by_cases g1 : k1 < (manyOf k0)
  rotate_left
  · rw [codeOf_103 _ _ _ _ _ nk (by unfold InB; rw [hm, hmo, hrg, hda]; omega)]; exact valid_D_b1 k0 k1 k2 k3 k4 (manyOf k0) h0 h14 h1 h2 h3 h5 h6 (Lib.hid hm) hm1 g0 g1 w
  by_cases g2 : 0 ≤ k2
  rotate_left
  · rw [codeOf_103 _ _ _ _ _ nk (by unfold InB; rw [hm, hmo, hrg, hda]; omega)]; exact valid_D_b2 k0 k1 k2 k3 k4 (manyOf k0) h0 h14 h1 h2 h3 h5 h6 (Lib.hid hm) hm1 g0 g1 g2 w
  by_cases g3 : k2 ≤ 1048575
  rotate_left
  · rw [codeOf_103 _ _ _ _ _ nk (by unfold InB; rw [hm, hmo, hrg, hda]; omega)]; exact valid_D_b3 k0 k1 k2 k3 k4 (manyOf k0) h0 h14 h1 h2 h3 h5 h6 (Lib.hid hm) hm1 g0 g1 g2 g3 w
  by_cases g4 : 0 ≤ k3
  rotate_left
  · rw [codeOf_103 _ _ _ _ _ nk (by unfold InB; rw [hm, hmo, hrg, hda]; omega)]; exact valid_D_b4 k0 k1 k2 k3 k4 (manyOf k0) h0 h14 h1 h2 h3 h5 h6 (Lib.hid hm) hm1 g0 g1 g2 g3 g4 w
  by_cases g5 : k3 ≤ 0
  rotate_left
  · rw [codeOf_103 _ _ _ _ _ nk (by unfold InB; rw [hm, hmo, hrg, hda]; omega)]; exact valid_D_b5 k0 k1 k2 k3 k4 (manyOf k0) h0 h14 h1 h2 h3 h5 h6 (Lib.hid hm) hm1 g0 g1 g2 g3 g4 g5 w
  by_cases g6 : k4 ≤ 0
  rotate_left
  · rw [codeOf_103 _ _ _ _ _ nk (by unfold InB; rw [hm, hmo, hrg, hda]; omega)]; exact valid_D_b6 k0 k1 k2 k3 k4 (manyOf k0) h0 h14 h1 h2 h3 h5 h6 (Lib.hid hm) hm1 g0 g1 g2 g3 g4 g5 g6 w
  rw [codeOf_0 _ _ _ _ _ nk (by unfold InB; rw [hm, hmo, hrg, hda]; omega)]; exact valid_D_ok k0 k1 k2 k3 k4 (manyOf k0) h0 h14 h1 h2 h3 h5 h6 (Lib.hid hm) hm1 g0 g1 g2 g3 g4 g5 g6 w
theorem valid_F (k0 k1 k2 k3 k4 : Int) (h0 : 0 ≤ k0) (h14 : k0 ≤ 14) (h1 : ¬ k0 = 1) (h2 : ¬ k0 = 2) (h3 : ¬ k0 = 3) (h5 : ¬ k0 = 5) (h6 : ¬ k0 = 6) (hm0 : manyOf k0 = 1) (gu : k4 ≤ 4294967295) (w : World) : Calls Tryz.prog 20 #[Value.agg #[.int .i64 k0, .int .i64 k1, .int .i64 k2, .int .i64 k3, .int .u32 k4]] w fun e w' => e = .returned (.int .i64 (codeOf k0 k1 k2 k3 k4)) ∧ Below w.heap.size w w' := by
  have hm : manyOf k0 = 1 := hm0
  have nk : ¬ ((k0 : Int) < 0 ∨ 14 < (k0 : Int)) := by omega
  have hmo : mostOf k0 = 0 := by unfold mostOf; rw [hm0]; rfl
  have hrg : rightsOf k0 = 0 := by unfold rightsOf; rw [if_neg (by omega)]
  have hda : dataOf k0 = 0 := by unfold dataOf; rw [if_neg h1, if_neg h2, if_neg (by omega)]
  by_cases g0 : 0 ≤ k1
  rotate_left
  · rw [codeOf_103 _ _ _ _ _ nk (by unfold InB; rw [hm, hmo, hrg, hda]; omega)]; exact valid_F_b0 k0 k1 k2 k3 k4 h0 h14 h1 h2 h3 h5 h6 (Lib.hid hm)  g0 w
  by_cases g1 : k1 < 1
  rotate_left
  · rw [codeOf_103 _ _ _ _ _ nk (by unfold InB; rw [hm, hmo, hrg, hda]; omega)]; exact valid_F_b1 k0 k1 k2 k3 k4 h0 h14 h1 h2 h3 h5 h6 (Lib.hid hm) g0 g1 w
  by_cases g2 : 0 ≤ k2
  rotate_left
  · rw [codeOf_103 _ _ _ _ _ nk (by unfold InB; rw [hm, hmo, hrg, hda]; omega)]; exact valid_F_b2 k0 k1 k2 k3 k4 h0 h14 h1 h2 h3 h5 h6 (Lib.hid hm) g0 g1 g2 w
  by_cases g3 : k2 ≤ 0
  rotate_left
  · rw [codeOf_103 _ _ _ _ _ nk (by unfold InB; rw [hm, hmo, hrg, hda]; omega)]; exact valid_F_b3 k0 k1 k2 k3 k4 h0 h14 h1 h2 h3 h5 h6 (Lib.hid hm) g0 g1 g2 g3 w
  by_cases g4 : 0 ≤ k3
  rotate_left
  · rw [codeOf_103 _ _ _ _ _ nk (by unfold InB; rw [hm, hmo, hrg, hda]; omega)]; exact valid_F_b4 k0 k1 k2 k3 k4 h0 h14 h1 h2 h3 h5 h6 (Lib.hid hm) g0 g1 g2 g3 g4 w
  by_cases g5 : k3 ≤ 0
  rotate_left
  · rw [codeOf_103 _ _ _ _ _ nk (by unfold InB; rw [hm, hmo, hrg, hda]; omega)]; exact valid_F_b5 k0 k1 k2 k3 k4 h0 h14 h1 h2 h3 h5 h6 (Lib.hid hm) g0 g1 g2 g3 g4 g5 w
  by_cases g6 : k4 ≤ 0
  rotate_left
  · rw [codeOf_103 _ _ _ _ _ nk (by unfold InB; rw [hm, hmo, hrg, hda]; omega)]; exact valid_F_b6 k0 k1 k2 k3 k4 h0 h14 h1 h2 h3 h5 h6 (Lib.hid hm) g0 g1 g2 g3 g4 g5 g6 w
  rw [codeOf_0 _ _ _ _ _ nk (by unfold InB; rw [hm, hmo, hrg, hda]; omega)]; exact valid_F_ok k0 k1 k2 k3 k4 h0 h14 h1 h2 h3 h5 h6 (Lib.hid hm) g0 g1 g2 g3 g4 g5 g6 w
theorem valid_any (k0 k1 k2 k3 k4 : Int) (gu : k4 ≤ 4294967295) (w : World) : Calls Tryz.prog 20 #[(Value.agg #[.int .i64 k0, .int .i64 k1, .int .i64 k2, .int .i64 k3, .int .u32 k4])] w fun e w' => e = .returned (.int .i64 (codeOf k0 k1 k2 k3 k4)) ∧ Below w.heap.size w w' := by
  by_cases hk : k0 < 0
  · rw [codeOf_102 _ _ _ _ _ (.inl hk)]; exact valid_kind0 k0 k1 k2 k3 k4 hk w
  by_cases hk' : 14 < k0
  · rw [codeOf_102 _ _ _ _ _ (.inr hk')]; exact valid_kind1 k0 k1 k2 k3 k4 hk' w
  by_cases h1 : k0 = 1
  · subst h1; exact valid_1 k1 k2 k3 k4 gu w
  by_cases h2 : k0 = 2
  · subst h2; exact valid_2 k1 k2 k3 k4 gu w
  by_cases h3 : k0 = 3
  · subst h3; exact valid_3 k1 k2 k3 k4 gu w
  by_cases h5 : k0 = 5
  · subst h5; exact valid_5 k1 k2 k3 k4 gu w
  by_cases h6 : k0 = 6
  · subst h6; exact valid_6 k1 k2 k3 k4 gu w
  by_cases hD : k0 = 4 ∨ k0 = 7 ∨ k0 = 8 ∨ k0 = 9 ∨ k0 = 10
  · exact valid_D k0 k1 k2 k3 k4 (by omega) (by omega) h1 h2 h3 h5 h6 (by rcases hD with rfl | rfl | rfl | rfl | rfl <;> decide) gu w
  · exact valid_F k0 k1 k2 k3 k4 (by omega) (by omega) h1 h2 h3 h5 h6 (by unfold manyOf; rw [if_neg (by omega), if_neg (by omega), if_neg (by omega)]) gu w
end Go.Proofs.YtllcakiomihipaaGreatDoor
namespace Go.Proofs.YtllcakiomihipaaGreatDoor
open Go.ChangeShapes Go.WideShapes Go.ChangeAt Go.RowKit
set_option linter.unusedVariables false
end Go.Proofs.YtllcakiomihipaaGreatDoor
namespace Go.Proofs.YtllcakiomihipaaGreatDoor
open Go.ChangeShapes Go.WideShapes Go.ChangeAt Go.RowKit
set_option linter.unusedVariables false
def andI (a b : Int) : Int := bits BinOp.and IntKind.i64 a b
def orI (a b : Int) : Int := bits BinOp.or IntKind.i64 a b
def In8 (x : Int) : Prop := 0 ≤ x ∧ x ≤ 7
theorem In8.of (n : Fin 8) : In8 (n.val : Int) := ⟨by omega, by have := n.isLt; omega⟩
end Go.Proofs.YtllcakiomihipaaGreatDoor
namespace Go.Proofs.YtllcakiomihipaaGreatDoor
open Go.ChangeShapes Go.WideShapes Go.ChangeAt Go.RowKit
set_option linter.unusedVariables false
/-- Does a give no more than b? -/
def withinB (a0 a1 a2 a3 a4 b0 b1 b2 b3 b4 : Int) : Bool := (bits BinOp.and IntKind.i64 a3 b3 == b3) && sameB a0 a1 a2 0 a4 b0 b1 b2 0 b4
theorem RowI.below {W w' : World} {a : Option Addr} {len : Nat} {xs : List Int} (h : RowI W a len xs) (hb : Below W.heap.size W w') : RowI w' a len xs := by
  obtain ⟨h1, h2⟩ := h
  refine ⟨h1, ?_⟩
  rcases h2 with h2 | ⟨b, off, rfl, hl, hc⟩
  · exact .inl h2
  · exact .inr ⟨b, off, rfl, Nat.lt_of_lt_of_le hl hb.size, fun i hi => (hb.cell (p := ⟨b, off + i, none⟩) hl).trans (hc i hi)⟩
end Go.Proofs.YtllcakiomihipaaGreatDoor
namespace Go.Proofs.YtllcakiomihipaaGreatDoor
open Go.ChangeShapes Go.WideShapes Go.ChangeAt Go.RowKit
set_option linter.unusedVariables false
set_option linter.unusedSimpArgs false
section
variable {s m d t b f q : Nat} {st : Int}
set_option maxRecDepth 100000 in
set_option maxHeartbeats 4000000 in
theorem slive_maker_no (k1 k2 k3 k4 : Int) (dp dR n c base : Nat) (th : Nat → Bool) (vr : Nat → Int) (hr : Hid ((thereB n th k1 && (vr k1.toNat == k2)) = false)) (w : World) (hB : SyB w s m d t b f q st) (hP : w.cell? ⟨f, 0, none⟩ = some (.pointer (some ⟨dp, 0, none⟩))) (hA : ArAt w base dp dR n c th vr) :
    Calls Tryz.prog 23 #[.pointer (some ⟨s, 0, none⟩), .agg #[.int .i64 9, .int .i64 k1, .int .i64 k2, .int .i64 k3, .int .u32 k4]] w fun e w' => e = .returned (.bool false) ∧ Below w.heap.size w w' := by
  have HA := Lib.hid (fun W (hW : Below w.heap.size w W) => alive_is k1 k2 false hr W (hA.below hW))
  have HB := Lib.hid hB
  have HP := Lib.hid hP
  have hdl : f < w.heap.size := cell_lt hP
  clear hA hB hP
  go_enter Tryz.func23, Tryz.ntmps23
  go_upto_region 1 with fail
  generalize hA : World.alloc w _ = wA
  obtain ⟨K, hK⟩ : ∃ K, K = w.heap.size := ⟨_, rfl⟩
  have HBa : Hid (Below w.heap.size w wA) := Lib.hid (by rw [← hA]; exact (Below.refl _ _).alloc (Nat.le_refl _) _)
  have kc0 : wA.cell? ⟨K, 0, none⟩ = some (.int .i64 9) := by rw [← hA, hK]; simp
  have kc1 : wA.cell? ⟨K, 1, none⟩ = some (.int .i64 k1) := by rw [← hA, hK]; simp
  have kc2 : wA.cell? ⟨K, 2, none⟩ = some (.int .i64 k2) := by rw [← hA, hK]; simp
  have sc := ((HB.out.below HBa.out).c4)
  have pc := (HBa.out.cell (p := ⟨f, 0, none⟩) hdl).trans HP.out
  rw [← hK]
  clear hA hK hdl
  go_wp2_with fail
  have HA9 := Lib.hid (fun n => HA.out (wA.drewN n) (below_drewN HBa.out n))
  go_quiet ((go_at_call 44; exact kquiet_left (HA9.out _)))
  go_wp2_with fail
  go_ret
  exact ⟨rfl, below_drewN HBa.out _⟩
set_option maxRecDepth 100000 in
set_option maxHeartbeats 4000000 in
theorem slive_builder_no (k1 k2 k3 k4 : Int) (dp dR n c base : Nat) (th : Nat → Bool) (vr : Nat → Int) (hr : Hid ((thereB n th k1 && (vr k1.toNat == k2)) = false)) (w : World) (hB : SyB w s m d t b f q st) (hP : w.cell? ⟨f, 0, none⟩ = some (.pointer (some ⟨dp, 0, none⟩))) (hA : ArAt w base dp dR n c th vr) :
    Calls Tryz.prog 23 #[.pointer (some ⟨s, 0, none⟩), .agg #[.int .i64 10, .int .i64 k1, .int .i64 k2, .int .i64 k3, .int .u32 k4]] w fun e w' => e = .returned (.bool false) ∧ Below w.heap.size w w' := by
  have HA := Lib.hid (fun W (hW : Below w.heap.size w W) => alive_is k1 k2 false hr W (hA.below hW))
  have HB := Lib.hid hB
  have HP := Lib.hid hP
  have hdl : f < w.heap.size := cell_lt hP
  clear hA hB hP
  go_enter Tryz.func23, Tryz.ntmps23
  go_upto_region 1 with fail
  generalize hA : World.alloc w _ = wA
  obtain ⟨K, hK⟩ : ∃ K, K = w.heap.size := ⟨_, rfl⟩
  have HBa : Hid (Below w.heap.size w wA) := Lib.hid (by rw [← hA]; exact (Below.refl _ _).alloc (Nat.le_refl _) _)
  have kc0 : wA.cell? ⟨K, 0, none⟩ = some (.int .i64 10) := by rw [← hA, hK]; simp
  have kc1 : wA.cell? ⟨K, 1, none⟩ = some (.int .i64 k1) := by rw [← hA, hK]; simp
  have kc2 : wA.cell? ⟨K, 2, none⟩ = some (.int .i64 k2) := by rw [← hA, hK]; simp
  have sc := ((HB.out.below HBa.out).c4)
  have pc := (HBa.out.cell (p := ⟨f, 0, none⟩) hdl).trans HP.out
  rw [← hK]
  clear hA hK hdl
  go_wp2_with fail
  have HA9 := Lib.hid (fun n => HA.out (wA.drewN n) (below_drewN HBa.out n))
  go_quiet ((go_at_call 44; exact kquiet_left (HA9.out _)))
  go_wp2_with fail
  go_ret
  exact ⟨rfl, below_drewN HBa.out _⟩
end
theorem slive_plain (s : Nat) (k0 k1 k2 k3 k4 : Int) (hk : k0 = 0 ∨ k0 = 1 ∨ k0 = 11 ∨ k0 = 12 ∨ k0 = 13 ∨ k0 = 14) (w : World) : Calls Tryz.prog 23 #[.pointer (some ⟨s, 0, none⟩), (Value.agg #[.int .i64 k0, .int .i64 k1, .int .i64 k2, .int .i64 k3, .int .u32 k4])] w fun e w' => e = .returned (.bool true) ∧ Below w.heap.size w w' := by
  rcases hk with rfl | rfl | rfl | rfl | rfl | rfl
  all_goals
    go_enter Tryz.func23, Tryz.ntmps23
    go_wp2_with fail
    go_ret
    exact ⟨rfl, (Below.refl _ _).alloc (Nat.le_refl _) _⟩
set_option maxRecDepth 100000 in
set_option maxHeartbeats 4000000 in
theorem slive_mem {S : Nat} {a b : Shp} {th : Nat → Bool} {vr_ : Nat → Int} {W : Nat → Nat → Value} {th2 : Nat → Bool} {vr2 : Nat → Int} {W2 : Nat → Nat → Int} (s m : Nat) (k0 k1 k2 k3 k4 : Int) (hk : k0 = 2 ∨ k0 = 3) (r : Bool) (hr : Hid (liveB a b th vr_ th2 vr2 k0 k1 k2 = r)) (w : World) (h0 : w.cell? ⟨s, 0, none⟩ = some (.pointer (some ⟨m, 0, none⟩))) (h1 : w.cell? ⟨m, 0, none⟩ = some (.pointer (some ⟨S, 0, none⟩))) (h : (StAt w S a b th vr_ W th2 vr2 W2)) :
    Calls Tryz.prog 23 #[.pointer (some ⟨s, 0, none⟩), (Value.agg #[.int .i64 k0, .int .i64 k1, .int .i64 k2, .int .i64 k3, .int .u32 k4])] w fun e w' => e = .returned (.bool r) ∧ Below w.heap.size w w' := by
  have H := Lib.hid h
  have HL := Lib.hid (⟨cell_lt h0, cell_lt h1, h0, h1⟩ : s < w.heap.size ∧ m < w.heap.size ∧ w.cell? ⟨s, 0, none⟩ = some (.pointer (some ⟨m, 0, none⟩)) ∧ w.cell? ⟨m, 0, none⟩ = some (.pointer (some ⟨S, 0, none⟩)))
  clear h h0 h1
  rcases hk with rfl | rfl
  · go_enter Tryz.func23, Tryz.ntmps23; go_upto_region 1 with fail; generalize hA : World.alloc w _ = wA; obtain ⟨KB, hKB⟩ : ∃ KB, KB = w.heap.size := ⟨_, rfl⟩; have HA : Hid (Below w.heap.size w wA ∧ KeyC wA KB 2 k1 k2 k3 k4) := (Lib.hid (by rw [← hA, hKB]; exact ⟨(Below.refl _ _).alloc (Nat.le_refl _) _, KeyC.new w 2 k1 k2 k3 k4 _⟩)); rw [← hKB]; clear hA hKB; have q0 := HA.out.2.c0; go_upto_region 11 with fail; have HSK : Hid (∀ W, Below wA.heap.size wA W → (World.cell? W ⟨s, 0, none⟩ = some (.pointer (some ⟨m, 0, none⟩)) ∧ World.cell? W ⟨m, 0, none⟩ = some (.pointer (some ⟨S, 0, none⟩)) ∧ (World.cell? W ⟨KB, 0, none⟩ = some (.int .i64 2) ∧ World.cell? W ⟨KB, 1, none⟩ = some (.int .i64 k1) ∧ World.cell? W ⟨KB, 2, none⟩ = some (.int .i64 k2) ∧ World.cell? W ⟨KB, 3, none⟩ = some (.int .i64 k3) ∧ World.cell? W ⟨KB, 4, none⟩ = some (.int .u32 k4)))) := (Lib.hid (fun W hW => ⟨((HA.out.1.trans (hW.mono HA.out.1.size)).cell (p := ⟨s, 0, none⟩) HL.out.1).trans HL.out.2.2.1, ((HA.out.1.trans (hW.mono HA.out.1.size)).cell (p := ⟨m, 0, none⟩) HL.out.2.1).trans HL.out.2.2.2, ofive (HA.out.2.below hW)⟩)); obtain ⟨wD, hwD⟩ : ∃ wD, wD = wA.drew := ⟨_, rfl⟩; have HBd : Hid (Below wA.heap.size wA wD) := (Lib.hid (by rw [hwD]; exact (Below.refl _ _).drew)); refine wp_region_noPanic ?_; refine wp_region_held_drew (S := fun W => (World.cell? W ⟨s, 0, none⟩ = some (.pointer (some ⟨m, 0, none⟩)) ∧ World.cell? W ⟨m, 0, none⟩ = some (.pointer (some ⟨S, 0, none⟩)) ∧ (World.cell? W ⟨KB, 0, none⟩ = some (.int .i64 2) ∧ World.cell? W ⟨KB, 1, none⟩ = some (.int .i64 k1) ∧ World.cell? W ⟨KB, 2, none⟩ = some (.int .i64 k2) ∧ World.cell? W ⟨KB, 3, none⟩ = some (.int .i64 k3) ∧ World.cell? W ⟨KB, 4, none⟩ = some (.int .u32 k4)))) (by kernel_rfl) (by rw [← hwD]; exact HSK.out _ HBd.out) (fun hHeld => ?_); rw [← hwD] at hHeld ⊢; clear hwD; refine wpAnyH_take (i := 0) (v := ?_) (by rfl) (by kernel_rfl) (by kernel_rfl) (by kernel_rfl) (fun _ _ _ h => h) (Or.inl ⟨by kernel_rfl, ?_⟩) (by assumption) ?_; rotate_left 1; (focus (intro w hSw; (try dsimp only at hSw); simp only [List.getElem_toArray, List.getElem_cons_succ, List.getElem_cons_zero]; all_goals go_simp; all_goals (try with_reducible rfl))); (try simp only [Act.put, List.getElem_toArray, List.getElem_cons_succ, List.getElem_cons_zero, List.setIfInBounds_toArray, List.set_cons_zero, List.set_cons_succ]); refine wpAnyH_take (i := 1) (v := ?_) (by rfl) (by kernel_rfl) (by kernel_rfl) (by kernel_rfl) (fun _ _ _ h => h) (Or.inl ⟨by kernel_rfl, ?_⟩) (by assumption) ?_; rotate_left 1; (focus (intro w hSw; (try dsimp only at hSw); simp only [List.getElem_toArray, List.getElem_cons_succ, List.getElem_cons_zero]; all_goals go_simp; all_goals (try with_reducible rfl))); (try simp only [Act.put, List.getElem_toArray, List.getElem_cons_succ, List.getElem_cons_zero, List.setIfInBounds_toArray, List.set_cons_zero, List.set_cons_succ]); refine wpAnyH_take (i := 2) (v := ?_) (by rfl) (by kernel_rfl) (by kernel_rfl) (by kernel_rfl) (fun _ _ _ h => h) (Or.inl ⟨by kernel_rfl, ?_⟩) (by assumption) ?_; rotate_left 1; (focus (intro w hSw; (try dsimp only at hSw); simp only [List.getElem_toArray, List.getElem_cons_succ, List.getElem_cons_zero]; all_goals go_simp; all_goals (try with_reducible rfl))); (try simp only [Act.put, List.getElem_toArray, List.getElem_cons_succ, List.getElem_cons_zero, List.setIfInBounds_toArray, List.set_cons_zero, List.set_cons_succ]); refine wpAnyH_take (i := 3) (v := ?_) (by rfl) (by kernel_rfl) (by kernel_rfl) (by kernel_rfl) (fun _ _ _ h => h) (Or.inl ⟨by kernel_rfl, ?_⟩) (by assumption) ?_; rotate_left 1; (focus (intro w hSw; (try dsimp only at hSw); simp only [List.getElem_toArray, List.getElem_cons_succ, List.getElem_cons_zero]; all_goals go_simp; all_goals (try with_reducible rfl))); (try simp only [Act.put, List.getElem_toArray, List.getElem_cons_succ, List.getElem_cons_zero, List.setIfInBounds_toArray, List.set_cons_zero, List.set_cons_succ]); refine wpAnyH_take (i := 4) (v := ?_) (by rfl) (by kernel_rfl) (by kernel_rfl) (by kernel_rfl) (fun _ _ _ h => h) (Or.inl ⟨by kernel_rfl, ?_⟩) (by assumption) ?_; rotate_left 1; (focus (intro w hSw; (try dsimp only at hSw); simp only [List.getElem_toArray, List.getElem_cons_succ, List.getElem_cons_zero]; all_goals go_simp; all_goals (try with_reducible rfl))); (try simp only [Act.put, List.getElem_toArray, List.getElem_cons_succ, List.getElem_cons_zero, List.setIfInBounds_toArray, List.set_cons_zero, List.set_cons_succ]); refine wpAnyH_take (i := 5) (v := ?_) (by rfl) (by kernel_rfl) (by kernel_rfl) (by kernel_rfl) (fun _ _ _ h => h) (Or.inl ⟨by kernel_rfl, ?_⟩) (by assumption) ?_; rotate_left 1; (focus (intro w hSw; (try dsimp only at hSw); simp only [List.getElem_toArray, List.getElem_cons_succ, List.getElem_cons_zero]; all_goals go_simp; all_goals (try with_reducible rfl))); (try simp only [Act.put, List.getElem_toArray, List.getElem_cons_succ, List.getElem_cons_zero, List.setIfInBounds_toArray, List.set_cons_zero, List.set_cons_succ]); refine wpAnyH_take (i := 6) (v := ?_) (by rfl) (by kernel_rfl) (by kernel_rfl) (by kernel_rfl) (fun _ _ _ h => h) (Or.inl ⟨by kernel_rfl, ?_⟩) (by assumption) ?_; rotate_left 1; (focus (intro w hSw; (try dsimp only at hSw); simp only [List.getElem_toArray, List.getElem_cons_succ, List.getElem_cons_zero]; all_goals go_simp; all_goals (try with_reducible rfl))); (try simp only [Act.put, List.getElem_toArray, List.getElem_cons_succ, List.getElem_cons_zero, List.setIfInBounds_toArray, List.set_cons_zero, List.set_cons_succ]); refine wpAnyH_take (i := 7) (v := ?_) (by rfl) (by kernel_rfl) (by kernel_rfl) (by kernel_rfl) (fun _ _ _ h => h) (Or.inl ⟨by kernel_rfl, ?_⟩) (by assumption) ?_; rotate_left 1; (focus (intro w hSw; (try dsimp only at hSw); simp only [List.getElem_toArray, List.getElem_cons_succ, List.getElem_cons_zero]; all_goals go_simp; all_goals (try with_reducible rfl))); (try simp only [Act.put, List.getElem_toArray, List.getElem_cons_succ, List.getElem_cons_zero, List.setIfInBounds_toArray, List.set_cons_zero, List.set_cons_succ]); refine wpAnyH_ready (rs := [8]) (by kernel_rfl) (by simp) ?_; refine AllReadyH.cons (by rfl) (fun K hK => ?_) AllReadyH.nil; rw [if_pos (by kernel_rfl)]; simp only [List.getElem_toArray, List.getElem_cons_succ, List.getElem_cons_zero]; go_wp2_with (first | (go_at_call 43; (with_reducible refine (slive_at 2 k1 k2 k3 k4 r hr _ (H.out.below (HA.out.1.trans (HBd.out.mono HA.out.1.size)))).mono ?_); rintro e w9 ⟨rfl, hb⟩; have HB9 := (Lib.hid (HBd.out.trans (hb.mono HBd.out.size))); clear hb)); refine hK.out _ _ (HSK.out _ HB9.out) (fun hHeld => ?_); clear hK K; (try simp only [Act.put, List.getElem_toArray, List.getElem_cons_succ, List.getElem_cons_zero, List.setIfInBounds_toArray, List.set_cons_zero, List.set_cons_succ]); refine wpAnyH_take (i := 9) (v := ?_) (by rfl) (by kernel_rfl) (by kernel_rfl) (by kernel_rfl) (fun _ _ _ h => h) (Or.inl ⟨by kernel_rfl, ?_⟩) (by assumption) ?_; rotate_left 1; (focus (intro w hSw; (try dsimp only at hSw); simp only [List.getElem_toArray, List.getElem_cons_succ, List.getElem_cons_zero]; all_goals go_simp; all_goals (try with_reducible rfl))); (try simp only [Act.put, List.getElem_toArray, List.getElem_cons_succ, List.getElem_cons_zero, List.setIfInBounds_toArray, List.set_cons_zero, List.set_cons_succ]); refine wpAnyH_done (by kernel_rfl) ?_ _; refine NoPanic.normal ?_; go_wp2_with fail; go_ret; exact ⟨rfl, HA.out.1.trans (HB9.out.mono HA.out.1.size)⟩
  · go_enter Tryz.func23, Tryz.ntmps23; go_upto_region 1 with fail; generalize hA : World.alloc w _ = wA; obtain ⟨KB, hKB⟩ : ∃ KB, KB = w.heap.size := ⟨_, rfl⟩; have HA : Hid (Below w.heap.size w wA ∧ KeyC wA KB 3 k1 k2 k3 k4) := (Lib.hid (by rw [← hA, hKB]; exact ⟨(Below.refl _ _).alloc (Nat.le_refl _) _, KeyC.new w 3 k1 k2 k3 k4 _⟩)); rw [← hKB]; clear hA hKB; have q0 := HA.out.2.c0; go_upto_region 11 with fail; have HSK : Hid (∀ W, Below wA.heap.size wA W → (World.cell? W ⟨s, 0, none⟩ = some (.pointer (some ⟨m, 0, none⟩)) ∧ World.cell? W ⟨m, 0, none⟩ = some (.pointer (some ⟨S, 0, none⟩)) ∧ (World.cell? W ⟨KB, 0, none⟩ = some (.int .i64 3) ∧ World.cell? W ⟨KB, 1, none⟩ = some (.int .i64 k1) ∧ World.cell? W ⟨KB, 2, none⟩ = some (.int .i64 k2) ∧ World.cell? W ⟨KB, 3, none⟩ = some (.int .i64 k3) ∧ World.cell? W ⟨KB, 4, none⟩ = some (.int .u32 k4)))) := (Lib.hid (fun W hW => ⟨((HA.out.1.trans (hW.mono HA.out.1.size)).cell (p := ⟨s, 0, none⟩) HL.out.1).trans HL.out.2.2.1, ((HA.out.1.trans (hW.mono HA.out.1.size)).cell (p := ⟨m, 0, none⟩) HL.out.2.1).trans HL.out.2.2.2, ofive (HA.out.2.below hW)⟩)); obtain ⟨wD, hwD⟩ : ∃ wD, wD = wA.drew := ⟨_, rfl⟩; have HBd : Hid (Below wA.heap.size wA wD) := (Lib.hid (by rw [hwD]; exact (Below.refl _ _).drew)); refine wp_region_noPanic ?_; refine wp_region_held_drew (S := fun W => (World.cell? W ⟨s, 0, none⟩ = some (.pointer (some ⟨m, 0, none⟩)) ∧ World.cell? W ⟨m, 0, none⟩ = some (.pointer (some ⟨S, 0, none⟩)) ∧ (World.cell? W ⟨KB, 0, none⟩ = some (.int .i64 3) ∧ World.cell? W ⟨KB, 1, none⟩ = some (.int .i64 k1) ∧ World.cell? W ⟨KB, 2, none⟩ = some (.int .i64 k2) ∧ World.cell? W ⟨KB, 3, none⟩ = some (.int .i64 k3) ∧ World.cell? W ⟨KB, 4, none⟩ = some (.int .u32 k4)))) (by kernel_rfl) (by rw [← hwD]; exact HSK.out _ HBd.out) (fun hHeld => ?_); rw [← hwD] at hHeld ⊢; clear hwD; refine wpAnyH_take (i := 0) (v := ?_) (by rfl) (by kernel_rfl) (by kernel_rfl) (by kernel_rfl) (fun _ _ _ h => h) (Or.inl ⟨by kernel_rfl, ?_⟩) (by assumption) ?_; rotate_left 1; (focus (intro w hSw; (try dsimp only at hSw); simp only [List.getElem_toArray, List.getElem_cons_succ, List.getElem_cons_zero]; all_goals go_simp; all_goals (try with_reducible rfl))); (try simp only [Act.put, List.getElem_toArray, List.getElem_cons_succ, List.getElem_cons_zero, List.setIfInBounds_toArray, List.set_cons_zero, List.set_cons_succ]); refine wpAnyH_take (i := 1) (v := ?_) (by rfl) (by kernel_rfl) (by kernel_rfl) (by kernel_rfl) (fun _ _ _ h => h) (Or.inl ⟨by kernel_rfl, ?_⟩) (by assumption) ?_; rotate_left 1; (focus (intro w hSw; (try dsimp only at hSw); simp only [List.getElem_toArray, List.getElem_cons_succ, List.getElem_cons_zero]; all_goals go_simp; all_goals (try with_reducible rfl))); (try simp only [Act.put, List.getElem_toArray, List.getElem_cons_succ, List.getElem_cons_zero, List.setIfInBounds_toArray, List.set_cons_zero, List.set_cons_succ]); refine wpAnyH_take (i := 2) (v := ?_) (by rfl) (by kernel_rfl) (by kernel_rfl) (by kernel_rfl) (fun _ _ _ h => h) (Or.inl ⟨by kernel_rfl, ?_⟩) (by assumption) ?_; rotate_left 1; (focus (intro w hSw; (try dsimp only at hSw); simp only [List.getElem_toArray, List.getElem_cons_succ, List.getElem_cons_zero]; all_goals go_simp; all_goals (try with_reducible rfl))); (try simp only [Act.put, List.getElem_toArray, List.getElem_cons_succ, List.getElem_cons_zero, List.setIfInBounds_toArray, List.set_cons_zero, List.set_cons_succ]); refine wpAnyH_take (i := 3) (v := ?_) (by rfl) (by kernel_rfl) (by kernel_rfl) (by kernel_rfl) (fun _ _ _ h => h) (Or.inl ⟨by kernel_rfl, ?_⟩) (by assumption) ?_; rotate_left 1; (focus (intro w hSw; (try dsimp only at hSw); simp only [List.getElem_toArray, List.getElem_cons_succ, List.getElem_cons_zero]; all_goals go_simp; all_goals (try with_reducible rfl))); (try simp only [Act.put, List.getElem_toArray, List.getElem_cons_succ, List.getElem_cons_zero, List.setIfInBounds_toArray, List.set_cons_zero, List.set_cons_succ]); refine wpAnyH_take (i := 4) (v := ?_) (by rfl) (by kernel_rfl) (by kernel_rfl) (by kernel_rfl) (fun _ _ _ h => h) (Or.inl ⟨by kernel_rfl, ?_⟩) (by assumption) ?_; rotate_left 1; (focus (intro w hSw; (try dsimp only at hSw); simp only [List.getElem_toArray, List.getElem_cons_succ, List.getElem_cons_zero]; all_goals go_simp; all_goals (try with_reducible rfl))); (try simp only [Act.put, List.getElem_toArray, List.getElem_cons_succ, List.getElem_cons_zero, List.setIfInBounds_toArray, List.set_cons_zero, List.set_cons_succ]); refine wpAnyH_take (i := 5) (v := ?_) (by rfl) (by kernel_rfl) (by kernel_rfl) (by kernel_rfl) (fun _ _ _ h => h) (Or.inl ⟨by kernel_rfl, ?_⟩) (by assumption) ?_; rotate_left 1; (focus (intro w hSw; (try dsimp only at hSw); simp only [List.getElem_toArray, List.getElem_cons_succ, List.getElem_cons_zero]; all_goals go_simp; all_goals (try with_reducible rfl))); (try simp only [Act.put, List.getElem_toArray, List.getElem_cons_succ, List.getElem_cons_zero, List.setIfInBounds_toArray, List.set_cons_zero, List.set_cons_succ]); refine wpAnyH_take (i := 6) (v := ?_) (by rfl) (by kernel_rfl) (by kernel_rfl) (by kernel_rfl) (fun _ _ _ h => h) (Or.inl ⟨by kernel_rfl, ?_⟩) (by assumption) ?_; rotate_left 1; (focus (intro w hSw; (try dsimp only at hSw); simp only [List.getElem_toArray, List.getElem_cons_succ, List.getElem_cons_zero]; all_goals go_simp; all_goals (try with_reducible rfl))); (try simp only [Act.put, List.getElem_toArray, List.getElem_cons_succ, List.getElem_cons_zero, List.setIfInBounds_toArray, List.set_cons_zero, List.set_cons_succ]); refine wpAnyH_take (i := 7) (v := ?_) (by rfl) (by kernel_rfl) (by kernel_rfl) (by kernel_rfl) (fun _ _ _ h => h) (Or.inl ⟨by kernel_rfl, ?_⟩) (by assumption) ?_; rotate_left 1; (focus (intro w hSw; (try dsimp only at hSw); simp only [List.getElem_toArray, List.getElem_cons_succ, List.getElem_cons_zero]; all_goals go_simp; all_goals (try with_reducible rfl))); (try simp only [Act.put, List.getElem_toArray, List.getElem_cons_succ, List.getElem_cons_zero, List.setIfInBounds_toArray, List.set_cons_zero, List.set_cons_succ]); refine wpAnyH_ready (rs := [8]) (by kernel_rfl) (by simp) ?_; refine AllReadyH.cons (by rfl) (fun K hK => ?_) AllReadyH.nil; rw [if_pos (by kernel_rfl)]; simp only [List.getElem_toArray, List.getElem_cons_succ, List.getElem_cons_zero]; go_wp2_with (first | (go_at_call 43; (with_reducible refine (slive_at 3 k1 k2 k3 k4 r hr _ (H.out.below (HA.out.1.trans (HBd.out.mono HA.out.1.size)))).mono ?_); rintro e w9 ⟨rfl, hb⟩; have HB9 := (Lib.hid (HBd.out.trans (hb.mono HBd.out.size))); clear hb)); refine hK.out _ _ (HSK.out _ HB9.out) (fun hHeld => ?_); clear hK K; (try simp only [Act.put, List.getElem_toArray, List.getElem_cons_succ, List.getElem_cons_zero, List.setIfInBounds_toArray, List.set_cons_zero, List.set_cons_succ]); refine wpAnyH_take (i := 9) (v := ?_) (by rfl) (by kernel_rfl) (by kernel_rfl) (by kernel_rfl) (fun _ _ _ h => h) (Or.inl ⟨by kernel_rfl, ?_⟩) (by assumption) ?_; rotate_left 1; (focus (intro w hSw; (try dsimp only at hSw); simp only [List.getElem_toArray, List.getElem_cons_succ, List.getElem_cons_zero]; all_goals go_simp; all_goals (try with_reducible rfl))); (try simp only [Act.put, List.getElem_toArray, List.getElem_cons_succ, List.getElem_cons_zero, List.setIfInBounds_toArray, List.set_cons_zero, List.set_cons_succ]); refine wpAnyH_done (by kernel_rfl) ?_ _; refine NoPanic.normal ?_; go_wp2_with fail; go_ret; exact ⟨rfl, HA.out.1.trans (HB9.out.mono HA.out.1.size)⟩
/-- A system of banks, nodes, pages, domains; no meter, no factory. -/
structure SJ (w0 w : World) (L : BLoc) (X : SLoc) (D : BSt) : Prop where
  k : BW w0 w L D
  t : MtAt w X.tB X.tP X.tp X.tR X.tG X.tn X.tn (fun _ => false) (fun _ => 0) (fun _ => 0) (fun _ => 0)
  f : PlAt 161 31 w X.fB X.fP X.fp X.fR X.fG X.fn X.fn (fun _ => false) (fun _ => 0) (fun _ b => zk b)
  b : SyB w X.s L.mb L.dP X.tP L.P X.fP X.q 0
  lo : L.T ≤ X.s ∧ L.T ≤ X.q ∧ X.s ≠ X.q ∧ L.T ≤ X.fB ∧ w0.heap.size ≤ X.tB ∧ L.dB ≤ X.tB ∧ L.dR < X.tB ∧ L.dG < X.tB ∧ X.tP < L.bB ∧ X.tp < L.bB ∧ X.tR < L.bB ∧ X.tG < L.bB
section
variable {w0 w w' : World} {L : BLoc} {X : SLoc} {D D' : BSt}
theorem SysNew.sj (h : SysNew w0 w L X) : SJ w0 w L X st0 := ⟨h.k, h.t, h.f, h.b, h.lo⟩
theorem PlAt.same {T : TypeId} {s base P p B G n c : Nat} {th : Nat → Bool} {vr : Nat → Int} {W : Nat → Nat → Value} (h : PlAt T s w base P p B G n c th vr W) (hs : w.heap.size ≤ w'.heap.size) (h1 : w'.heap[P]? = w.heap[P]?) (h2 : w'.heap[p]? = w.heap[p]?) (h3 : w'.heap[B]? = w.heap[B]?) (h4 : w'.heap[G]? = w.heap[G]?) : PlAt T s w' base P p B G n c th vr W :=
  ⟨Nat.lt_of_lt_of_le h.pl hs, h.pb, (World.cell?_of_block (a := ⟨P, 0, none⟩) h1).trans h.f0, (World.cell?_of_block (a := ⟨P, 1, none⟩) h1).trans h.f1, h.ar.same2 hs h2 h3, own_same h.row h4, h.n1, h.n2, h.n3, h.n4⟩
theorem MtAt.same {base P p B G n c : Nat} {th : Nat → Bool} {vr pr tk : Nat → Int} (h : MtAt w base P p B G n c th vr pr tk) (hs : w.heap.size ≤ w'.heap.size) (h1 : w'.heap[P]? = w.heap[P]?) (h2 : w'.heap[p]? = w.heap[p]?) (h3 : w'.heap[B]? = w.heap[B]?) (h4 : w'.heap[G]? = w.heap[G]?) : MtAt w' base P p B G n c th vr pr tk :=
  ⟨Nat.lt_of_lt_of_le h.pl hs, h.pb, (World.cell?_of_block (a := ⟨P, 0, none⟩) h1).trans h.f0, (World.cell?_of_block (a := ⟨P, 1, none⟩) h1).trans h.f1, h.ar.same2 hs h2 h3, own_same h.row h4, h.n1, h.n2, h.n3, h.n4⟩
theorem MtAt.low2 {base P p B G n c : Nat} {th : Nat → Bool} {vr pr tk : Nat → Int} (h : MtAt w base P p B G n c th vr pr tk) : base ≤ P ∧ base ≤ p ∧ base ≤ B ∧ base ≤ G ∧ P < w.heap.size ∧ p < w.heap.size ∧ B < w.heap.size ∧ G < w.heap.size := ⟨h.pb, h.ar.pb, h.ar.lt.1, (h.row.lt G rfl).1, h.pl, h.ar.pl, h.ar.lt.2, (h.row.lt G rfl).2⟩
theorem SJ.below (h : SJ w0 w L X D) (hb : Below w.heap.size w w') : SJ w0 w' L X D :=
  ⟨h.k.below hb, h.t.below hb, h.f.same hb.size (hb.block _ h.f.pl) (hb.block _ h.f.ar.pl) (hb.block _ h.f.ar.lt.2) (hb.block _ (h.f.row.lt _ rfl).2), h.b.below hb, h.lo⟩
theorem SJ.step (h : SJ w0 w L X D) (hk : BW w0 w' L D') (hu : UpM L w w') : SJ w0 w' L X D' := by
  have ht := h.t.low2
  have hl := h.lo
  have hz := hu.up.1
  have hT := h.k.tt.1
  have win : ∀ k, X.tB ≤ k → k < L.bB → k < w.heap.size → w'.heap[k]? = w.heap[k]? := fun k h1 h2 h3 => hu.win k (by omega) h2 (by omega) (by omega) h3
  have f1 := h.f.pb
  have f2 := h.f.ar.pb
  have f3 := h.f.ar.lt
  have f4 := h.f.row.lt X.fG rfl
  exact ⟨hk, h.t.same hz (win _ ht.1 (by omega) ht.2.2.2.2.1) (win _ ht.2.1 (by omega) ht.2.2.2.2.2.1) (win _ ht.2.2.1 (by omega) ht.2.2.2.2.2.2.1) (win _ ht.2.2.2.1 (by omega) ht.2.2.2.2.2.2.2), h.f.same hz (hu.up.2 _ (by omega) h.f.pl) (hu.up.2 _ (by omega) h.f.ar.pl) (hu.up.2 _ (by omega) f3.2) (hu.up.2 _ (by omega) f4.2), h.b.same hz (hu.up.2 _ hl.1 h.b.lt), hl⟩
end
end Go.Proofs.YtllcakiomihipaaGreatDoor
namespace Go.Proofs.YtllcakiomihipaaGreatDoor
open Go.ChangeShapes Go.WideShapes Go.ChangeAt Go.RowKit
set_option linter.unusedVariables false
theorem many_places (k : Int) : manyOf k = if placesOf k = 0 then 1 else placesOf k := by
  unfold manyOf placesOf
  repeat' split
  all_goals first | rfl | omega | (exfalso; simp_all)
theorem hid_many (k : Int) : hidOf k = manyOf k - 1 := by
  unfold hidOf
  rw [many_places]
  have := placesOf_ge k
  split <;> split <;> omega
theorem hver_most (k : Int) : hverOf k = mostOf k := by
  unfold hverOf mostOf
  rw [many_places]
  have := placesOf_ge k
  have p1 : placesOf k ≠ 1 := by unfold placesOf; repeat' split
                                 all_goals omega
  by_cases h : placesOf k = 0
  · rw [if_pos h, if_neg (by omega), if_neg (by omega)]
  · rw [if_neg h, if_pos (by omega), if_pos (by omega)]
theorem hr_rights (k : Int) : hrOf k = rightsOf k := by
  unfold hrOf rightsOf
  by_cases h : k = 2 ∨ k = 3
  · rw [if_pos h, if_pos (by simpa using h)]
  · rw [if_neg h, if_neg (by simpa using h)]
theorem data_most (k : Int) : dataMost k = dataOf k := by
  unfold dataMost dataOf
  repeat' split
  all_goals first | rfl | omega
theorem right_in (k0 k1 k2 k3 k4 : Int) : rightB k0 k1 k2 k3 k4 = decide ((0 ≤ k0 ∧ k0 ≤ 14) ∧ InB k0 k1 k2 k3 k4) := by
  unfold rightB InB
  rw [hid_many, hver_most, hr_rights, data_most]
  rw [Bool.eq_iff_iff]
  simp only [wB, Bool.and_eq_true, decide_eq_true_eq]
  omega
theorem right_of_code {k0 k1 k2 k3 k4 : Int} (h : codeOf k0 k1 k2 k3 k4 = 0) : rightB k0 k1 k2 k3 k4 = true := by
  rw [right_in, decide_eq_true_iff]
  unfold codeOf at h
  split at h
  · omega
  · split at h
    · exact ⟨by omega, by assumption⟩
    · omega
end Go.Proofs.YtllcakiomihipaaGreatDoor
namespace Go.Proofs.YtllcakiomihipaaGreatDoor
open Go.ChangeShapes Go.WideShapes Go.ChangeAt Go.RowKit
set_option linter.unusedVariables false
set_option linter.unusedSimpArgs false
def cnt01 (b : Bool) : Int := if b = true then 1 else 0
/-- The cells of a call, with two keys of its note. -/
structure CallJ (cs : List Value) (s : Nat) (o : Int) (m0 m1 m2 m3 m4 n0 n1 n2 n3 n4 : Int) : Prop where
  len : cs.length = 25
  c6 : cs[6]? = some (.int .u32 o)
  a0 : cs[10]? = some (.int .i64 m0)
  a1 : cs[11]? = some (.int .i64 m1)
  a2 : cs[12]? = some (.int .i64 m2)
  a3 : cs[13]? = some (.int .i64 m3)
  a4 : cs[14]? = some (.int .u32 m4)
  b0 : cs[15]? = some (.int .i64 n0)
  b1 : cs[16]? = some (.int .i64 n1)
  b2 : cs[17]? = some (.int .i64 n2)
  b3 : cs[18]? = some (.int .i64 n3)
  b4 : cs[19]? = some (.int .u32 n4)
section
variable {cs : List Value} {s : Nat} {o m0 m1 m2 m3 m4 n0 n1 n2 n3 n4 : Int}
end
end Go.Proofs.YtllcakiomihipaaGreatDoor
namespace Go.Proofs.YtllcakiomihipaaGreatDoor
open Go.ChangeShapes Go.WideShapes Go.ChangeAt Go.RowKit
set_option linter.unusedVariables false
set_option linter.unusedSimpArgs false
section
variable {cs : List Value} {s : Nat} {k0 k1 k2 k3 k4 o x : Int}
end
end Go.Proofs.YtllcakiomihipaaGreatDoor
namespace Go.Proofs.YtllcakiomihipaaGreatDoor
open Go.ChangeShapes Go.WideShapes Go.ChangeAt Go.RowKit
set_option linter.unusedVariables false
/-- The cells of factories. -/
def mkW (sl : Nat → Bool) (ky : Nat → Nat → Nat → Int) : Nat → Nat → Value := fun i b => if b = 0 then .bool (sl i) else kval ((b - 1) % 5) (ky i ((b - 1) / 5) ((b - 1) % 5))
def MkAt (w : World) (base P p B G n c : Nat) (th : Nat → Bool) (vr : Nat → Int) (sl : Nat → Bool) (ky : Nat → Nat → Nat → Int) : Prop := PlAt 161 31 w base P p B G n c th vr (mkW sl ky)
/-- One part anew. -/
def updP (ky : Nat → Nat → Nat → Int) (i a : Nat) (y0 y1 y2 y3 y4 : Int) : Nat → Nat → Nat → Int := fun i' a' q => if i' = i ∧ a' = a then (if q = 0 then y0 else if q = 1 then y1 else if q = 2 then y2 else if q = 3 then y3 else y4) else ky i' a' q
section
variable {w w' : World} {base P p B G n c : Nat} {th th' : Nat → Bool} {vr_ vr' : Nat → Int} {sl : Nat → Bool} {ky : Nat → Nat → Nat → Int}
theorem MkAt.pl (h : MkAt w base P p B G n c th vr_ sl ky) : PlAt 161 31 w base P p B G n c th vr_ (mkW sl ky) := h
theorem MkAt.ar (h : MkAt w base P p B G n c th vr_ sl ky) : ArAt w base p B n c th vr_ := h.pl.ar
theorem MkAt.below (h : MkAt w base P p B G n c th vr_ sl ky) (hb : Below w.heap.size w w') : MkAt w' base P p B G n c th vr_ sl ky := h.pl.below hb
theorem MkAt.congr (h : MkAt w base P p B G n c th vr_ sl ky) (h1 : ∀ i, i < n → th i = th' i) (h2 : ∀ i, i < n → vr_ i = vr' i) : MkAt w base P p B G n c th' vr' sl ky := h.pl.congr h1 h2
theorem MkAt.s0 (h : MkAt w base P p B G n c th vr_ sl ky) (i : Nat) (hi : i < n) : w.cell? ⟨G, i * 31, none⟩ = some (.bool (sl i)) := h.pl.cell i 0 hi (by decide)
end
end Go.Proofs.YtllcakiomihipaaGreatDoor
namespace Go.Proofs.YtllcakiomihipaaGreatDoor
open Go.ChangeShapes Go.WideShapes Go.ChangeAt Go.RowKit
set_option linter.unusedVariables false
set_option linter.unusedSimpArgs false
section
variable {w0 w w' : World} {L : BLoc} {X : SLoc} {D : BSt}
theorem DMD.keep (h : DMD w L D) (hs : w.heap.size ≤ w'.heap.size) (hP : w'.heap[L.dP]? = w.heap[L.dP]?) (hp : w'.heap[L.dp]? = w.heap[L.dp]?) (hR : w'.heap[L.dR]? = w.heap[L.dR]?) (hG : w'.heap[L.dG]? = w.heap[L.dG]?) (hQ : w'.heap[L.dQ]? = w.heap[L.dQ]?) : DMD w' L D :=
  ⟨⟨Nat.lt_of_lt_of_le h.pl.pl hs, h.pl.pb, (World.cell?_of_block (a := ⟨L.dP, 0, none⟩) hP).trans h.pl.f0, (World.cell?_of_block (a := ⟨L.dP, 1, none⟩) hP).trans h.pl.f1, h.pl.ar.same2 hs hp hR, RowO.same (e := 0) h.pl.row hG, h.pl.n1, h.pl.n2, h.pl.n3, h.pl.n4⟩, (World.cell?_of_block (a := ⟨L.dP, 2, none⟩) hP).trans h.f2, RowO.same (e := 0) h.qs hQ, h.q1, h.q2, h.q3⟩
theorem BW.keep (h : BW w0 w L D) (hb : Below L.dB w w') (hP : w'.heap[L.dP]? = w.heap[L.dP]?) (hp : w'.heap[L.dp]? = w.heap[L.dp]?) (hR : w'.heap[L.dR]? = w.heap[L.dR]?) (hG : w'.heap[L.dG]? = w.heap[L.dG]?) (hQ : w'.heap[L.dQ]? = w.heap[L.dQ]?) (hk : ∀ k, L.bB ≤ k → k < L.T → w'.heap[k]? = w.heap[k]?) : BW w0 w' L D := by
  have hmd := h.md
  have ht := h.tt
  have hm := MMD.low h.m hb hmd.1 hmd.2.1 hmd.2.2
  have hd := DMD.keep h.d hb.size hP hp hR hG hQ
  have b1 := h.k.pb
  have b2 := h.k.ar.pb
  have b3 := h.k.ar.lt.1
  have b4 := h.k.ac.lt.1
  have b5 := h.k.t1.lt.1
  have b6 := h.k.t2.lt.1
  have b7 := h.k.t3.lt.1
  exact ⟨hm, hd, BkAt.keep h.k hb.size (hk _ b1 ht.2.1) (h.k.ar.same2 hb.size (hk _ b2 ht.2.2.1) (hk _ b3 ht.2.2.2.1)) (h.k.ac.same (hk _ b4 ht.2.2.2.2.1)) (h.k.t1.same (hk _ b5 ht.2.2.2.2.2.1)) (h.k.t2.same (hk _ b6 ht.2.2.2.2.2.2.1)) (h.k.t3.same (hk _ b7 ht.2.2.2.2.2.2.2)), hmd, h.db, h.dl, h.pk, h.nn, h.tt, Nat.le_trans h.tw hb.size⟩
end
/-- A system: what its banks hold, its meters, its factories. -/
structure SK (w0 w : World) (L : BLoc) (X : SLoc) (D : BSt) (mt : Nat → Bool) (mp mk : Nat → Int) (ft sl : Nat → Bool) (ky : Nat → Nat → Nat → Int) : Prop where
  k : BW w0 w L D
  t : MtAt w X.tB X.tP X.tp X.tR X.tG X.tn X.tn mt (fun _ => 0) mp mk
  f : PlAt 161 31 w X.fB X.fP X.fp X.fR X.fG X.fn X.fn ft (fun _ => 0) (mkW sl ky)
  b : SyB w X.s L.mb L.dP X.tP L.P X.fP X.q 0
  lo : L.T ≤ X.s ∧ L.T ≤ X.q ∧ X.s ≠ X.q ∧ L.T ≤ X.fB ∧ w0.heap.size ≤ X.tB ∧ L.dB ≤ X.tB ∧ L.dR < X.tB ∧ L.dG < X.tB ∧ X.tP < L.bB ∧ X.tp < L.bB ∧ X.tR < L.bB ∧ X.tG < L.bB
  sz : 0 < X.tn ∧ 0 < X.fn ∧ 0 < L.dn
section
variable {w0 w w' : World} {L : BLoc} {X : SLoc} {D : BSt} {mt mt' : Nat → Bool} {mp mk mp' mk' : Nat → Int} {ft sl ft' sl' : Nat → Bool} {ky ky' : Nat → Nat → Nat → Int}
theorem SJ.sk (h : SJ w0 w L X D) (sz : 0 < X.tn ∧ 0 < X.fn ∧ 0 < L.dn) : SK w0 w L X D (fun _ => false) (fun _ => 0) (fun _ => 0) (fun _ => false) (fun _ => false) (fun _ _ _ => 0) :=
  ⟨h.k, h.t, PlAt.congrW h.f (fun i j _ _ => by
    unfold zk mkW kval
    by_cases h0 : j = 0
    · rw [if_pos h0, if_pos h0]
    · rw [if_neg h0, if_neg h0]
      by_cases h5 : j % 5 = 0
      · rw [if_pos h5, if_pos (by omega)]
      · rw [if_neg h5, if_neg (by omega)]) (by decide), h.b, h.lo, sz⟩
theorem SK.below (h : SK w0 w L X D mt mp mk ft sl ky) (hb : Below w.heap.size w w') : SK w0 w' L X D mt mp mk ft sl ky :=
  ⟨h.k.below hb, h.t.below hb, h.f.same hb.size (hb.block _ h.f.pl) (hb.block _ h.f.ar.pl) (hb.block _ h.f.ar.lt.2) (hb.block _ (h.f.row.lt _ rfl).2), h.b.below hb, h.lo, h.sz⟩
theorem two_apart {w : World} {a b : Nat} {u v : Value} (h1 : w.cell? ⟨a, 0, none⟩ = some u) (h2 : w.cell? ⟨b, 0, none⟩ = some v) (hn : u ≠ v) : a ≠ b := fun e => hn (by
  subst e
  rw [h1] at h2
  exact Option.some.inj h2)
theorem SK.meter (h : SK w0 w L X D mt mp mk ft sl ky) (ht : MtAt w' X.tB X.tP X.tp X.tR X.tG X.tn X.tn mt' (fun _ => 0) mp' mk') (hb : PBelow w w' X.tR X.tG) : SK w0 w' L X D mt' mp' mk' ft sl ky := by
  have hl := h.lo
  have hlt := h.t.low2
  have hT := h.k.tt.1
  have c0 := h.t.ar.at0 0 h.sz.1
  have c1 := h.t.at0 0 h.sz.1
  rw [Nat.zero_mul] at c0 c1
  have dP0 := h.k.d.pl.f0
  have dp0 := h.k.d.pl.ar.fld
  have dQ0 : w.cell? ⟨L.dQ, 0, none⟩ = some (.slice none 0 0) := by
    have h1 := h.k.d.qs.cellAt 0 (by have := h.sz.2.2; omega)
    rw [h1]
    have h2 := flatS_at 2 (fun _ b => zq b) L.dn 0 0 h.sz.2.2 (by decide)
    simpa [zq] using h2
  have n1 := two_apart dP0 c0 (by simp)
  have n2 := two_apart dP0 c1 (by simp)
  have n3 := two_apart dp0 c0 (by simp)
  have n4 := two_apart dp0 c1 (by simp)
  have n5 := two_apart dQ0 c0 (by simp)
  have n6 := two_apart dQ0 c1 (by simp)
  have g := hb.2.2.2.2
  have hz := hb.2.2.2.1
  have q1 := h.k.d.pl.pl
  have q2 := h.k.d.pl.ar.pl
  have q3 := h.k.d.pl.ar.lt.2
  have q4 := h.k.d.pl.gl.2
  have q5 := (h.k.d.qs.lt L.dQ rfl).2
  have tw := h.k.tw
  have f1 := h.f.pb
  have f2 := h.f.ar.pb
  have f3 := h.f.ar.lt
  have f4 := h.f.row.lt X.fG rfl
  refine ⟨h.k.keep (hb.below (by omega) (by omega) (by omega)) (g _ q1 n1 n2) (g _ q2 n3 n4) (g _ q3 (by omega) (by omega)) (g _ q4 (by omega) (by omega)) (g _ q5 n5 n6) (fun k k1 k2 => g k (by omega) (by omega) (by omega)), ht, h.f.same hz (g _ h.f.pl (by omega) (by omega)) (g _ h.f.ar.pl (by omega) (by omega)) (g _ f3.2 (by omega) (by omega)) (g _ f4.2 (by omega) (by omega)), h.b.same hz (g _ h.b.lt (by omega) (by omega)), h.lo, h.sz⟩
end
end Go.Proofs.YtllcakiomihipaaGreatDoor
namespace Go.Proofs.YtllcakiomihipaaGreatDoor
open Go.ChangeShapes Go.WideShapes Go.ChangeAt Go.RowKit
set_option linter.unusedVariables false
set_option linter.unusedSimpArgs false
section
variable {cs nt : List Value} {s N : Nat} {k1 k2 k3 k4 o x : Int} {Q : World → Prop}
set_option maxRecDepth 100000 in
set_option maxHeartbeats 2000000 in
theorem oanswer_number (hnl : nt.length = 19) (hn1 : ∀ v, v ∈ nt → v.oneCell' = true) (hc : Hid (CallC cs s 1 k1 k2 k3 k4 o x)) (w : World) (hN : N ≤ w.heap.size) (hQ : ∀ w1 w2, Q w1 → Below N w1 w2 → Q w2)
    (hm : ∀ W, Below w.heap.size w W → Calls Tryz.prog 88 #[(.agg cs.toArray)] W fun e w' => e = .returned (.agg nt.toArray) ∧ Q w' ∧ UpT N W w') :
    Calls Tryz.prog 60 #[(.agg cs.toArray)] w fun e w' => e = .returned (.agg nt.toArray) ∧ Q w' ∧ UpT N w w' := by
  have HQ := Lib.hid hQ
  have HM := Lib.hid hm
  have hsz : nt.toArray.size = 19 := by simp [hnl]
  clear hQ hm
  go_enter Tryz.func60, Tryz.ntmps60; go_upto_region 1 with fail; generalize hA : World.alloc w _ = wK; obtain ⟨C, hC⟩ : ∃ C, C = w.heap.size := ⟨_, rfl⟩; have HK : Hid (Below w.heap.size w wK ∧ wK.rangeAt C 0 cs ∧ wK.heap.size = C + 1) := Lib.hid (by rw [← hA, hC]; exact ⟨(Below.refl _ _).alloc (Nat.le_refl _) _, cbox _ _ _, by simp⟩); have HCl : Hid (w.heap.size ≤ C) := Lib.hid (by rw [hC]; exact Nat.le_refl _); rw [← hC]; clear hA hC; generalize hA : World.alloc wK _ = wA; obtain ⟨R, hR⟩ : ∃ R, R = C + 1 := ⟨_, rfl⟩; have HA : Hid (Below w.heap.size w wA ∧ wA.rangeAt C 0 cs ∧ World.there wA R 0 19 ∧ C < R ∧ R < wA.heap.size) := Lib.hid (by rw [← hA, hR, ← HK.out.2.2]; exact ⟨HK.out.1.alloc HK.out.1.size _, range_below HK.out.2.1 ((Below.refl _ _).alloc (Nat.le_refl _) _) (by have := HK.out.2.2; omega), nthere_new _ _ 19 (by rfl) _, by have := HK.out.2.2; omega, by simp⟩); rw [← hR]; clear hA hR
  have q1 := CallC.cell HA.out.2.1 1 _ hc.out.c1
  go_upto_region 3 with fail
  go_wp2_with (first
    | (refine wpList_load_mid (by rfl) _ _ (by rfl) C 0 (by rfl) cs _ HA.out.2.1 Tryz.underlying142 rfl (by rw [hc.out.len]; exact infoCall) ?_)
    | (go_at_call 88; (with_reducible refine (HM.out _ HA.out.1).mono ?_); rintro e w1 ⟨rfl, hq, hu⟩; have H1 := Lib.hid hq; have HU1 := Lib.hid hu; have HT1 : Hid (World.there w1 R 0 19) := Lib.hid (nthere_same HA.out.2.2.1 (hu.2 R (by have := HA.out.2.2.2.1; have := HCl.out; omega) HA.out.2.2.2.2)); clear hq hu)
    | (refine wpList_store_mid (by rfl) _ _ _ (by rfl) R 0 nt.toArray (by rfl) (by rfl) (by rw [hsz]; exact HT1.out) (by rw [hsz]; exact infoNote) (all_one hn1) ?_))
  have hRn : w.heap.size ≤ R := by have := HA.out.2.2.2.1; have := HCl.out; omega
  have HS : Hid (Below w.heap.size w1 (w1.setCells R 0 nt.toArray.toList) ∧ (w1.setCells R 0 nt.toArray.toList).rangeAt R 0 nt) := Lib.hid ⟨nbelow_cells (Below.refl _ _) hRn _ _, World.rangeAt_setCells_same w1 R 0 nt (by rw [hnl]; exact HT1.out)⟩
  have hld := nload hnl HS.out.2
  refine bodyPost_ret (v := (.agg nt.toArray)) (by simp [results, Tryz.results60, Act.put, asAddr, hld]) rfl ⟨rfl, HQ.out _ _ H1.out (HS.out.1.mono hN), ((UpT.below HA.out.1).trans HU1.out).low HS.out.1 (Nat.le_refl _)⟩
end
section
variable {s m d t b f q : Nat} {st : Int}
end
end Go.Proofs.YtllcakiomihipaaGreatDoor
namespace Go.Proofs.YtllcakiomihipaaGreatDoor
open Go.ChangeShapes Go.WideShapes Go.ChangeAt Go.RowKit Go.Maps
set_option linter.unusedVariables false
/-- Numbers are read there. -/
def RI (w : World) (a : Option Addr) (xs : List Int) : Prop := ∀ i, i < xs.length → ∃ ad, a = some ad ∧ ad.block < w.heap.size ∧ w.cell? (ad.add i) = some (.int .i64 (xs.getD i 0))
theorem RI.below {w w' : World} {a : Option Addr} {xs : List Int} (h : RI w a xs) (hb : Below w.heap.size w w') : RI w' a xs := by
  intro i hi
  obtain ⟨ad, h1, h2, h3⟩ := h i hi
  exact ⟨ad, h1, Nat.lt_of_lt_of_le h2 hb.size, (hb.cell (p := ad.add i) (by rw [add_block']; exact h2)).trans h3⟩
theorem own_ri {w : World} {B n c : Nat} {a : Option Addr} {xs : List Int} (h : w.ownsRow B 3 1 (.slice a n c) n (xs.map (Value.int .i64))) (hn : xs.length = n) : RI w a xs := by
  intro i hi
  rcases h.2 with ⟨_, h0⟩ | ⟨g, cap, cur, hv, hB, hg, rest⟩
  · omega
  · obtain rfl : a = some ⟨g, 0, none⟩ := by simp at hv; exact hv.1
    refine ⟨_, rfl, lt_of_block hg, ?_⟩
    have := h.cellAt i (by omega)
    rw [show (Addr.add ⟨g, 0, none⟩ i) = ⟨g, i, none⟩ by (simp [Addr.add]; exact fun h => h.symm), this]
    simp [List.getD, hi]
end Go.Proofs.YtllcakiomihipaaGreatDoor
namespace Go.Proofs.YtllcakiomihipaaGreatDoor
open Go.ChangeShapes Go.WideShapes Go.ChangeAt Go.RowKit
set_option linter.unusedVariables false
set_option linter.unusedSimpArgs false
section
variable {s m d t b f q : Nat} {st : Int}
end
theorem take_succ' (xs : List Int) (k : Nat) (h : k < xs.length) : xs.take (k + 1) = xs.take k ++ [xs.getD k 0] := by
  rw [List.take_succ_eq_append_getElem h]
  simp [List.getD, h]
def kinds12 : List Int := [1, 2, 3, 4, 7, 8, 9, 10, 11, 12, 13, 14]
end Go.Proofs.YtllcakiomihipaaGreatDoor
namespace Go.Proofs.YtllcakiomihipaaGreatDoor
open Go.ChangeShapes Go.WideShapes Go.ChangeAt Go.RowKit
set_option linter.unusedVariables false
set_option linter.unusedSimpArgs false
/-- A note as a list of cells. -/
structure NtC (nt : List Value) (o a : Int) : Prop where
  len : nt.length = 19
  one : ∀ v, v ∈ nt → v.oneCell' = true
  c0 : nt[0]? = some (.int .u32 o)
  c1 : nt[1]? = some (.int .u32 a)
end Go.Proofs.YtllcakiomihipaaGreatDoor
namespace Go.Proofs.YtllcakiomihipaaGreatDoor
open Go.ChangeShapes Go.WideShapes Go.ChangeAt Go.RowKit
set_option linter.unusedVariables false
set_option linter.unusedSimpArgs false
section
variable {cs nt : List Value} {s N : Nat} {k1 k2 k3 k4 o x : Int} {Q : World → Prop}
end
section
variable {w0 w : World} {L : BLoc} {X : SLoc} {D : BSt}
end
end Go.Proofs.YtllcakiomihipaaGreatDoor
namespace Go.Proofs.YtllcakiomihipaaGreatDoor
open Go.ChangeShapes Go.WideShapes Go.ChangeAt Go.RowKit
set_option linter.unusedVariables false
set_option linter.unusedSimpArgs false
def jD1 : BSt := openedB st0 (-1) 10
def jD2 : BSt := boughtN jD1 0 0 0 (freshV jD1.nW 0 (kcs (fun _ _ => 0) 0))
def jD3 : BSt := boughtP jD2 0 0 0 (fresh jD2.pW 0 [])
section
variable {w0 w : World} {L : BLoc} {X : SLoc} {D : BSt}
theorem chain0 (h : SJ w0 w L X D) (hn : D.nb = 1) (hp : D.pr 0 = -1) : chL D.pr ((0 : Nat) : Int) = [((0 : Nat) : Int)] := chL_root h.k.pk (by rw [hn]; decide) 0 (by rw [hn]; decide) hp
end
def nA (a b c : Int) : List Value := [.int .u32 0, .int .u32 a, .int .u32 b, .int .u32 c, .int .i64 0, .int .i64 0, .int .i64 0, .int .i64 0, .int .u32 0, .int .i64 0, .int .i64 0, .int .i64 0, .int .i64 0, .int .u32 0, .int .i64 0, .int .i64 0, .int .i64 0, .int .i64 0, .int .u32 0]
def nR (r0 r1 r2 r3 r4 : Int) : List Value := [.int .u32 0, .int .u32 0, .int .u32 0, .int .u32 0, .int .i64 r0, .int .i64 r1, .int .i64 r2, .int .i64 r3, .int .u32 r4, .int .i64 0, .int .i64 0, .int .i64 0, .int .i64 0, .int .u32 0, .int .i64 0, .int .i64 0, .int .i64 0, .int .i64 0, .int .u32 0]
end Go.Proofs.YtllcakiomihipaaGreatDoor
namespace Go.Proofs.YtllcakiomihipaaGreatDoor
open Go.ChangeShapes Go.WideShapes Go.ChangeAt Go.RowKit
set_option linter.unusedVariables false
set_option linter.unusedSimpArgs false
def jD4 : BSt := boughtD jD3 0 0 0
def kK : Nat → Int := upd (fun _ => 0) 0 4
def kT : Nat → Bool := upd (fun _ => false) 0 true
def kP : Nat → Int := upd (fun _ => 0) 0 (-1)
def kF : Nat → Bool := upd (fun _ => false) 0 true
def kS0 : Nat → Bool := upd (fun _ => false) 0 false
def kS1 : Nat → Bool := upd kS0 0 true
def kY : Nat → Nat → Nat → Int := upd (fun _ _ _ => 0) 0 (fun _ _ => 0)
section
variable {w0 w w' : World} {L : BLoc} {X : SLoc}
/-- The law's system: one of each. -/
structure SF (w0 w : World) (L : BLoc) (X : SLoc) (sl : Nat → Bool) : Prop where
  sk : SK w0 w L X jD4 kT kP kK kF sl kY
  an : 0 < L.a.n
  pn : 0 < L.b.n
  nn : 0 < L.n
theorem SF.below {sl : Nat → Bool} (h : SF w0 w L X sl) (hb : Below w.heap.size w w') : SF w0 w' L X sl := ⟨h.sk.below hb, h.an, h.pn, h.nn⟩
def nB (r : Int) : List Value := [.int .u32 r, .int .u32 0, .int .u32 0, .int .u32 0, .int .i64 0, .int .i64 0, .int .i64 0, .int .i64 0, .int .u32 0, .int .i64 0, .int .i64 0, .int .i64 0, .int .i64 0, .int .u32 0, .int .i64 0, .int .i64 0, .int .i64 0, .int .i64 0, .int .u32 0]
/-- What a key of a kind is, and what it answers. -/
structure KH (w : World) (s : Nat) (k k0 k1 k2 k3 k4 o x r : Int) : Prop where
  key : ∀ W, Below w.heap.size w W → Calls Tryz.prog 133 #[.pointer (some ⟨s, 0, none⟩), .int .i64 k, .int .i64 0] W fun e w' => e = .returned (Value.agg #[.int .i64 k0, .int .i64 k1, .int .i64 k2, .int .i64 k3, .int .u32 k4]) ∧ Below W.heap.size W w'
  ans : ∀ W, Below w.heap.size w W → Calls Tryz.prog 32 #[.pointer (some ⟨s, 0, none⟩), (Value.agg #[.int .i64 k0, .int .i64 k1, .int .i64 k2, .int .i64 k3, .int .u32 k4]), .agg #[.int .u32 o, .int .u32 x, .int .u32 x, .int .u32 x, .int .i64 0, .int .i64 0, .int .i64 0, .int .i64 0, .int .u32 0, .int .i64 0, .int .i64 0, .int .i64 0, .int .i64 0, .int .u32 0, .int .i64 0, .int .i64 0, .int .i64 0, .int .i64 0, .int .u32 0]] W fun e w' => e = .returned (.tuple #[.agg (nB r).toArray, .bool true]) ∧ Below W.heap.size W w'
variable {sl : Nat → Bool}
end
end Go.Proofs.YtllcakiomihipaaGreatDoor
namespace Go.Proofs.YtllcakiomihipaaGreatDoor
open Go.ChangeShapes Go.WideShapes Go.ChangeAt Go.RowKit
set_option linter.unusedVariables false
end Go.Proofs.YtllcakiomihipaaGreatDoor
namespace Go.Proofs.YtllcakiomihipaaGreatDoor
open Go.ChangeShapes Go.WideShapes Go.ChangeAt Go.RowKit
set_option linter.unusedVariables false
set_option linter.unusedSimpArgs false
/-- The errors that an answer tells apart, and that of a range: where they lie, what they are. -/
def G6 : List Nat := [7, 5, 4, 6, 8, 1]
def E6 (A : Nat → Addr) (w : World) : Prop := Errs 307 G6 A w
theorem E6.below {A : Nat → Addr} {w w' : World} (h : E6 A w) (hb : Below w.heap.size w w') : E6 A w' :=
  ⟨fun g hg => by
    obtain ⟨h1, h2, c, t, h3⟩ := h.1 g hg
    have hl : (A g).block < w.heap.size := by
      rcases Nat.lt_or_ge (A g).block w.heap.size with h' | h'
      · exact h'
      · simp [Array.getElem?_eq_none h'] at h3
    exact ⟨(hb.cell (p := ⟨g, 0, none⟩) h2).trans h1, Nat.lt_of_lt_of_le h2 hb.size, c, t, (hb.block _ hl).trans h3⟩, h.2⟩
theorem E6.c {A : Nat → Addr} {w : World} (h : E6 A w) (g : Nat) (hg : g ∈ G6) : w.cell? ⟨g, 0, none⟩ = some (eV (A g)) := (h.1 g hg).1
theorem E6.same {A : Nat → Addr} {w : World} (h : E6 A w) (g : Nat) (hg : g ∈ G6) : (binOp .eql 47 (eV (A g)) (eV (A g))).run Tryz.prog w = .ok (.bool true) w := by
  obtain ⟨i, hi, hc⟩ := Option.map_eq_some_iff.1 infoErrPtr
  obtain ⟨j, hj, hs⟩ := Option.map_eq_some_iff.1 infoErr
  exact run_eql_iface_ptr_same w (A g) Tryz.underlying47 Tryz.underlying307 hi hc hj
theorem E6.other {A : Nat → Addr} {w : World} (h : E6 A w) (g g' : Nat) (hg : g ∈ G6) (hg' : g' ∈ G6) (hne : g ≠ g') : (binOp .eql 47 (eV (A g)) (eV (A g'))).run Tryz.prog w = .ok (.bool false) w := by
  obtain ⟨i, hi, hc⟩ := Option.map_eq_some_iff.1 infoErrPtr
  obtain ⟨j, hj, hs⟩ := Option.map_eq_some_iff.1 infoErr
  obtain ⟨_, _, c1, t1, ha⟩ := h.1 g hg
  obtain ⟨_, _, c2, t2, hb⟩ := h.1 g' hg'
  exact run_eql_iface_ptr_other w Tryz.underlying47 Tryz.underlying307 hi hc hj (by rw [hs]; decide) (h.2 g hg g' hg' hne) ha hb
end Go.Proofs.YtllcakiomihipaaGreatDoor
namespace Go.Proofs.YtllcakiomihipaaGreatDoor
open Go.ChangeShapes Go.WideShapes Go.ChangeAt Go.RowKit
set_option linter.unusedVariables false
set_option linter.unusedSimpArgs false
/-- The cells of a call, with its second word and the key that was sent. -/
structure CallM (cs : List Value) (s : Nat) (k0 k1 k2 k3 k4 o x y : Int) : Prop extends CallC cs s k0 k1 k2 k3 k4 o x where
  c8 : cs[8]? = some (.int .u32 y)
section
variable {cs nt : List Value} {s mb S N : Nat} {k0 k1 k2 k3 k4 o x y : Int} {Q : World → Prop}
end
end Go.Proofs.YtllcakiomihipaaGreatDoor
namespace Go.Proofs.YtllcakiomihipaaGreatDoor
open Go.ChangeShapes Go.WideShapes Go.ChangeAt Go.RowKit
set_option linter.unusedVariables false
set_option linter.unusedSimpArgs false
section
variable {cs nt : List Value} {s d N : Nat} {k0 k1 k2 k3 k4 o x : Int} {Q : World → Prop}
end
end Go.Proofs.YtllcakiomihipaaGreatDoor
namespace Go.Proofs.YtllcakiomihipaaGreatDoor
open Go.ChangeShapes Go.WideShapes Go.ChangeAt Go.RowKit
set_option linter.unusedVariables false
set_option linter.unusedSimpArgs false
/-- A row with another cell. -/
def uF (f : Nat → Value) (i : Nat) (v : Value) : Nat → Value := fun j => if j = i then v else f j
theorem rowL_set (f : Nat → Value) (i : Nat) (v : Value) : (rowL f).set i v = rowL (uF f i v) := by
  apply List.ext_getElem?
  intro j
  rw [List.getElem?_set]
  unfold rowL uF
  by_cases e : i = j
  · subst e
    by_cases h : i < 107
    · simp [h]
    · simp [h]
  · simp only [e, if_false]
    by_cases h : j < 107
    · simp [h, Ne.symm e]
    · simp [h]
theorem range_uF {w : World} {b : Nat} {f : Nat → Value} (h : w.rangeAt b 0 (rowL f)) (i : Nat) (v : Value) : (w.setCell ⟨b, i, none⟩ v).rangeAt b 0 (rowL (uF f i v)) := by
  rw [← rowL_set]; exact range_set h i v
theorem rangeD {w : World} {b : Nat} {f : Nat → Value} (h : w.rangeAt b 0 (rowL f)) (j : Nat) (hj : j < 107) : w.cell? ⟨b, j, none⟩ = some (f j) := by
  have := h j (f j) (by unfold rowL; simp [hj])
  rwa [Nat.zero_add] at this
section
variable {cs nt : List Value} {s d N : Nat} {k0 k1 k2 k3 k4 o x : Int} {Q : World → Prop}
end
end Go.Proofs.YtllcakiomihipaaGreatDoor
namespace Go.Proofs.YtllcakiomihipaaGreatDoor
open Go.ChangeShapes Go.WideShapes Go.ChangeAt Go.RowKit
set_option linter.unusedVariables false
set_option linter.unusedSimpArgs false
section
variable {cs nt : List Value} {s d q N : Nat} {k0 k1 k2 k3 k4 o x : Int} {Q Q1 : World → Prop}
end
end Go.Proofs.YtllcakiomihipaaGreatDoor
namespace Go.Proofs.YtllcakiomihipaaGreatDoor
open Go.ChangeShapes Go.WideShapes Go.ChangeAt Go.RowKit
set_option linter.unusedVariables false
set_option linter.unusedSimpArgs false
/-- A row with another key. -/
def uK (f : Nat → Value) (i : Nat) (m0 m1 m2 m3 m4 : Int) : Nat → Value := uF (uF (uF (uF (uF f i (.int .i64 m0)) (i + 1) (.int .i64 m1)) (i + 2) (.int .i64 m2)) (i + 3) (.int .i64 m3)) (i + 4) (.int .u32 m4)
section
variable {cs nt : List Value} {s d q N : Nat} {k0 k1 k2 k3 k4 o x : Int} {m0 m1 m2 m3 m4 n0 n1 n2 n3 n4 : Int} {Q Q1 : World → Prop}
end
end Go.Proofs.YtllcakiomihipaaGreatDoor
namespace Go.Proofs.YtllcakiomihipaaGreatDoor
open Go.ChangeShapes Go.WideShapes Go.ChangeAt Go.RowKit
set_option linter.unusedVariables false
set_option linter.unusedSimpArgs false
section
variable {cs nt : List Value} {s d q N : Nat} {k0 k1 k2 k3 k4 o x : Int} {m0 m1 m2 m3 m4 p0 p1 p2 p3 p4 : Int}
end
end Go.Proofs.YtllcakiomihipaaGreatDoor
namespace Go.Proofs.YtllcakiomihipaaGreatDoor
open Go.ChangeShapes Go.WideShapes Go.ChangeAt Go.RowKit
set_option linter.unusedVariables false
set_option linter.unusedSimpArgs false
section
variable {cs nt : List Value} {s d N : Nat} {k0 k1 k2 k3 k4 o x : Int} {Q : World → Prop}
end
end Go.Proofs.YtllcakiomihipaaGreatDoor
namespace Go.Proofs.YtllcakiomihipaaGreatDoor
open Go.ChangeShapes Go.WideShapes Go.ChangeAt Go.RowKit
set_option linter.unusedVariables false
set_option linter.unusedSimpArgs false
section
variable {cs : List Value} {s d : Nat} {k0 k1 k2 k3 k4 o x : Int}
end
end Go.Proofs.YtllcakiomihipaaGreatDoor
namespace Go.Proofs.YtllcakiomihipaaGreatDoor
open Go.ChangeShapes Go.WideShapes Go.ChangeAt Go.RowKit
set_option linter.unusedVariables false
set_option linter.unusedSimpArgs false
end Go.Proofs.YtllcakiomihipaaGreatDoor
namespace Go.Proofs.YtllcakiomihipaaGreatDoor
open Go.ChangeShapes Go.WideShapes Go.ChangeAt Go.RowKit
set_option linter.unusedVariables false
set_option linter.unusedSimpArgs false
def kM (m0 m1 m2 m3 m4 : Int) : Nat → Int := fun j => if j = 0 then m0 else if j = 1 then m1 else if j = 2 then m2 else if j = 3 then m3 else m4
/-- A domain's row: a key in register r, a place, a state, a fault. -/
def fR (r : Nat) (m0 m1 m2 m3 m4 : Int) (pc st ft : Int) : Nat → Value := fun j => if j = 8 then .int .u32 pc else if j = 9 then .int .i64 st else if j = 10 then .int .i64 ft else if 11 + r * 5 ≤ j ∧ j < 11 + r * 5 + 5 then kval (j - (11 + r * 5)) (kM m0 m1 m2 m3 m4 (j - (11 + r * 5))) else zd1 j
section
variable (r : Nat) (m0 m1 m2 m3 m4 : Int) (pc st ft : Int)
theorem fR_106 (hr : r < 16) : fR r m0 m1 m2 m3 m4 pc st ft 106 = .int .i64 0 := by
  unfold fR
  rw [if_neg (by decide), if_neg (by decide), if_neg (by decide), if_neg (by omega)]; rfl
theorem kval_oneY (j : Nat) (x : Int) : (kval j x).oneCell' = true := by unfold kval; split <;> rfl
theorem fR_one (j : Nat) : (fR r m0 m1 m2 m3 m4 pc st ft j).oneCell' = true := by
  unfold fR
  split
  · rfl
  · split
    · rfl
    · split
      · rfl
      · split
        · exact kval_oneY _ _
        · exact zd1_one j
theorem fR_key (i : Nat) (hi : i < 5) : fR r m0 m1 m2 m3 m4 pc st ft (11 + r * 5 + i) = kval i (kM m0 m1 m2 m3 m4 i) := by
  unfold fR
  rw [if_neg (by omega), if_neg (by omega), if_neg (by omega), if_pos (by omega), show 11 + r * 5 + i - (11 + r * 5) = i by omega]
theorem fR_keys (hr : r < 16) : KeysIn (fR r m0 m1 m2 m3 m4 pc st ft) (fun q j => if q = r then kM m0 m1 m2 m3 m4 j else 0) := fun q j hq hj => by
  show _ = kval j (if q = r then kM m0 m1 m2 m3 m4 j else 0)
  by_cases e : q = r
  · subst e
    rw [if_pos rfl, ← Nat.add_assoc]
    exact fR_key q m0 m1 m2 m3 m4 pc st ft j hj
  · rw [if_neg e]
    have h := fX_keys 1 0 q j hq hj
    rw [fX_zd1] at h
    unfold fR
    rw [if_neg (by omega), if_neg (by omega), if_neg (by omega), if_neg (by omega)]
    exact h
theorem fR_right (hm : rightB m0 m1 m2 m3 m4 = true) : ∀ q, q < 19 → KRight (fun q j => if q = r then kM m0 m1 m2 m3 m4 j else 0) q := fun q hq => by
  unfold KRight
  by_cases e : q = r
  · simp only [e, if_true]; exact hm
  · simp only [e, if_false]; decide
end
end Go.Proofs.YtllcakiomihipaaGreatDoor
namespace Go.Proofs.YtllcakiomihipaaGreatDoor
open Go.ChangeShapes Go.WideShapes Go.ChangeAt Go.RowKit
set_option linter.unusedVariables false
set_option linter.unusedSimpArgs false
/-- One bank, one domain, its row. -/
structure DF (D : BSt) (f : Nat → Value) : Prop where
  nt : D.nt = fun _ => false
  pt : D.pt = fun _ => false
  nb : D.nb = 1
  dt : D.dt = upd (fun _ => false) 0 true
  dv : D.dv = fun _ => 0
  row : ∀ j, j < 107 → D.dW 0 j = f j
def DS (w0 W : World) (L : BLoc) (X : SLoc) (f : Nat → Value) : Prop := ∃ D, SJ w0 W L X D ∧ DF D f
section
variable {w0 w w' : World} {L : BLoc} {X : SLoc} {f g : Nat → Value}
theorem DS.below (h : DS w0 w L X f) (hb : Below w.heap.size w w') : DS w0 w' L X f := by obtain ⟨D, h1, h2⟩ := h; exact ⟨D, h1.below hb, h2⟩
theorem DS.get (h : DS w0 w L X f) (hn : 0 < L.dn) (hf : Hid (∀ j, j < 107 → (f j).oneCell' = true)) : Calls Tryz.prog 10 #[.pointer (some ⟨L.dP, 0, none⟩), .int .i64 0] w fun e w' => e = .returned (.tuple #[.agg (rowL f).toArray, .bool true]) ∧ Below w.heap.size w w' := by
  obtain ⟨D, h1, h2⟩ := h
  exact dget_ok 0 0 (Lib.hid rfl) hn (Lib.hid (by rw [h2.dt]; rfl)) f (Lib.hid h2.row) hf w h1.k.d
theorem DS.put (h : DS w0 w L X f) (hn : 0 < L.dn) (r : Nat) (hr : r < 16) (m0 m1 m2 m3 m4 : Int) (pc st ft : Int) (hm : rightB m0 m1 m2 m3 m4 = true) (s1 : 1 ≤ st) (s2 : st ≤ 4) (t1 : 0 ≤ ft) (t2 : ft ≤ 6) (vs vr : Value) (hE : ErrsAt vs vr w) :
    Calls Tryz.prog 11 #[.pointer (some ⟨L.dP, 0, none⟩), .int .i64 0, .agg (rowL (fR r m0 m1 m2 m3 m4 pc st ft)).toArray] w fun e w' => e = .returned .nilIface ∧ DS w0 w' L X (fR r m0 m1 m2 m3 m4 pc st ft) ∧ PBelow w w' L.dR L.dG := by
  obtain ⟨D, h1, h2⟩ := h
  refine (dput_ok 0 0 (Lib.hid rfl) hn (Lib.hid (by rw [h2.dt]; rfl)) (fR r m0 m1 m2 m3 m4 pc st ft) _ (Lib.hid (fun j _ => fR_one r m0 m1 m2 m3 m4 pc st ft j)) (Lib.hid (fR_keys r m0 m1 m2 m3 m4 pc st ft hr)) (Lib.hid (fR_right r m0 m1 m2 m3 m4 hm)) st ft 0 (Lib.hid ⟨rfl, rfl, fR_106 r m0 m1 m2 m3 m4 pc st ft hr⟩) s1 s2 t1 t2 (by decide) (by decide) vs vr w hE h1.k.d).mono ?_
  rintro e w' ⟨he, hd, hb⟩
  have hdm := h1.k.db
  have hT := h1.k.tt
  have hw := h1.k.tw
  refine ⟨he, ⟨_, h1.step (h1.k.doms hd hb) ⟨UpT.pb hb (T := L.T) (by omega) (by omega), fun k _ _ n1 n2 hk => hb.2.2.2.2 k hk n1 n2⟩, ⟨h2.nt, h2.pt, h2.nb, h2.dt, h2.dv, fun j hj => updS_row _ 0 j _ hj⟩⟩, hb⟩
end
end Go.Proofs.YtllcakiomihipaaGreatDoor
namespace Go.Proofs.YtllcakiomihipaaGreatDoor.V
open Go.ChangeShapes Go.WideShapes Go.ChangeAt Go.RowKit Go.Maps
set_option linter.unusedVariables false
set_option linter.unusedSimpArgs false
theorem own_same {w w' : World} {B E s n : Nat} {v : Value} {xs : List Value} (h : w.ownsRow B E s v n xs) (hb : ∀ g, v.ownBlock = some g → w'.heap[g]? = w.heap[g]?) : w'.ownsRow B E s v n xs := by
  refine ⟨h.1, ?_⟩
  rcases h.2 with hn | ⟨g, cap, cur, rfl, hB, hg, rest⟩
  · exact .inl hn
  · exact .inr ⟨g, cap, cur, rfl, hB, (hb g rfl).trans hg, rest⟩
abbrev U1 : Value → Option (DataW Unit × List MemPlace) := unitElem (H := Unit)
theorem lawI : Keyed Tryz.prog 3 := int_keyed Tryz.underlying3
theorem zeroU (w : World) : (zeroValue 97).run Tryz.prog w = .ok (.agg #[]) w := by kernel_rfl
theorem infoInt : (Tryz.prog.info? 3).map (fun i => (i.zero, i.size, i.bytes)) = some (some (.int .i64 0), 1, 8) := by kernel_rfl
theorem eql_map (m : Option Nat) (w : World) : (binOp .eql 99 (.map m) (.map none)).run Tryz.prog w = .ok (.bool m.isNone) w := by
  simp only [binOp]
  simp [run_equal_map_nil w 99 3 97 m Tryz.underlying99]
abbrev kI (x : Int) : Lit := .int .i64 x
def wfI (x : Int) : Prop := (Lit.int .i64 x).wf = true
theorem wfI.key {x : Int} (h : wfI x) : keyOf Tryz.prog 3 (.int .i64 x) = some (kI x) := keyOf_int_mk Tryz.underlying3 h
theorem wfI.fit {a : Int} (h : wfI a) : -9223372036854775808 ≤ a ∧ a ≤ 9223372036854775807 := by
  unfold wfI at h
  simpa [Lit.wf, IntKind.min, IntKind.max, IntKind.signed, IntKind.bits] using h
theorem wfI.mk {a : Int} (h1 : -9223372036854775808 ≤ a) (h2 : a ≤ 9223372036854775807) : wfI a := WalkArith.wf_i64 ⟨h1, h2⟩
theorem addr_ne0 (q o : Nat) : (⟨q, o, none⟩ : Addr) ≠ ⟨q, o + 1, none⟩ := by simp
theorem addr_ne1 (q o : Nat) : (⟨q, o + 1, none⟩ : Addr) ≠ ⟨q, o, none⟩ := by simp
theorem addr_ne (q : Nat) {i j : Nat} (h : j ≠ i) : (⟨q, i, none⟩ : Addr) ≠ ⟨q, j, none⟩ := by simp [Ne.symm h]
theorem cs_same {w : World} {a : Addr} {u v : Value} (h : w.cell? a = some u) : (w.setCell a v).cell? a = some v := World.cell?_setCell_same _ _ _ h
theorem cs_other {w : World} {a b : Addr} {v : Value} (h : a ≠ b) : (w.setCell a v).cell? b = w.cell? b := World.cell?_setCell_other _ _ _ _ h
theorem fz_set {w : World} {a b : Addr} {v : Value} : (w.setCell a v).frozen? b = w.frozen? b := World.frozen?_setCell _ _ _ _
/-- A queue lies at block q, from o on: the row v of its numbers l, the map at block M that has just those. -/
structure VM (w : World) (base q o b : Nat) (l : List Int) (v : Value) (M : Nat) (D : DataW Unit) : Prop where
  c0 : w.cell? ⟨q, o, none⟩ = some v
  c1 : w.cell? ⟨q, o + 1, none⟩ = some (.map (some M))
  f0 : w.frozen? ⟨q, o, none⟩ = false
  f1 : w.frozen? ⟨q, o + 1, none⟩ = false
  row : w.ownsRow base 3 1 v l.length (l.map (Value.int .i64))
  qv : v.ownBlock ≠ some q
  mp : w.ownsMap Tryz.prog 3 U1 M b D
  mb : base ≤ M
  has : ∀ x, Maps.has D (kI x) = l.contains x
  nd : l.Nodup
  vals : ∀ x ∈ l, wfI x
/-- The blocks of a queue. -/
def SM (q : Nat) (v : Value) (M : Nat) : Nat → Prop := fun k => k = q ∨ v.ownBlock = some k ∨ k = M
def SN (q : Nat) : Nat → Prop := fun k => k = q
/-- What changed is of the queue's blocks alone (of the first, its two cells alone), and so is what is the queue's now, but for what is new. -/
structure VFr (q o : Nat) (w w' : World) (S S' : Nat → Prop) : Prop where
  os : w'.os = w.os
  tape : w'.tape = w.tape
  output : w'.output = w.output
  size : w.heap.size ≤ w'.heap.size
  block : ∀ k, k < w.heap.size → ¬ S k → w'.heap[k]? = w.heap[k]? ∧ ¬ S' k
  rest : ∀ j, j ≠ o → j ≠ o + 1 → w'.cell? ⟨q, j, none⟩ = w.cell? ⟨q, j, none⟩ ∧ w'.frozen? ⟨q, j, none⟩ = w.frozen? ⟨q, j, none⟩
section
variable {w w' w'' : World} {S S' S'' : Nat → Prop} {base q o b M : Nat} {l : List Int} {v : Value} {D : DataW Unit}
theorem same_cells (h : w'.heap[q]? = w.heap[q]?) (j : Nat) : w'.cell? ⟨q, j, none⟩ = w.cell? ⟨q, j, none⟩ ∧ w'.frozen? ⟨q, j, none⟩ = w.frozen? ⟨q, j, none⟩ := ⟨World.cell?_of_block (a := ⟨q, j, none⟩) h, World.frozen?_of_block (a := ⟨q, j, none⟩) h⟩
theorem VFr.refl (w : World) (S : Nat → Prop) : VFr q o w w S S := ⟨rfl, rfl, rfl, Nat.le_refl _, fun _ _ h => ⟨rfl, h⟩, fun _ _ _ => ⟨rfl, rfl⟩⟩
theorem VFr.trans (h : VFr q o w w' S S') (h2 : VFr q o w' w'' S' S'') : VFr q o w w'' S S'' :=
  ⟨h2.os.trans h.os, h2.tape.trans h.tape, h2.output.trans h.output, Nat.le_trans h.size h2.size, fun k hk hn => by
    have a := h.block k hk hn
    have c := h2.block k (Nat.lt_of_lt_of_le hk h.size) a.2
    exact ⟨c.1.trans a.1, c.2⟩, fun j h1 h3 => ⟨(h2.rest j h1 h3).1.trans (h.rest j h1 h3).1, (h2.rest j h1 h3).2.trans (h.rest j h1 h3).2⟩⟩
theorem VFr.of_below (h : Below w.heap.size w w') (hq : q < w.heap.size) (S : Nat → Prop) : VFr q o w w' S S := ⟨h.os, h.tape, h.output, h.size, fun k hk hn => ⟨h.block k hk, hn⟩, fun j _ _ => same_cells (h.block q hq) j⟩
theorem VFr.of_grown {g : Nat} (h : w.grownBy w' (some g)) (hS : S g) (hq : q < w.heap.size) (hg : g ≠ q) : VFr q o w w' S S := ⟨h.os, h.tape, h.output, h.size, fun k hk hn => ⟨h.block k hk (fun e => hn (by injection e with e; rw [e]; exact hS)), hn⟩, fun j _ _ => same_cells (h.block q hq (fun e => hg (by injection e with e; exact e.symm))) j⟩
theorem VFr.of_grown' {r : Option Nat} (h : w.grownBy w' r) (hS : ∀ g, r = some g → S g) (hq : q < w.heap.size) (hg : r ≠ some q) : VFr q o w w' S S := ⟨h.os, h.tape, h.output, h.size, fun k hk hn => ⟨h.block k hk (fun e => hn (hS k e.symm)), hn⟩, fun j _ _ => same_cells (h.block q hq (fun e => hg e.symm)) j⟩
theorem VFr.of_set (w : World) (q o j : Nat) (u : Value) (hj : j = o ∨ j = o + 1) (S : Nat → Prop) (hS : S q) : VFr q o w (w.setCell ⟨q, j, none⟩ u) S S :=
  ⟨rfl, rfl, rfl, by simp, fun k hk hn => ⟨Below.heap_setCell _ _ _ _ (fun e => hn (by rw [show k = q from by simpa using e]; exact hS)), hn⟩, fun i h1 h2 => ⟨cs_other (addr_ne q (by omega)), fz_set⟩⟩
theorem VFr.turn (h : VFr q o w w' S S') (h2 : ∀ k, k < w.heap.size → ¬ S k → ¬ S'' k) : VFr q o w w' S S'' := ⟨h.os, h.tape, h.output, h.size, fun k hk hn => ⟨(h.block k hk hn).1, h2 k hk hn⟩, h.rest⟩
theorem VM.lt (h : VM w base q o b l v M D) : q < w.heap.size := World.block_lt_of_cell? w _ h.c0
theorem VM.mq (h : VM w base q o b l v M D) : M ≠ q := by
  intro e
  obtain ⟨es, cl, hm, _⟩ := h.mp
  have hc := h.c0
  rw [e] at hm
  simp [World.cell?, hm] at hc
theorem VM.mv (h : VM w base q o b l v M D) : v.ownBlock ≠ some M := by
  intro e
  obtain ⟨es, cl, hm, _⟩ := h.mp
  rcases h.row.2 with ⟨rfl, _⟩ | ⟨g, cap, cur, rfl, hB, hg, rest⟩
  · cases e
  · simp [Value.ownBlock] at e
    rw [e, hm] at hg
    cases hg
theorem VM.lo (h : VM w base q o b l v M D) : ∀ k, SM q v M k → k = q ∨ base ≤ k := by
  intro k hk
  rcases hk with rfl | hk | rfl
  · exact .inl rfl
  · exact .inr (h.row.lt k hk).1
  · exact .inr h.mb
theorem VM.hi (h : VM w base q o b l v M D) : ∀ k, SM q v M k → k < w.heap.size := by
  intro k hk
  rcases hk with rfl | hk | rfl
  · exact h.lt
  · exact (h.row.lt k hk).2
  · exact h.mp.lt
/-- A queue of whose cells nothing has changed. -/
theorem VM.same (h : VM w base q o b l v M D) (h0 : ∀ j, j = o ∨ j = o + 1 → w'.cell? ⟨q, j, none⟩ = w.cell? ⟨q, j, none⟩ ∧ w'.frozen? ⟨q, j, none⟩ = w.frozen? ⟨q, j, none⟩) (hb : ∀ k, SM q v M k → k ≠ q → w'.heap[k]? = w.heap[k]?) : VM w' base q o b l v M D := by
  refine ⟨(h0 o (.inl rfl)).1.trans h.c0, (h0 _ (.inr rfl)).1.trans h.c1, (h0 o (.inl rfl)).2.trans h.f0, (h0 _ (.inr rfl)).2.trans h.f1, own_same h.row (fun g hg => hb g (.inr (.inl hg)) (fun e => h.qv (by rw [← e]; exact hg))), h.qv, ?_, h.mb, h.has, h.nd, h.vals⟩
  obtain ⟨es, cl, hm, r⟩ := h.mp
  exact ⟨es, cl, (hb M (.inr (.inr rfl)) h.mq).trans hm, r⟩
theorem VM.below (h : VM w base q o b l v M D) (hb : Below w.heap.size w w') : VM w' base q o b l v M D := h.same (fun j _ => same_cells (hb.block q h.lt) j) fun k hk _ => hb.block k (h.hi k hk)
theorem VM.more (h : VM w base q o b l v M D) {b' : Nat} (hb : b ≤ b') : VM w base q o b' l v M D := ⟨h.c0, h.c1, h.f0, h.f1, h.row, h.qv, h.mp.mono hb, h.mb, h.has, h.nd, h.vals⟩
/-- An empty queue, as it is laid. -/
structure VN (w : World) (q o : Nat) : Prop where
  c0 : w.cell? ⟨q, o, none⟩ = some (.slice none 0 0)
  c1 : w.cell? ⟨q, o + 1, none⟩ = some (.map none)
  f0 : w.frozen? ⟨q, o, none⟩ = false
  f1 : w.frozen? ⟨q, o + 1, none⟩ = false
theorem VN.lt (h : VN w q o) : q < w.heap.size := World.block_lt_of_cell? w _ h.c0
theorem VN.same (h : VN w q o) (h0 : ∀ j, j = o ∨ j = o + 1 → w'.cell? ⟨q, j, none⟩ = w.cell? ⟨q, j, none⟩ ∧ w'.frozen? ⟨q, j, none⟩ = w.frozen? ⟨q, j, none⟩) : VN w' q o :=
  ⟨(h0 o (.inl rfl)).1.trans h.c0, (h0 _ (.inr rfl)).1.trans h.c1, (h0 o (.inl rfl)).2.trans h.f0, (h0 _ (.inr rfl)).2.trans h.f1⟩
theorem VM.made (w : World) (h : VN w q o) (hs : base ≤ w.heap.size) :
    VM ((w.alloc (.map #[] 0)).setCell ⟨q, o + 1, none⟩ (.map (some w.heap.size))) base q o 0 [] (.slice none 0 0) w.heap.size (.map []) ∧ VFr q o w ((w.alloc (.map #[] 0)).setCell ⟨q, o + 1, none⟩ (.map (some w.heap.size))) (SN q) (SM q (.slice none 0 0) w.heap.size) := by
  have hlt := h.lt
  have hb : Below w.heap.size w (w.alloc (.map #[] 0)) := (Below.refl _ _).alloc (Nat.le_refl _) _
  have h1 := h.same (fun j _ => same_cells (hb.block q hlt) j)
  refine ⟨⟨(cs_other (addr_ne1 q o)).trans h1.c0, cs_same h1.c1, fz_set.trans h1.f0, fz_set.trans h1.f1, World.ownsRow_nil _ _ _ _, by simp [Value.ownBlock], (World.ownsMap_made w _ _ _).setCell (by simp; omega) _, hs, fun x => by simp [Maps.has], List.nodup_nil, by simp⟩, ?_⟩
  refine ((VFr.of_below hb hlt (SN q)).trans (VFr.of_set _ q o (o + 1) _ (.inr rfl) (SN q) rfl)).turn fun k hk hn => ?_
  rintro (e | e | e)
  · exact hn e
  · cases e
  · omega
end
/-- Brought to the end, each that is not there. -/
def putAll (l ms : List Int) : List Int := ms.foldl (fun l x => if l.contains x then l else l ++ [x]) l
theorem putAll_snoc (l ms : List Int) (x : Int) : putAll l (ms ++ [x]) = if (putAll l ms).contains x then putAll l ms else putAll l ms ++ [x] := by
  unfold putAll
  rw [List.foldl_append]
  rfl
theorem putAll_len (l ms : List Int) : l.length ≤ (putAll l ms).length ∧ (putAll l ms).length ≤ l.length + ms.length := by
  induction ms generalizing l with
  | nil => exact ⟨Nat.le_refl _, Nat.le_refl _⟩
  | cons x ms ih =>
    have e : putAll l (x :: ms) = putAll (if l.contains x then l else l ++ [x]) ms := rfl
    rw [e]
    by_cases hc : l.contains x = true
    · rw [if_pos hc]
      have := ih l
      rw [List.length_cons]
      omega
    · rw [if_neg hc]
      have := ih (l ++ [x])
      rw [List.length_append] at this
      simp only [List.length_cons, List.length_nil] at this ⊢
      omega
theorem take_succ' (xs : List Int) (k : Nat) (h : k < xs.length) : xs.take (k + 1) = xs.take k ++ [xs.getD k 0] := by
  rw [List.take_succ_eq_append_getElem h]
  simp [List.getD, h]
section
variable {w w1 w2 w3 : World} {base q o b M : Nat} {l : List Int} {v v2 : Value} {D : DataW Unit}
theorem isKey (x : Int) : WideAt.IsKeyLit (kI x) := by trivial
/-- The queue's own cells, two writes apart from them on. -/
theorem VM.mid {ob : Obj} (h : VM w base q o b l v M D) (hg : w.grownBy w2 (some M)) (hg3 : (w2.alloc ob).grownBy w3 v.ownBlock) : w3.heap[q]? = w.heap[q]? := by
  have s0 := h.lt
  have s1 := hg.size
  exact (hg3.block q (by simp; omega) (fun e => h.qv e.symm)).trans ((Below.heap_alloc _ _ _ (by omega)).trans (hg.block q s0 (fun e => h.mq (by injection e with e; exact e.symm))))
/-- One more number at the end. -/
theorem VM.put (h : VM w base q o b l v M D) (x : Int) (hx : wfI x) (hin : l.contains x = false) (ob : Obj)
    (hm : w2.ownsMap Tryz.prog 3 U1 M (b + 1) (D.put (kI x) (.agg []))) (hg : w.grownBy w2 (some M))
    (hrow : w3.ownsRow base 3 1 v2 (l.length + 1) (l.map (Value.int .i64) ++ [.int .i64 x])) (hg3 : (w2.alloc ob).grownBy w3 v.ownBlock) (hloc : v2.ownBlock = v.ownBlock ∨ v2.ownBlock = some (w2.alloc ob).heap.size) :
    VM (w3.setCell ⟨q, o, none⟩ v2) base q o (b + 1) (l ++ [x]) v2 M (D.put (kI x) (.agg [])) ∧ VFr q o w (w3.setCell ⟨q, o, none⟩ v2) (SM q v M) (SM q v2 M) := by
  have s0 := h.lt
  have s1 := hg.size
  have s2 : (w2.alloc ob).heap.size = w2.heap.size + 1 := by simp
  have s3 := hg3.size
  have hmid := same_cells (h.mid hg hg3)
  have hM := hm.lt
  have hm3 : w3.ownsMap Tryz.prog 3 U1 M (b + 1) (D.put (kI x) (.agg [])) := (hm.alloc ob).kept hg3 (fun e => h.mv e.symm)
  have hv2q : v2.ownBlock ≠ some q := by
    rcases hloc with e | e
    · rw [e]; exact h.qv
    · rw [e]; intro e2; injection e2 with e2; omega
  refine ⟨⟨cs_same ((hmid o).1.trans h.c0), (cs_other (addr_ne0 q o)).trans ((hmid (o + 1)).1.trans h.c1), fz_set.trans ((hmid o).2.trans h.f0), fz_set.trans ((hmid (o + 1)).2.trans h.f1), ?_, hv2q, hm3.setCell h.mq _, h.mb, ?_, ?_, ?_⟩, ?_⟩
  · have := ownsRow_setCell_other hrow (a := ⟨q, o, none⟩) hv2q v2
    simpa using this
  · intro y
    by_cases e : y = x
    · subst e
      rw [Maps.has_put_same h.mp.isMap (isKey y)]
      simp
    · rw [Maps.has_put_other (by simpa using e), h.has y]
      simp [e]
  · rw [List.nodup_append]
    refine ⟨h.nd, by simp, fun a ha b hb => ?_⟩
    simp at hb hin
    rw [hb]
    exact fun e => hin (e ▸ ha)
  · intro y hy
    rcases List.mem_append.1 hy with hy | hy
    · exact h.vals y hy
    · simp at hy
      rw [hy]
      exact hx
  · have f1 : VFr q o w w2 (SM q v M) (SM q v M) := VFr.of_grown hg (.inr (.inr rfl)) s0 h.mq
    have f2 : VFr q o w2 (w2.alloc ob) (SM q v M) (SM q v M) := VFr.of_below ((Below.refl _ _).alloc (Nat.le_refl _) _) (by omega) _
    have f3 : VFr q o (w2.alloc ob) w3 (SM q v M) (SM q v M) := VFr.of_grown' hg3 (fun g e => .inr (.inl e)) (by omega) h.qv
    have f4 : VFr q o w3 (w3.setCell ⟨q, o, none⟩ v2) (SM q v M) (SM q v M) := VFr.of_set w3 q o o v2 (.inl rfl) _ (.inl rfl)
    refine (((f1.trans f2).trans f3).trans f4).turn fun k hk hn => ?_
    rintro (e | e | e)
    · exact hn (.inl e)
    · rcases hloc with e2 | e2
      · exact hn (.inr (.inl (e2 ▸ e)))
      · rw [e2] at e
        injection e with e
        omega
    · exact hn (.inr (.inr e))
end
end Go.Proofs.YtllcakiomihipaaGreatDoor.V
namespace Go.Proofs.YtllcakiomihipaaGreatDoor.V
open Go.ChangeShapes Go.WideShapes Go.ChangeAt Go.RowKit Go.Maps
set_option linter.unusedVariables false
theorem qhas_m {base q o b M : Nat} {l : List Int} {v : Value} {D : DataW Unit} (x : Int) (hx : wfI x) (t : Bool) (ht : Hid (l.contains x = t)) (w : World) (h : VM w base q o b l v M D) :
    Calls Tryz.prog 17 #[.pointer (some ⟨q, o, none⟩), .int .i64 x] w fun e w' => e = .returned (.bool t) ∧ Below w.heap.size w w' := by
  have HT : Hid (Maps.has D (kI x) = t) := Lib.hid (by rw [h.has x]; exact ht.out)
  have H := Lib.hid h
  have c1 := h.c1
  have hkey := hx.key
  clear h ht
  go_enter Tryz.func17, Tryz.ntmps17
  go_wp2_with (first | (at_lookup; refine wpList_lookup_own_unit _ rfl _ _ 99 rfl 3 97 lawI Tryz.underlying99 (zeroU _) M b D rfl H.out.mp _ _ rfl hkey ?_; rw [HT.out]))
  go_ret
  exact ⟨rfl, (Below.refl _ _).alloc (Nat.le_refl _) _⟩
theorem qhas_n {q o : Nat} (x : Int) (hx : wfI x) (w : World) (hc : w.cell? ⟨q, o + 1, none⟩ = some (.map none)) :
    Calls Tryz.prog 17 #[.pointer (some ⟨q, o, none⟩), .int .i64 x] w fun e w' => e = .returned (.bool false) ∧ Below w.heap.size w w' := by
  have hl := fun W : World => Maps.look_nil (w := W) true lawI Tryz.underlying99 (zeroU W) hx.key
  simp only [if_true] at hl
  go_enter Tryz.func17, Tryz.ntmps17
  go_wp2
  go_ret
  exact ⟨rfl, (Below.refl _ _).alloc (Nat.le_refl _) _⟩
theorem qlen_is {q o n c : Nat} {a : Option Addr} (w : World) (hc : w.cell? ⟨q, o, none⟩ = some (.slice a n c)) :
    Calls Tryz.prog 25 #[.pointer (some ⟨q, o, none⟩)] w fun e w' => e = .returned (.int .i64 n) ∧ w = w' := by
  go_enter Tryz.func25, Tryz.ntmps25
  go_wp2
  go_ret
  exact ⟨rfl, rfl⟩
/-- Numbers in a row, apart from a queue. -/
structure Src (w : World) (a : Option Addr) (zs : List Int) (S : Nat → Prop) : Prop where
  vals : ∀ x ∈ zs, wfI x
  src : zs ≠ [] → ∃ ad, a = some ad ∧ ad.block < w.heap.size ∧ ¬ S ad.block ∧ ∀ i, i < zs.length → w.cell? (ad.add i) = some (.int .i64 (zs.getD i 0))
theorem add_block' (ad : Addr) (n : Nat) : (ad.add n).block = ad.block := by unfold Addr.add; split <;> rfl
theorem Src.kept {q o : Nat} {w w' : World} {a : Option Addr} {zs : List Int} {S S' : Nat → Prop} (h : Src w a zs S) (hf : VFr q o w w' S S') : Src w' a zs S' := by
  refine ⟨h.vals, fun hz => ?_⟩
  obtain ⟨ad, h1, h2, h3, h4⟩ := h.src hz
  have := hf.block _ h2 h3
  exact ⟨ad, h1, Nat.lt_of_lt_of_le h2 hf.size, this.2, fun i hi => (World.cell?_of_block (by rw [add_block']; exact this.1)).trans (h4 i hi)⟩
theorem ret_i64 {a b : Int} (h : a = b) : Ending.returned (.int .i64 a) = .returned (.int .i64 b) := by rw [h]
theorem cnt_step (a b c : Nat) (h : c = a + 1) : Value.int .i64 ((a : Int) - b + 1) = .int .i64 ((c : Int) - b) := by
  rw [h]
  congr 1
  omega
theorem VM.mid3 {w w2 w3 : World} {base q o b M : Nat} {l : List Int} {v : Value} {D : DataW Unit} {ob : Obj} (h : VM w base q o b l v M D) (hg : w.grownBy w2 (some M)) (hg3 : (w2.alloc ob).grownBy w3 v.ownBlock) : w3.cell? ⟨q, o, none⟩ = some v ∧ w3.frozen? ⟨q, o, none⟩ = false :=
  ⟨(same_cells (h.mid hg hg3) o).1.trans h.c0, (same_cells (h.mid hg hg3) o).2.trans h.f0⟩
theorem owns_slice {w : World} {B E s n : Nat} {v : Value} {xs : List Value} (h : w.ownsRow B E s v n xs) (hn : 0 < n) : ∃ g c, v = .slice (some ⟨g, 0, none⟩) n c := by
  rcases h.2 with ⟨_, h0⟩ | ⟨g, cap, cur, rfl, _⟩
  · omega
  · exact ⟨g, cap, rfl⟩
/-- The round's state of Put. -/
def PutR (w : World) (base q o b m : Nat) (l zs : List Int) (v : Value) (M : Nat) (c i : Value) (wr : World) : Prop :=
  ∃ (k : Nat) (l' : List Int) (v' : Value) (D' : DataW Unit), k ≤ m ∧ i = .int .i64 k ∧ l' = putAll l (zs.take k) ∧ c = .int .i64 ((l'.length : Int) - l.length) ∧ VM wr base q o (b + k) l' v' M D' ∧ VFr q o w wr (SM q v M) (SM q v' M)
/-- A queue, empty as it is laid or not; its blocks. -/
def VI (w : World) (base q o b : Nat) (l : List Int) (S : Nat → Prop) : Prop :=
  (VN w q o ∧ l = [] ∧ S = SN q) ∨ ∃ v M D, VM w base q o b l v M D ∧ S = SM q v M
section
variable {w w' : World} {base q o b : Nat} {l : List Int} {S : Nat → Prop}
theorem VI.lo (h : VI w base q o b l S) : ∀ k, S k → k = q ∨ base ≤ k := by
  rcases h with ⟨h1, h2, rfl⟩ | ⟨v, M, D, h, rfl⟩
  · exact fun k hk => .inl hk
  · exact h.lo
theorem VI.lt (h : VI w base q o b l S) : q < w.heap.size := by
  rcases h with ⟨h1, h2, rfl⟩ | ⟨v, M, D, h, rfl⟩
  · exact h1.lt
  · exact h.lt
theorem VI.hi (h : VI w base q o b l S) : ∀ k, S k → k < w.heap.size := by
  rcases h with ⟨h1, h2, rfl⟩ | ⟨v, M, D, h, rfl⟩
  · intro k hk
    rw [show k = q from hk]
    exact h1.lt
  · exact h.hi
theorem VI.same (h : VI w base q o b l S) (h0 : ∀ j, j = o ∨ j = o + 1 → w'.cell? ⟨q, j, none⟩ = w.cell? ⟨q, j, none⟩ ∧ w'.frozen? ⟨q, j, none⟩ = w.frozen? ⟨q, j, none⟩) (hb : ∀ k, S k → k ≠ q → w'.heap[k]? = w.heap[k]?) : VI w' base q o b l S := by
  rcases h with ⟨h1, h2, rfl⟩ | ⟨v, M, D, h, rfl⟩
  · exact .inl ⟨h1.same h0, h2, rfl⟩
  · exact .inr ⟨v, M, D, h.same h0 hb, rfl⟩
theorem VI.below (h : VI w base q o b l S) (hb : Below w.heap.size w w') : VI w' base q o b l S := h.same (fun j _ => same_cells (hb.block q h.lt) j) fun k hk _ => hb.block k (h.hi k hk)
theorem VI.more {b' : Nat} (h : VI w base q o b l S) (hb : b ≤ b') : VI w base q o b' l S := by
  rcases h with ⟨h1, h2, rfl⟩ | ⟨v, M, D, h, rfl⟩
  · exact .inl ⟨h1, h2, rfl⟩
  · exact .inr ⟨v, M, D, h.more hb, rfl⟩
theorem VI.map (h : VI w base q o b l S) : ∃ mo, w.cell? ⟨q, o + 1, none⟩ = some (.map mo) ∧ ((mo = none ∧ VN w q o ∧ l = [] ∧ S = SN q) ∨ ∃ v M D, mo = some M ∧ VM w base q o b l v M D ∧ S = SM q v M) := by
  rcases h with ⟨h1, h2, rfl⟩ | ⟨v, M, D, h, rfl⟩
  · exact ⟨none, h1.c1, .inl ⟨rfl, h1, h2, rfl⟩⟩
  · exact ⟨some M, h.c1, .inr ⟨v, M, D, rfl, h, rfl⟩⟩
theorem VI.vals (h : VI w base q o b l S) : ∀ x ∈ l, wfI x := by
  rcases h with ⟨h1, rfl, rfl⟩ | ⟨v, M, D, h, rfl⟩
  · simp
  · exact h.vals
theorem VI.nd (h : VI w base q o b l S) : l.Nodup := by
  rcases h with ⟨h1, rfl, rfl⟩ | ⟨v, M, D, h, rfl⟩
  · exact List.nodup_nil
  · exact h.nd
theorem VI.row (h : VI w base q o b l S) : ∃ a c, w.cell? ⟨q, o, none⟩ = some (.slice a l.length c) ∧ w.ownsRow base 3 1 (.slice a l.length c) l.length (l.map (Value.int .i64)) ∧ (∀ ad, a = some ad → S ad.block) := by
  rcases h with ⟨h1, rfl, rfl⟩ | ⟨v, M, D, h, rfl⟩
  · exact ⟨none, 0, h1.c0, World.ownsRow_nil _ _ _ _, by simp⟩
  · have hr := h.row
    rcases h.row.2 with ⟨rfl, h0⟩ | ⟨g, cap, cur, rfl, _⟩
    · exact ⟨none, 0, by rw [h0]; exact h.c0, by rw [h0] at hr ⊢; exact hr, by simp⟩
    · exact ⟨some ⟨g, 0, none⟩, cap, h.c0, hr, fun ad e => by injection e with e; rw [← e]; exact .inr (.inl rfl)⟩
end
theorem qhas_is {base q o b : Nat} {l : List Int} {S : Nat → Prop} (x : Int) (hx : wfI x) (t : Bool) (ht : Hid (l.contains x = t)) (w : World) (h : VI w base q o b l S) :
    Calls Tryz.prog 17 #[.pointer (some ⟨q, o, none⟩), .int .i64 x] w fun e w' => e = .returned (.bool t) ∧ Below w.heap.size w w' := by
  rcases h with ⟨h1, rfl, rfl⟩ | ⟨v, M, D, h, rfl⟩
  · have e : t = false := by rw [← ht.out]; rfl
    rw [e]
    exact qhas_n x hx w h1.c1
  · exact qhas_m x hx t ht w h
set_option maxRecDepth 100000 in
set_option maxHeartbeats 8000000 in
theorem qput_is {base q o b : Nat} {l : List Int} {S : Nat → Prop} (a : Option Addr) (m c : Nat) (zs : List Int) (hm : Hid (zs.length = m)) (hz : m ≤ 100000) (hl : l.length ≤ 100000) (hb : b ≤ 100000) (r : Int) (hr : Hid (((putAll l zs).length : Int) - l.length = r)) (w : World) (h : VI w base q o b l S) (hs : Src w a zs S) (hB : base ≤ w.heap.size) :
    Calls Tryz.prog 63 #[.pointer (some ⟨q, o, none⟩), .slice a m c] w fun e w' => ∃ S', e = .returned (.int .i64 r) ∧ VI w' base q o (b + m) (putAll l zs) S' ∧ VFr q o w w' S S' := by
  obtain ⟨i0, hi, hz0, hz1, hz2⟩ := info_parts infoInt
  have HI := Lib.hid (⟨hi, hz0, hz1, hz2⟩ : Tryz.prog.info? 3 = some i0 ∧ i0.zero = some (.int .i64 0) ∧ i0.size = 1 ∧ i0.bytes = 8)
  obtain ⟨mo, c1, hcase⟩ := h.map
  have HC := Lib.hid hcase
  have HS := Lib.hid hs
  have hq : ∀ W : World, (binOp .eql 99 (.map mo) (.map none)).run Tryz.prog W = .ok (.bool mo.isNone) W := fun W => eql_map mo W
  have hmm := @run_makeMap Tryz.prog
  clear h hs hi hz0 hz1 hz2 hcase
  go_enter Tryz.func63, Tryz.ntmps63
  go_upto_if 12 with fail
  go_cut [] (fun wx => ∃ v M D, VM wx base q o b l v M D ∧ VFr q o w wx S (SM q v M))
  case first =>
    rcases HC.out with ⟨rfl, h1, rfl, rfl⟩ | ⟨v, M, D, rfl, h, rfl⟩
    · have h2 := h1.same (fun j _ => same_cells (((Below.refl w.heap.size w).alloc (Nat.le_refl _) (.map #[] 0)).block q h1.lt) j)
      have c2 := h2.c1
      have c3 := h2.f1
      have HM := Lib.hid (VM.made w h1 hB)
      clear h1 h2 c1 hq
      go_wp2_with fail
      go_meet
      exact ⟨_, _, _, HM.out.1.more (Nat.zero_le _), HM.out.2⟩
    · have H := Lib.hid h
      clear h hq
      go_wp2_with fail
      go_meet
      exact ⟨v, M, D, H.out, VFr.refl _ _⟩
  case rest =>
    obtain ⟨v, M, D, hQ0, hF0⟩ := hcut
    have H := Lib.hid hQ0
    have HF0 := Lib.hid hF0
    have HB0 := Lib.hid (show base ≤ wc.heap.size from Nat.le_trans hB hF0.size)
    have HS2 := Lib.hid (HS.out.kept hF0)
    clear hQ0 hF0 hq HS hB c1
    go_wp2_with fail
    go_loopw [5, 19] (fun c i wr => PutR wc base q o b m l zs v M c i wr) (fun _ i _ => m - (intOf i).toNat)
    case atStart => exact ⟨0, l, v, D, by omega, rfl, rfl, by simp, H.out, VFr.refl _ _⟩
    case round =>
      obtain ⟨k, l', v', D', hk, rfl, hl', rfl, hQ, hF⟩ := hrel
      have HQ := Lib.hid hQ
      have HF := Lib.hid hF
      have HL := Lib.hid hl'
      have hle : l.length ≤ l'.length ∧ l'.length ≤ l.length + k := by
        rw [hl']
        have := putAll_len l (zs.take k)
        have e : (zs.take k).length ≤ k := List.length_take_le _ _
        omega
      obtain ⟨hle1, hle2⟩ := hle
      clear hl' hQ hF
      by_cases hlt : k < m
      · have hkz : k < zs.length := by rw [hm.out]; exact hlt
        obtain ⟨ad, had, hb1, hb2, hc⟩ := (HS2.out.kept HF.out).src (by intro e; rw [e] at hkz; simp at hkz)
        have hcell := hc k hkz
        have hx : wfI (zs.getD k 0) := HS2.out.vals _ (by simp [List.getD, hkz])
        have HX : Hid (zs.take (k + 1) = zs.take k ++ [zs.getD k 0]) := Lib.hid (take_succ' zs k hkz)
        subst had
        generalize zs.getD k 0 = x at hcell hx HX
        have k0 : (0 : Int) ≤ k := by omega
        clear hc hb1 hb2 hkz
        have hx1 := hx.fit.1
        have hx2 := hx.fit.2
        cases hin : l'.contains x
        · have HIn := Lib.hid hin
          have hkey := hx.key
          clear hin
          go_wp2_with (first
            | (go_at_call 17; (with_reducible refine (qhas_m x hx false HIn _ HQ.out).mono ?_); rintro e w1 ⟨rfl, hb⟩; have HQ1 := Lib.hid (HQ.out.below hb); have HF1 := Lib.hid (HF.out.trans (VFr.of_below hb HQ.out.lt _)); have hc1 := HQ1.out.c1; clear hb)
            | (at_mapUpdate; refine wpList_mapUpdate_own _ rfl _ _ _ 99 rfl 3 97 lawI Tryz.underlying99 U1 M (b + k) D' rfl HQ1.out.mp (by unfold maxLen; omega) _ _ _ rfl rfl hkey _ [] unitElem_mk ?_; intro w2 hown1 hgrow1; have HM := Lib.hid hown1; have HG := Lib.hid hgrow1; have hc0 := (World.cell?_of_block (a := ⟨q, o, none⟩) (hgrow1.block q HQ1.out.lt (fun e => HQ1.out.mq (by injection e with e; exact e.symm)))).trans HQ1.out.c0; have HR := Lib.hid (HQ1.out.row.kept hgrow1 (.inr HQ1.out.mv)); have HB2 := Lib.hid (show base ≤ w2.heap.size from Nat.le_trans HB0.out (Nat.le_trans HF1.out.size hgrow1.size)); clear hown1 hgrow1 hc1)
            | (at_builtin; refine wpList_append_own_at _ rfl _ _ 64 rfl base 3 i0 (.int .i64 0) 1 8 Tryz.underlying64 HI.out.1 HI.out.2.1 HI.out.2.2.1 HI.out.2.2.2 rfl (by decide) v' l'.length _ rfl (HR.out.alloc _) ⟨w2.heap.size, 0, none⟩ 1 1 [.int .i64 x] rfl rfl (cell_one_new _ _ _) (ints_oneCell .i64 [x]) (by unfold maxLen; omega) (by omega) (by have := HB2.out; simp; omega) ?_; intro v2 w3 hrow hg3 hnil hloc; obtain ⟨g2, c2, hv2⟩ := owns_slice hrow (by omega); subst hv2; have HP := Lib.hid (HQ1.out.put x hx HIn.out _ HM.out HG.out hrow hg3 hloc); have hmid := HQ1.out.mid3 HG.out hg3; obtain ⟨hc3, hf3⟩ := hmid; clear hrow hg3 hnil hloc hc0))
          go_roundw
          case rel => exact ⟨k + 1, l' ++ [x], _, D'.put (kI x) (.agg []), by omega, by go_num, by rw [HX.out, putAll_snoc, ← HL.out, if_neg (by rw [HIn.out]; simp)], cnt_step _ _ _ (by simp), HP.out.1, HF1.out.trans HP.out.2⟩
          case measure => simp [intOf]; omega
        · have HIn := Lib.hid hin
          clear hin
          go_wp2_with (first
            | (go_at_call 17; (with_reducible refine (qhas_m x hx true HIn _ HQ.out).mono ?_); rintro e w1 ⟨rfl, hb⟩; have HQ1 := Lib.hid (HQ.out.below hb); have HF1 := Lib.hid (HF.out.trans (VFr.of_below hb HQ.out.lt _)); clear hb))
          go_roundw
          case rel => exact ⟨k + 1, l', v', D', by omega, by go_num, by rw [HX.out, putAll_snoc, ← HL.out, if_pos HIn.out], rfl, HQ1.out.more (by omega), HF1.out⟩
          case measure => simp [intOf]; omega
      · obtain rfl : m = k := by omega
        have hdd : decide (m < m) = false := by simp
        have HL2 : Hid (putAll l zs = l') := Lib.hid (by rw [HL.out, List.take_of_length_le (by rw [hm.out]; exact Nat.le_refl _)])
        go_wp2_with fail
        go_ret
        exact ⟨SM q v' M, ret_i64 (by rw [← HL2.out]; exact hr.out), .inr ⟨v', M, D', by rw [HL2.out]; exact HQ.out, rfl⟩, HF0.out.trans HF.out⟩
end Go.Proofs.YtllcakiomihipaaGreatDoor.V
namespace Go.Proofs.YtllcakiomihipaaGreatDoor.V
open Go.ChangeShapes Go.WideShapes Go.ChangeAt Go.RowKit Go.Maps
set_option linter.unusedVariables false
def over : List Value → Nat → List Value → List Value
  | xs, _, [] => xs
  | xs, o, v :: vs => over (xs.set o v) (o + 1) vs
theorem over_get (vs : List Value) : ∀ (xs : List Value) (o j : Nat), o + vs.length ≤ xs.length → (over xs o vs)[j]? = if o ≤ j ∧ j < o + vs.length then vs[j - o]? else xs[j]? := by
  induction vs with
  | nil => intro xs o j h; unfold over; rw [if_neg (by simp only [List.length_nil]; omega)]
  | cons v vs ih =>
    intro xs o j h
    simp only [List.length_cons] at h
    unfold over
    rw [ih _ _ _ (by simp; omega)]
    by_cases h1 : o + 1 ≤ j ∧ j < o + 1 + vs.length
    · rw [if_pos h1, if_pos (by simp; omega), show j - o = (j - (o + 1)) + 1 by omega]
      simp
    · rw [if_neg h1]
      by_cases h2 : j = o
      · subst h2
        rw [if_pos (by simp)]
        rw [List.getElem?_set_self (by omega)]
        simp
      · rw [if_neg (by simp; omega), List.getElem?_set_ne (by omega)]
theorem over_all (xs vs : List Value) (h : vs.length = xs.length) : over xs 0 vs = vs := by
  apply List.ext_getElem?
  intro j
  rw [over_get vs xs 0 j (by omega)]
  by_cases hj : j < vs.length
  · rw [if_pos (by omega)]
    simp
  · rw [if_neg (by omega), List.getElem?_eq_none (by omega), List.getElem?_eq_none (by omega)]
theorem own_setCells {base e g n c : Nat} (vs : List Value) : ∀ (o : Nat) (xs : List Value) (w : World), w.ownsRow base e 1 (.slice (some ⟨g, 0, none⟩) n c) n xs →
    (w.setCells g o vs).ownsRow base e 1 (.slice (some ⟨g, 0, none⟩) n c) n (over xs o vs) ∧ w.grownBy (w.setCells g o vs) (some g) := by
  induction vs with
  | nil => intro o xs w h; exact ⟨h, ⟨rfl, rfl, rfl, Nat.le_refl _, fun _ _ _ => rfl⟩⟩
  | cons v vs ih =>
    intro o xs w h
    have h1 := h.stored o v
    have h2 := ih (o + 1) _ _ h1.1
    exact ⟨h2.1, ⟨h2.2.os.trans h1.2.os, h2.2.tape.trans h1.2.tape, h2.2.output.trans h1.2.output, Nat.le_trans h1.2.size h2.2.size, fun k hk hne => (h2.2.block k (Nat.lt_of_lt_of_le hk h1.2.size) hne).trans (h1.2.block k hk hne)⟩⟩
theorem own_drewN {w : World} {base e s n : Nat} {v : Value} {xs : List Value} (h : w.ownsRow base e s v n xs) (q : Nat) : (w.drewN q).ownsRow base e s v n xs := h
theorem own_cut {w : World} {base e g n c : Nat} {xs ys : List Value} (h : w.ownsRow base e 1 (.slice (some ⟨g, 0, none⟩) n c) n xs) (m : Nat) (hm : m ≤ n) (hy : xs.take m = ys) : w.ownsRow base e 1 (.slice (some ⟨g, 0, none⟩) m c) m ys := by
  have hl := h.1
  refine ⟨by rw [← hy, List.length_take]; omega, ?_⟩
  rcases h.2 with ⟨h', _⟩ | ⟨g', cap', cur, h', hb, hg, hnc, hcm, hcs, htake⟩
  · simp at h'
  · simp only [Value.slice.injEq, Option.some.injEq, Addr.mk.injEq, and_true, true_and] at h'
    obtain ⟨rfl, rfl⟩ := h'
    refine .inr ⟨_, _, cur, rfl, hb, hg, by omega, hcm, hcs, ?_⟩
    rw [← hy, ← htake, List.take_take]
    congr 1
    omega
theorem qdel_at {base g n c k : Nat} {l : List Int} (w : World) (hrow : w.ownsRow base 3 1 (.slice (some ⟨g, 0, none⟩) n c) n (l.map (Value.int .i64))) (hn : Hid (l.length = n)) (hk : k < n) (y : Int) (hy : Hid (y = k + 1)) :
    Calls Tryz.prog 87 #[.slice (some ⟨g, 0, none⟩) n c, .int .i64 k, .int .i64 y] w fun e w' => e = .returned (.slice (some ⟨g, 0, none⟩) (n - 1) c) ∧ w'.ownsRow base 3 1 (.slice (some ⟨g, 0, none⟩) (n - 1) c) (n - 1) ((l.eraseIdx k).map (Value.int .i64)) ∧ w.grownBy w' (some g) := by
  have hc : n ≤ c ∧ c ≤ maxLen := by
    rcases hrow.2 with ⟨h', _⟩ | ⟨g', cap', cur, h', hb, hg, hnc, hcm, hcs, htake⟩
    · simp at h'
    · simp only [Value.slice.injEq, Option.some.injEq, Addr.mk.injEq, and_true, true_and] at h'
      obtain ⟨rfl, rfl⟩ := h'
      exact ⟨hnc, hcm⟩
  have hl := hn.out
  have e : y = ((k + 1 : Nat) : Int) := by rw [hy.out]; simp
  rw [e]
  refine (Tryz.slices_Delete_int_cells g 0 n c k (k + 1) l w (by omega) hc.1 (by have := hc.2; unfold maxLen at this; omega) (by omega) (by omega) (fun j hj => ?_) (fun j hj => ?_)).mono fun e w' ⟨he, q, hw⟩ => ?_
  · rw [Nat.zero_add, hrow.cellAt j (by omega)]
    simp [List.getD, hj]
  · exact hrow.frozenAt _
  · have hv : ((l.take n).take k ++ (l.take n).drop (k + 1) ++ List.replicate (k + 1 - k) 0).length = n := by simp; omega
    have h1 := own_setCells (((l.take n).take k ++ (l.take n).drop (k + 1) ++ List.replicate (k + 1 - k) 0).map (Value.int .i64)) 0 _ _ (own_drewN hrow q)
    rw [over_all _ _ (by simp; omega)] at h1
    subst hw
    refine ⟨by rw [he, show n - (k + 1 - k) = n - 1 by omega], own_cut h1.1 (n - 1) (by omega) ?_, ?_⟩
    · rw [← List.map_take]
      congr 1
      rw [List.take_of_length_le (l := l) (by omega), ← List.eraseIdx_eq_take_drop_succ, List.take_append_of_le_length (by rw [List.length_eraseIdx_of_lt (by omega)]; omega), List.take_of_length_le (by rw [List.length_eraseIdx_of_lt (by omega)]; omega)]
    · exact ⟨h1.2.os, h1.2.tape, h1.2.output, h1.2.size, h1.2.block⟩
theorem erase_has (l : List Int) (k : Nat) (hk : k < l.length) (hnd : l.Nodup) (y : Int) : (l.eraseIdx k).contains y = (l.contains y && !decide (y = l.getD k 0)) := by
  have e : l.getD k 0 = l[k] := by simp [List.getD, hk]
  have hl : l = l.take k ++ l[k] :: l.drop (k + 1) := by
    rw [← List.drop_eq_getElem_cons hk, List.take_append_drop]
  have hn : (l.take k ++ l[k] :: l.drop (k + 1)).Nodup := by rw [← hl]; exact hnd
  rw [List.nodup_append] at hn
  obtain ⟨h1, h2, h3⟩ := hn
  rw [List.nodup_cons] at h2
  have hm : y ∈ l ↔ y ∈ l.take k ∨ y = l[k] ∨ y ∈ l.drop (k + 1) := by
    conv => lhs; rw [hl]
    simp only [List.mem_append, List.mem_cons]
  rw [e, List.eraseIdx_eq_take_drop_succ, Bool.eq_iff_iff]
  simp only [List.contains_iff_mem, List.mem_append, Bool.and_eq_true, hm, Bool.not_eq_true', decide_eq_false_iff_not]
  constructor
  · rintro (h | h)
    · exact ⟨.inl h, fun e2 => h3 y h l[k] (.head _) e2⟩
    · exact ⟨.inr (.inr h), fun e2 => h2.1 (e2 ▸ h)⟩
  · rintro ⟨h | h | h, h4⟩
    · exact .inl h
    · exact absurd h h4
    · exact .inr h
/-- One number less. -/
theorem VM.drop {w w1 w2 : World} {base q o b M g n c k : Nat} {l : List Int} {D D' : DataW Unit} (h : VM w base q o b l (.slice (some ⟨g, 0, none⟩) n c) M D) (hn : l.length = n) (hk : k < n)
    (hD : D' = D.del (kI (l.getD k 0))) (hm : w1.ownsMap Tryz.prog 3 U1 M b D') (hg1 : w.grownBy w1 (some M)) (hrow : w2.ownsRow base 3 1 (.slice (some ⟨g, 0, none⟩) (n - 1) c) (n - 1) ((l.eraseIdx k).map (Value.int .i64))) (hg2 : w1.grownBy w2 (some g)) :
    VM (w2.setCell ⟨q, o, none⟩ (.slice (some ⟨g, 0, none⟩) (n - 1) c)) base q o b (l.eraseIdx k) (.slice (some ⟨g, 0, none⟩) (n - 1) c) M D' ∧ VFr q o w (w2.setCell ⟨q, o, none⟩ (.slice (some ⟨g, 0, none⟩) (n - 1) c)) (SM q (.slice (some ⟨g, 0, none⟩) n c) M) (SM q (.slice (some ⟨g, 0, none⟩) (n - 1) c) M) := by
  have s0 := h.lt
  have hgq : g ≠ q := fun e => h.qv (by rw [e]; rfl)
  have hgM : g ≠ M := fun e => h.mv (by rw [e]; rfl)
  have b1 : w1.heap[q]? = w.heap[q]? := hg1.block q s0 (fun e => h.mq (by injection e with e; exact e.symm))
  have s1 : q < w1.heap.size := Nat.lt_of_lt_of_le s0 hg1.size
  have hmid := same_cells ((hg2.block q s1 (fun e => hgq (by injection e with e; exact e.symm))).trans b1)
  have hlen : (l.eraseIdx k).length = n - 1 := by rw [List.length_eraseIdx_of_lt (by omega), hn]
  refine ⟨⟨cs_same ((hmid o).1.trans h.c0), (cs_other (addr_ne0 q o)).trans ((hmid (o + 1)).1.trans h.c1), fz_set.trans ((hmid o).2.trans h.f0), fz_set.trans ((hmid (o + 1)).2.trans h.f1), ?_, fun e => hgq (by simpa [Value.ownBlock] using e), (hm.kept hg2 (fun e => hgM (by injection e with e; exact e.symm))).setCell h.mq _, h.mb, ?_, ?_, ?_⟩, ?_⟩
  · rw [hlen]
    exact ownsRow_setCell_other hrow (a := ⟨q, o, none⟩) (fun e => hgq (by simpa [Value.ownBlock] using e)) _
  · intro y
    rw [erase_has l k (by omega) h.nd y, hD]
    by_cases e : y = l.getD k 0
    · rw [e, Maps.has_del_same]
      simp
    · rw [Maps.has_del_other (by simpa using e), h.has y, decide_eq_false e]
      simp
  · exact h.nd.sublist (List.eraseIdx_sublist _ _)
  · exact fun y hy => h.vals y (List.mem_of_mem_eraseIdx hy)
  · have f1 : VFr q o w w1 (SM q (.slice (some ⟨g, 0, none⟩) n c) M) (SM q (.slice (some ⟨g, 0, none⟩) n c) M) := VFr.of_grown hg1 (.inr (.inr rfl)) s0 h.mq
    have f2 : VFr q o w1 w2 (SM q (.slice (some ⟨g, 0, none⟩) n c) M) (SM q (.slice (some ⟨g, 0, none⟩) n c) M) := VFr.of_grown hg2 (.inr (.inl rfl)) s1 hgq
    have f3 := VFr.of_set w2 q o o (.slice (some ⟨g, 0, none⟩) (n - 1) c) (.inl rfl) (SM q (.slice (some ⟨g, 0, none⟩) n c) M) (.inl rfl)
    exact ((f1.trans f2).trans f3).turn fun k _ hk => hk
theorem VM.mid2 {w w1 w2 : World} {base q o b M g n c : Nat} {l : List Int} {D : DataW Unit} (h : VM w base q o b l (.slice (some ⟨g, 0, none⟩) n c) M D) (hg1 : w.grownBy w1 (some M)) (hg2 : w1.grownBy w2 (some g)) : w2.cell? ⟨q, o, none⟩ = some (.slice (some ⟨g, 0, none⟩) n c) ∧ w2.frozen? ⟨q, o, none⟩ = false := by
  have s0 := h.lt
  have hgq : g ≠ q := fun e => h.qv (by rw [e]; rfl)
  have b1 : w1.heap[q]? = w.heap[q]? := hg1.block q s0 (fun e => h.mq (by injection e with e; exact e.symm))
  have s1 : q < w1.heap.size := Nat.lt_of_lt_of_le s0 hg1.size
  have hmid := same_cells ((hg2.block q s1 (fun e => hgq (by injection e with e; exact e.symm))).trans b1)
  exact ⟨(hmid o).1.trans h.c0, (hmid o).2.trans h.f0⟩
set_option maxRecDepth 100000 in
set_option maxHeartbeats 4000000 in
theorem qtake_m {base q o b M g n c : Nat} {l : List Int} {D : DataW Unit} (k : Nat) (hn : Hid (l.length = n)) (hk : k < n) (hm : n ≤ 1000000) (w : World) (h : VM w base q o b l (.slice (some ⟨g, 0, none⟩) n c) M D) :
    Calls Tryz.prog 58 #[.pointer (some ⟨q, o, none⟩), .int .i64 k] w fun e w' => e = .returned (.tuple #[]) ∧ ∃ D', VM w' base q o b (l.eraseIdx k) (.slice (some ⟨g, 0, none⟩) (n - 1) c) M D' ∧ VFr q o w w' (SM q (.slice (some ⟨g, 0, none⟩) n c) M) (SM q (.slice (some ⟨g, 0, none⟩) (n - 1) c) M) := by
  have H := Lib.hid h
  have c0 := h.c0
  have c1 := h.c1
  have hrow : w.ownsRow base 3 1 (.slice (some ⟨g, 0, none⟩) n c) n (l.map (Value.int .i64)) := by have := h.row; rwa [hn.out] at this
  have HR := Lib.hid hrow
  have hk' : k < l.length := by rw [hn.out]; exact hk
  have cx : w.cell? ⟨g, k, none⟩ = some (.int .i64 (l.getD k 0)) := by
    rw [hrow.cellAt k (by omega)]
    simp [List.getD, hk']
  have hx : wfI (l.getD k 0) := h.vals _ (by simp [List.getD, hk'])
  obtain ⟨x, HX⟩ : ∃ x, Hid (l.getD k 0 = x) := ⟨_, Lib.hid rfl⟩
  rw [HX.out] at cx hx
  have hkey := hx.key
  have k0 : (0 : Int) ≤ k := by omega
  have k1 : (k : Int) < n := by omega
  clear h hrow hk' hx
  go_enter Tryz.func58, Tryz.ntmps58
  go_wp2_with fail
  go_still_tail 11, (by kernel_rfl)
  go_wp2_with (first
    | (at_delete; refine wpList_delete_own _ rfl _ _ 99 3 rfl 97 lawI Tryz.underlying99 U1 M b D rfl H.out.mp.drew _ _ rfl hkey ?_; intro w1 hown1 hturn1; have HM := Lib.hid hown1; have HG := Lib.hid (show w.grownBy w1 (some M) from ⟨hturn1.grown.os, hturn1.grown.tape, hturn1.grown.output, hturn1.grown.size, hturn1.grown.block⟩); have hc0 := (World.cell?_of_block (a := ⟨q, o, none⟩) (HG.out.block q H.out.lt (fun e => H.out.mq (by injection e with e; exact e.symm)))).trans H.out.c0; have HR1 := Lib.hid (HR.out.kept HG.out (.inr H.out.mv)); clear hown1 hturn1 c0 c1 cx)
    | (go_at_call 87; (with_reducible refine (qdel_at _ HR1.out hn hk _ (Lib.hid rfl)).mono ?_); rintro e w2 ⟨rfl, hr2, hg2⟩; have HP := Lib.hid (H.out.drop hn.out hk (by rw [HX.out]) HM.out HG.out hr2 hg2); have hmid := H.out.mid2 HG.out hg2; obtain ⟨hc2, hf2⟩ := hmid; clear hr2 hg2 hc0))
  go_end0
  exact ⟨rfl, _, HP.out⟩
theorem VI.big {w : World} {base q o b : Nat} {l : List Int} {S : Nat → Prop} (h : VI w base q o b l S) (hl : 0 < l.length) : ∃ g c M D, VM w base q o b l (.slice (some ⟨g, 0, none⟩) l.length c) M D ∧ S = SM q (.slice (some ⟨g, 0, none⟩) l.length c) M := by
  rcases h with ⟨h1, rfl, rfl⟩ | ⟨v, M, D, h, rfl⟩
  · simp at hl
  · obtain ⟨g, c, rfl⟩ := owns_slice h.row hl
    exact ⟨g, c, M, D, h, rfl⟩
theorem qall_is {base q o b n : Nat} {l : List Int} {S : Nat → Prop} (hn : Hid (l.length = n)) (hm : n ≤ 1000000) (w : World) (h : VI w base q o b l S) :
    Calls Tryz.prog 19 #[.pointer (some ⟨q, o, none⟩)] w fun e w' => ∃ a c, e = .returned (.slice a n c) ∧ w'.ownsRow w.heap.size 3 1 (.slice a n c) n (l.map (Value.int .i64)) ∧ Below w.heap.size w w' := by
  obtain ⟨a, c, h0, hrow, _⟩ := h.row
  rw [hn.out] at h0 hrow
  have HN := hn
  clear h
  rcases hrow.2 with ⟨hv, hl⟩ | ⟨g, cap, cur, hv, hB, hg, hnc, hcm, hcs, htk⟩
  · obtain ⟨rfl, rfl⟩ : a = none ∧ n = 0 := by simp at hv; exact ⟨hv.1, hl⟩
    have hl0 : l = [] := List.length_eq_zero_iff.1 hn.out
    subst hl0
    clear hv hl hrow hn
    go_enter Tryz.func19, Tryz.ntmps19
    go_wp2_with (first | (go_at_call 40; refine (Tryz.slices_Clone_int_nil _ _ _).mono ?_; rintro e w2 ⟨rfl, rfl⟩))
    go_ret
    exact ⟨none, 0, rfl, World.ownsRow_nil _ _ _ _, Below.refl _ _⟩
  · obtain rfl : a = some ⟨g, 0, none⟩ := by simp at hv; exact hv.1
    have HR := Lib.hid hrow
    have hl : l.length = n := hn.out
    clear hv hcs htk hg hcm hnc
    go_enter Tryz.func19, Tryz.ntmps19
    go_wp2_with (first | (go_at_call 40; refine (Tryz.slices_Clone_int g 0 n c l _ (by omega) (by omega) (fun j hj => by rw [Nat.zero_add, HR.out.cellAt j (by omega)]; simp [List.getD, hj])).mono ?_; rintro e w2 ⟨v', rfl, h1, h2, h3⟩; have H1 := Lib.hid h1; have H2 := Lib.hid h2; have H3 := Lib.hid h3; clear h1 h2 h3))
    go_ret
    have hh := H1.out
    rw [List.take_of_length_le (by omega)] at hh
    rcases hh.2 with ⟨hv, h0⟩ | ⟨g', cap', cur', hv, _⟩
    · exact absurd hv H2.out
    · subst hv
      exact ⟨_, _, rfl, hh, H3.out⟩


/-- Those that are not x. -/
def offI (l : List Int) (x : Int) : List Int := l.filter (fun y => !decide (y = x))
theorem offI_no (l : List Int) (x : Int) (h : l.contains x = false) : offI l x = l := by
  unfold offI
  apply List.filter_eq_self.2
  intro y hy
  have : y ≠ x := fun e => by rw [e] at hy; rw [← List.contains_iff_mem] at hy; rw [h] at hy; cases hy
  simp [this]
theorem offI_at (l : List Int) (x : Int) (k : Nat) (hk : k < l.length) (hx : l.getD k 0 = x) (hnd : l.Nodup) : l.eraseIdx k = offI l x := by
  induction l generalizing k with
  | nil => simp at hk
  | cons y l ih =>
    rw [List.nodup_cons] at hnd
    cases k with
    | zero =>
      simp at hx
      subst hx
      have : offI l y = l := offI_no l y (by rw [← Bool.not_eq_true, List.contains_iff_mem]; exact hnd.1)
      unfold offI at this ⊢
      simp [this]
    | succ k =>
      simp at hk
      have hk2 : l.getD k 0 = x := by simpa [List.getD] using hx
      have hm : x ∈ l := by rw [← hk2]; simp [List.getD, hk]
      have hne : y ≠ x := fun e => hnd.1 (e ▸ hm)
      have := ih k hk hk2 hnd.2
      unfold offI at this ⊢
      simp [this, hne]
theorem getD_mem (l : List Int) (x : Int) (h : l.contains x = true) : ∃ k, k < l.length ∧ (∀ i, i < k → l.getD i 0 ≠ x) ∧ l.getD k 0 = x := by
  rcases first_in l x l.length with h1 | h1
  · rw [List.contains_iff_mem, List.mem_iff_getElem] at h
    obtain ⟨i, hi, e⟩ := h
    exact absurd (by simp [List.getD, hi, e]) (h1 i hi)
  · exact h1
theorem rn_of {w : World} {base q o b M g n c : Nat} {l : List Int} {D : DataW Unit} (h : VM w base q o b l (.slice (some ⟨g, 0, none⟩) n c) M D) (hn : l.length = n) : RN w g n l := by
  intro i hi
  have hr := h.row
  rw [hn] at hr
  rw [hr.cellAt i (by omega)]
  have : i < l.length := by omega
  simp [List.getD, this]
set_option maxRecDepth 100000 in
theorem vdrop_is {base q o b : Nat} {l : List Int} {S : Nat → Prop} (x : Int) (hx : wfI x) (hm : l.length ≤ 1000) (w : World) (h : VI w base q o b l S) :
    Calls Tryz.prog 31 #[.pointer (some ⟨q, o, none⟩), .int .i64 x] w fun e w' => ∃ t S', e = .returned (.bool t) ∧ VI w' base q o b (offI l x) S' ∧ VFr q o w w' S S' := by
  cases hin : l.contains x
  · have H := Lib.hid h
    have HIn := Lib.hid hin
    clear h hin
    go_enter Tryz.func31, Tryz.ntmps31
    go_wp2_with (first | (go_at_call 17; (with_reducible refine (qhas_is x hx false HIn _ H.out).mono ?_); rintro e w1 ⟨rfl, hb⟩; have HB := Lib.hid hb; clear hb))
    go_ret
    exact ⟨false, S, rfl, by rw [offI_no l x HIn.out]; exact H.out.below HB.out, VFr.of_below HB.out H.out.lt _⟩
  · obtain ⟨k, hk, hno, hyes⟩ := getD_mem l x hin
    obtain ⟨g, c, M, D, hQ, rfl⟩ := h.big (by omega)
    obtain ⟨n, HN⟩ : ∃ n, Hid (l.length = n) := ⟨_, Lib.hid rfl⟩
    have HIn := Lib.hid hin
    have HE := Lib.hid (offI_at l x k hk hyes hQ.nd)
    have HNo := Lib.hid hno
    have HYes := Lib.hid hyes
    rw [HN.out] at hQ hk hm ⊢
    have H := Lib.hid hQ
    clear h hin hno hyes hQ
    go_enter Tryz.func31, Tryz.ntmps31
    go_wp2_with (first
      | (go_at_call 17; (with_reducible refine (qhas_m x hx true HIn _ H.out).mono ?_); rintro e w1 ⟨rfl, hb⟩; have H1 := Lib.hid (H.out.below hb); have HB := Lib.hid hb; have c0 := H1.out.c0; have HRN := Lib.hid (rn_of H1.out HN.out); clear hb)
      | (go_at_call 59; (with_reducible refine (six_yes g n c k l x hm hk HNo HYes _ HRN.out).mono ?_); rintro e w2 ⟨rfl, rfl⟩)
      | (go_at_call 58; (with_reducible refine (qtake_m k HN hk (by omega) _ H1.out).mono ?_); rintro e w3 ⟨rfl, D', h3, f3⟩; have H3 := Lib.hid h3; have HF3 := Lib.hid f3; clear h3 f3))
    go_ret
    refine ⟨true, _, rfl, .inr ⟨_, M, D', by rw [← HE.out]; exact H3.out, rfl⟩, (VFr.of_below HB.out H.out.lt _).trans HF3.out⟩
end Go.Proofs.YtllcakiomihipaaGreatDoor.V
namespace Go.Proofs.YtllcakiomihipaaGreatDoor
open Go.ChangeShapes Go.WideShapes Go.ChangeAt Go.RowKit
set_option linter.unusedVariables false
set_option linter.unusedSimpArgs false
theorem heapSet (k R : Nat) (h : k ≠ R) : ∀ (l : List Value) (w : World) (o : Nat), (w.setCells R o l).heap[k]? = w.heap[k]?
  | [], w, o => by simp [World.setCells]
  | v :: l, w, o => by
    simp only [World.setCells]
    rw [heapSet k R h l _ _]
    exact Below.heap_setCell _ _ _ _ h
theorem heapSize (R : Nat) : ∀ (l : List Value) (w : World) (o : Nat), (w.setCells R o l).heap.size = w.heap.size
  | [], w, o => by simp [World.setCells]
  | v :: l, w, o => by
    simp only [World.setCells]
    rw [heapSize R l _ _]
    simp
/-- A domain's row: its registers, place, state, fault, keys, the number of its wait. -/
def RW (rg : Nat → Int) (pc st ft : Int) (kk : Nat → Nat → Int) (wt : Int) : Nat → Value := fun j => if j < 8 then .int .u32 (rg j) else if j = 8 then .int .u32 pc else if j = 9 then .int .i64 st else if j = 10 then .int .i64 ft else if j < 106 then kval ((j - 11) % 5) (kk ((j - 11) / 5) ((j - 11) % 5)) else .int .i64 wt
section
variable (rg : Nat → Int) (pc st ft : Int) (kk : Nat → Nat → Int) (wt : Int)
theorem RW_9 : RW rg pc st ft kk wt 9 = .int .i64 st := rfl
theorem RW_106 : RW rg pc st ft kk wt 106 = .int .i64 wt := rfl
theorem RW_one (j : Nat) : (RW rg pc st ft kk wt j).oneCell' = true := by
  unfold RW
  split
  · rfl
  · split
    · rfl
    · split
      · rfl
      · split
        · rfl
        · split
          · unfold kval; split <;> rfl
          · rfl
theorem RW_key (q r : Nat) (hq : q < 19) (hr : r < 5) : RW rg pc st ft kk wt (11 + (q * 5 + r)) = kval r (kk q r) := by
  unfold RW
  rw [if_neg (by omega), if_neg (by omega), if_neg (by omega), if_neg (by omega), if_pos (by omega), show (11 + (q * 5 + r) - 11) % 5 = r by omega, show (11 + (q * 5 + r) - 11) / 5 = q by omega]
theorem RW_keys : KeysIn (RW rg pc st ft kk wt) kk := fun q r hq hr => RW_key rg pc st ft kk wt q r hq hr
end
/-- The row of a domain that is new. -/
theorem RW_new (j : Nat) (hj : j < 107) : zd1 j = RW (fun _ => 0) 0 1 0 (fun _ _ => 0) 0 j := by
  by_cases h : 11 ≤ j ∧ j < 106
  · obtain ⟨q, r, hq, hr, rfl⟩ : ∃ q r, q < 19 ∧ r < 5 ∧ j = 11 + (q * 5 + r) := ⟨(j - 11) / 5, (j - 11) % 5, by omega, by omega, by omega⟩
    rw [RW_key _ _ _ _ _ _ q r hq hr]
    have h := fX_keys 1 0 q r hq hr
    rw [fX_zd1] at h
    exact h
  · obtain rfl | rfl | rfl | rfl | rfl | rfl | rfl | rfl | rfl | rfl | rfl | rfl : j = 0 ∨ j = 1 ∨ j = 2 ∨ j = 3 ∨ j = 4 ∨ j = 5 ∨ j = 6 ∨ j = 7 ∨ j = 8 ∨ j = 9 ∨ j = 10 ∨ j = 106 := by omega
    all_goals rfl
/-- Where the factories and the queue lie. -/
def FLg (X : SLoc) : Prop := X.fP < X.q ∧ X.fp < X.q ∧ X.fR < X.q ∧ X.fG < X.q ∧ X.q < X.s
section
variable {w0 w w' : World} {L : BLoc} {X : SLoc} {D : BSt} {S S' : Nat → Prop}
theorem BW.highg (h : BW w0 w L D) (hb : Below L.T w w') : BW w0 w' L D := by
  have h1 := h.md
  have h2 := h.dl
  have h3 := h.tt
  have h4 := h.db
  exact h.keep (hb.mono (by omega)) (hb.block _ (by omega)) (hb.block _ (by omega)) (hb.block _ (by omega)) (hb.block _ (by omega)) (hb.block _ (by omega)) (fun k _ hk => hb.block k hk)
/-- What else but the queue lies in the system stays. -/
theorem SJ.restg (h : SJ w0 w L X D) (hX : FLg X) (hos : w'.os = w.os) (ht : w'.tape = w.tape) (ho : w'.output = w.output) (hs : w.heap.size ≤ w'.heap.size) (hk : ∀ k, k < w.heap.size → k ≠ X.q → k ≤ X.s → w'.heap[k]? = w.heap[k]?) : SJ w0 w' L X D := by
  have hl := h.lo
  unfold FLg at hX
  have hb : Below L.T w w' := ⟨hos, ht, ho, hs, fun k hk2 => hk k (by have := h.k.tw; omega) (by omega) (by omega)⟩
  have ht := h.t.low2
  have hf3 := h.f.ar.lt.2
  have hf4 := (h.f.row.lt _ rfl).2
  have htt := h.k.tt
  exact ⟨h.k.highg hb, h.t.same hs (hk _ ht.2.2.2.2.1 (by omega) (by omega)) (hk _ ht.2.2.2.2.2.1 (by omega) (by omega)) (hk _ ht.2.2.2.2.2.2.1 (by omega) (by omega)) (hk _ ht.2.2.2.2.2.2.2 (by omega) (by omega)), h.f.same hs (hk _ h.f.pl (by omega) (by omega)) (hk _ h.f.ar.pl (by omega) (by omega)) (hk _ hf3 (by omega) (by omega)) (hk _ hf4 (by omega) (by omega)), h.b.same hs (hk _ h.b.lt (by omega) (by omega)), hl⟩
end
/-- One bank, nd domains, their rows. -/
structure DFm (D : BSt) (nd : Nat) (F : Nat → Nat → Value) : Prop where
  nt : D.nt = fun _ => false
  pt : D.pt = fun _ => false
  nb : D.nb = 1
  dt : D.dt = thN nd
  dv : D.dv = fun _ => 0
  row : ∀ i, i < nd → ∀ j, j < 107 → D.dW i j = F i j
/-- The system, its domains' rows F, its queue l; A: boxes that are none of its blocks. -/
structure GS (w0 w : World) (L : BLoc) (X : SLoc) (nd B : Nat) (A : List Nat) (F : Nat → Nat → Value) (l : List Int) : Prop where
  fl : FLg X
  nn : nd ≤ L.dn
  sj : ∃ D, SJ w0 w L X D ∧ DFm D nd F
  q : ∃ b S, b ≤ B ∧ V.VI w (X.s + 1) X.q 0 b l S ∧ ∀ k, S k → k ∉ A
  a : ∀ k ∈ A, k < w.heap.size ∧ ((k < L.dR ∧ k < L.dG) ∨ X.s < k)
/-- The boxes are as they were. -/
structure GK (A : List Nat) (w w' : World) : Prop where
  sz : w.heap.size ≤ w'.heap.size
  eq : ∀ k ∈ A, w'.heap[k]? = w.heap[k]?
theorem GK.refl (A : List Nat) (w : World) : GK A w w := ⟨Nat.le_refl _, fun _ _ => rfl⟩
theorem GK.trans {A : List Nat} {w w1 w2 : World} (h : GK A w w1) (h2 : GK A w1 w2) : GK A w w2 := ⟨Nat.le_trans h.sz h2.sz, fun k hk => (h2.eq k hk).trans (h.eq k hk)⟩
theorem GK.sub {A A' : List Nat} {w w1 : World} (h : GK A w w1) (hs : ∀ k ∈ A', k ∈ A) : GK A' w w1 := ⟨h.sz, fun k hk => h.eq k (hs k hk)⟩
theorem GK.tail {A : List Nat} {k : Nat} {w w1 : World} (h : GK (k :: A) w w1) : GK A w w1 := h.sub (fun j hj => List.mem_cons_of_mem _ hj)
section
variable {w0 w w' : World} {L : BLoc} {X : SLoc} {nd B : Nat} {A A' : List Nat} {F : Nat → Nat → Value} {l : List Int} {S S' : Nat → Prop}
theorem GS.xs (h : GS w0 w L X nd B A F l) : X.s < w.heap.size ∧ X.q < X.s := by
  obtain ⟨D, h1, _⟩ := h.sj
  have := h.fl
  unfold FLg at this
  exact ⟨h1.b.lt, this.2.2.2.2⟩
theorem GS.low (h : GS w0 w L X nd B A F l) : w0.heap.size ≤ L.dR ∧ w0.heap.size ≤ L.dG ∧ L.dR < X.s ∧ L.dG < X.s ∧ L.dR < X.q ∧ L.dG < X.q := by
  obtain ⟨D, h1, _⟩ := h.sj
  have hl := h1.lo
  have hdb := h1.k.db
  have htt := h1.k.tt
  have h2 := h1.k.d.pl.ar.lt.1
  have h3 := (h1.k.d.pl.row.lt L.dG rfl).1
  have hb := h1.k.bel.size
  have hn := h1.k.m.n0
  have hm := h1.k.md
  have ht := h1.t.low2
  omega
theorem GS.bel (h : GS w0 w L X nd B A F l) : Below w0.heap.size w0 w := by
  obtain ⟨D, h1, _⟩ := h.sj
  exact h1.k.bel
theorem GS.errs (h : GS w0 w L X nd B A F l) {vs vr : Value} (hE : ErrsAt vs vr w0) : ErrsAt vs vr w := hE.below h.bel
theorem GS.keep (hb : Below w.heap.size w w') (h : GS w0 w L X nd B A F l) : GK A w w' := ⟨hb.size, fun k hk => hb.block k (h.a k hk).1⟩
theorem GS.below (h : GS w0 w L X nd B A F l) (hb : Below w.heap.size w w') : GS w0 w' L X nd B A F l := by
  obtain ⟨D, h1, h2⟩ := h.sj
  obtain ⟨b, S, h3, h4, h5⟩ := h.q
  exact ⟨h.fl, h.nn, ⟨D, h1.below hb, h2⟩, ⟨b, S, h3, h4.below hb, h5⟩, fun k hk => ⟨Nat.lt_of_lt_of_le (h.a k hk).1 hb.size, (h.a k hk).2⟩⟩
theorem GS.sub (h : GS w0 w L X nd B A F l) (hs : ∀ k ∈ A', k ∈ A) : GS w0 w L X nd B A' F l := by
  obtain ⟨b, S, h3, h4, h5⟩ := h.q
  exact ⟨h.fl, h.nn, h.sj, ⟨b, S, h3, h4, fun k hk hm => h5 k hk (hs k hm)⟩, fun k hk => h.a k (hs k hk)⟩
theorem GS.tail {k : Nat} (h : GS w0 w L X nd B (k :: A) F l) : GS w0 w L X nd B A F l := h.sub (fun j hj => List.mem_cons_of_mem _ hj)
/-- A block that came behind joins the boxes. -/
theorem GS.more (h : GS w0 w L X nd B A F l) (hb : Below w.heap.size w w') (k : Nat) (hk : w.heap.size ≤ k) (hk2 : k < w'.heap.size) : GS w0 w' L X nd B (k :: A) F l := by
  have hx := h.xs
  obtain ⟨b, S, h3, h4, h5⟩ := h.q
  have h' := h.below hb
  refine ⟨h.fl, h.nn, h'.sj, ⟨b, S, h3, h4.below hb, fun j hj hm => ?_⟩, fun j hj => ?_⟩
  · rcases List.mem_cons.1 hm with rfl | hm
    · have := h4.hi j hj; omega
    · exact h5 j hj hm
  · rcases List.mem_cons.1 hj with rfl | hj
    · exact ⟨hk2, .inr (by omega)⟩
    · exact h'.a j hj
/-- Cells of a box behind the system are stored. -/
theorem GS.cells (h : GS w0 w L X nd B A F l) (b : Nat) (hm : b ∈ A) (hX : X.s < b) (o : Nat) (cs : List Value) : GS w0 (w.setCells b o cs) L X nd B A F l := by
  obtain ⟨D, h1, h2⟩ := h.sj
  obtain ⟨b', S, h3, h4, h5⟩ := h.q
  have hx := h.xs
  have hb : Below X.s w (w.setCells b o cs) := nbelow_cells (Below.refl _ _) (by omega) _ _
  refine ⟨h.fl, h.nn, ⟨D, h1.restg h.fl hb.os hb.tape hb.output hb.size (fun k _ _ hk => heapSet k b (by omega) cs w o), h2⟩, ⟨b', S, h3, h4.same (fun j _ => V.same_cells (heapSet X.q b (by omega) cs w o) j) (fun k hk _ => heapSet k b (fun e => h5 k hk (by rw [e]; exact hm)) cs w o), h5⟩, fun k hk => by rw [heapSize]; exact h.a k hk⟩
theorem GK.cells {b : Nat} (hb : b ∉ A) (w : World) (o : Nat) (cs : List Value) : GK A w (w.setCells b o cs) := ⟨by rw [heapSize]; exact Nat.le_refl _, fun k hk => heapSet k b (fun e => hb (by rw [← e]; exact hk)) cs w o⟩
theorem GS.c0 (h : GS w0 w L X nd B A F l) : w.cell? ⟨X.s, 0, none⟩ = some (.pointer (some ⟨L.mb, 0, none⟩)) := by obtain ⟨D, h1, _⟩ := h.sj; exact h1.b.c0
theorem GS.c1 (h : GS w0 w L X nd B A F l) : w.cell? ⟨X.s, 1, none⟩ = some (.pointer (some ⟨L.dP, 0, none⟩)) := by obtain ⟨D, h1, _⟩ := h.sj; exact h1.b.c1
theorem GS.c5 (h : GS w0 w L X nd B A F l) : w.cell? ⟨X.s, 5, none⟩ = some (.pointer (some ⟨X.q, 0, none⟩)) := by obtain ⟨D, h1, _⟩ := h.sj; exact h1.b.c5
theorem GS.get (h : GS w0 w L X nd B A F l) (x : Int) (i : Nat) (hx : Hid (x = (i : Int))) (hi : i < nd) (hf : Hid (∀ j, j < 107 → (F i j).oneCell' = true)) : Calls Tryz.prog 10 #[.pointer (some ⟨L.dP, 0, none⟩), .int .i64 x] w fun e w' => e = .returned (.tuple #[.agg (rowL (F i)).toArray, .bool true]) ∧ Below w.heap.size w w' := by
  obtain ⟨D, h1, h2⟩ := h.sj
  have := h.nn
  exact dget_ok x i hx (by omega) (Lib.hid (by rw [h2.dt]; exact decide_eq_true hi)) (F i) (Lib.hid (h2.row i hi)) hf w h1.k.d
/-- Rows with another row for one domain. -/
def setF (F : Nat → Nat → Value) (i : Nat) (g : Nat → Value) : Nat → Nat → Value := fun a => if a = i then g else F a
/-- A domain's row is put. -/
theorem GS.put (h : GS w0 w L X nd B A F l) (x : Int) (i : Nat) (hx : Hid (x = (i : Int))) (hi : i < nd) (rg : Nat → Int) (pc st ft : Int) (kk : Nat → Nat → Int) (wt : Int) (hR : Hid (∀ q, q < 19 → KRight kk q)) (s1 : 1 ≤ st) (s2 : st ≤ 4) (t1 : 0 ≤ ft) (t2 : ft ≤ 6) (u1 : 0 ≤ wt) (u2 : wt ≤ 536870911) (vs vr : Value) (hE : ErrsAt vs vr w0) :
    Calls Tryz.prog 11 #[.pointer (some ⟨L.dP, 0, none⟩), .int .i64 x, .agg (rowL (RW rg pc st ft kk wt)).toArray] w fun e w' => e = .returned .nilIface ∧ GS w0 w' L X nd B A (setF F i (RW rg pc st ft kk wt)) l ∧ GK A w w' := by
  have hlow := h.low
  have hxs := h.xs
  have hE1 := h.errs hE
  obtain ⟨D, h1, h2⟩ := h.sj
  obtain ⟨b, S, h3, h4, h5⟩ := h.q
  have hn := h.nn
  refine (dput_ok x i hx (by omega) (Lib.hid (by rw [h2.dt]; exact decide_eq_true hi)) (RW rg pc st ft kk wt) kk (Lib.hid (fun j _ => RW_one rg pc st ft kk wt j)) (Lib.hid (RW_keys rg pc st ft kk wt)) hR st ft wt (Lib.hid ⟨rfl, rfl, rfl⟩) s1 s2 t1 t2 u1 u2 vs vr w hE1 h1.k.d).mono ?_
  rintro e w' ⟨he, hd, hb⟩
  have hdm := h1.k.db
  have hT := h1.k.tt
  have hw := h1.k.tw
  have hs := hb.2.2.2.1
  have hother : ∀ k, k < w.heap.size → k ≠ L.dR → k ≠ L.dG → w'.heap[k]? = w.heap[k]? := fun k a1 a2 a3 => hb.2.2.2.2 k a1 a2 a3
  refine ⟨he, ⟨h.fl, h.nn, ⟨_, h1.step (h1.k.doms hd hb) ⟨UpT.pb hb (T := L.T) (by omega) (by omega), fun k _ _ n1 n2 hk => hother k hk n1 n2⟩, ⟨h2.nt, h2.pt, h2.nb, h2.dt, h2.dv, fun a ha j hj => ?_⟩⟩, ⟨b, S, h3, h4.same (fun j _ => V.same_cells (hother X.q h4.lt (by omega) (by omega)) j) (fun k hk hne => hother k (h4.hi k hk) (by have := h4.lo k hk; omega) (by have := h4.lo k hk; omega)), h5⟩, fun k hk => ⟨Nat.lt_of_lt_of_le (h.a k hk).1 hs, (h.a k hk).2⟩⟩, ⟨hs, fun k hk => hother k (h.a k hk).1 (by have := h.a k hk; omega) (by have := h.a k hk; omega)⟩⟩
  unfold setF
  by_cases e : a = i
  · subst e
    rw [if_pos rfl]
    exact updS_row _ a j _ hj
  · rw [if_neg e]
    have hr := h2.row a ha j hj
    show updS D.dW i 0 (rowL (RW rg pc st ft kk wt)) a j = F a j
    unfold updS
    rw [if_neg (fun x => e x.1)]
    exact hr
theorem GS.has (h : GS w0 w L X nd B A F l) (x : Int) (hx : V.wfI x) (t : Bool) (ht : Hid (l.contains x = t)) : Calls Tryz.prog 17 #[.pointer (some ⟨X.q, 0, none⟩), .int .i64 x] w fun e w' => e = .returned (.bool t) ∧ Below w.heap.size w w' := by
  obtain ⟨b, S, _, h3, _⟩ := h.q
  exact V.qhas_is x hx t ht w h3
/-- What a queue's call leaves. -/
theorem GS.turn (h : GS w0 w L X nd B A F l) {B' b' : Nat} {l' : List Int} (hS : ∃ b, V.VI w (X.s + 1) X.q 0 b l S) (hA : ∀ k, S k → k ∉ A) (hb : b' ≤ B') (hv : V.VI w' (X.s + 1) X.q 0 b' l' S') (hf : V.VFr X.q 0 w w' S S') : GS w0 w' L X nd B' A F l' ∧ GK A w w' := by
  obtain ⟨D, h1, h2⟩ := h.sj
  obtain ⟨b, h4⟩ := hS
  have hlo := h4.lo
  refine ⟨⟨h.fl, h.nn, ⟨D, h1.restg h.fl hf.os hf.tape hf.output hf.size (fun k k1 k2 k3 => (hf.block k k1 (fun hs => by have := hlo k hs; omega)).1), h2⟩, ⟨b', S', hb, hv, fun k hk hm => ?_⟩, fun k hk => ⟨Nat.lt_of_lt_of_le (h.a k hk).1 hf.size, (h.a k hk).2⟩⟩, hf.size, fun k hk => (hf.block k (h.a k hk).1 (fun hs => hA k hs hk)).1⟩
  have hk1 := (h.a k hm).1
  exact (hf.block k hk1 (fun hs => hA k hs hm)).2 hk
theorem GS.drop (h : GS w0 w L X nd B A F l) (x : Int) (hx : V.wfI x) (hl : l.length ≤ 1000) : Calls Tryz.prog 31 #[.pointer (some ⟨X.q, 0, none⟩), .int .i64 x] w fun e w' => (∃ t, e = .returned (.bool t)) ∧ GS w0 w' L X nd B A F (V.offI l x) ∧ GK A w w' := by
  obtain ⟨b, S, h2, h3, h4⟩ := h.q
  refine (V.vdrop_is x hx hl w h3).mono ?_
  rintro e w' ⟨t, S', rfl, hv, hf⟩
  exact ⟨⟨t, rfl⟩, h.turn ⟨b, h3⟩ h4 h2 hv hf⟩
/-- One number is put; it lies in a row of its own. -/
theorem GS.qput (h : GS w0 w L X nd B A F l) (x : Int) (hx : V.wfI x) (hl : l.length ≤ 1000) (hB : B ≤ 1000) : Calls Tryz.prog 63 #[.pointer (some ⟨X.q, 0, none⟩), .slice (some ⟨w.heap.size, 0, none⟩) 1 1] (w.alloc (.cells #[.int .i64 x] 3)) fun e w' => (∃ r, e = .returned (.int .i64 r)) ∧ GS w0 w' L X nd (B + 1) A F (V.putAll l [x]) ∧ GK A w w' := by
  have hb : Below w.heap.size w (w.alloc (.cells #[.int .i64 x] 3)) := (Below.refl _ _).alloc (Nat.le_refl _) _
  have hz : (w.alloc (.cells #[.int .i64 x] 3)).heap.size = w.heap.size + 1 := by simp
  have hxs := h.xs
  obtain ⟨b, S, h2, h3, h4⟩ := h.q
  refine (V.qput_is (some ⟨w.heap.size, 0, none⟩) 1 1 [x] (Lib.hid rfl) (by decide) (by omega) (by omega) (((V.putAll l [x]).length : Int) - l.length) (Lib.hid rfl) _ (h3.below hb) ⟨by simpa using hx, fun _ => ⟨_, rfl, by simp, fun hs => by have := h3.hi _ hs; simp at this, fun i hi => by
    have : i = 0 := by simp at hi; omega
    subst this; simp [Addr.add]⟩⟩ (by rw [hz]; omega)).mono ?_
  rintro e w' ⟨S', rfl, hv, hf⟩
  have ht := (h.below hb).turn (B' := B + 1) ⟨b, h3.below hb⟩ h4 (show b + 1 ≤ B + 1 by omega) hv hf
  exact ⟨⟨_, rfl⟩, ht.1, (GS.keep hb h).trans ht.2⟩
end
end Go.Proofs.YtllcakiomihipaaGreatDoor
namespace Go.Proofs.YtllcakiomihipaaGreatDoor
open Go.ChangeShapes Go.WideShapes Go.ChangeAt Go.RowKit
set_option linter.unusedVariables false
set_option linter.unusedSimpArgs false
/-- One bank, of limit 30, and k domains. -/
def jG : Nat → BSt
  | 0 => openedB st0 (-1) 30
  | k + 1 => boughtD (jG k) 0 k 0
theorem jG_nb : ∀ k, (jG k).nb = 1
  | 0 => rfl
  | k + 1 => jG_nb k
theorem jG_pr : ∀ k, (jG k).pr = upd (fun _ => 0) 0 (-1)
  | 0 => rfl
  | k + 1 => jG_pr k
theorem jG_lm : ∀ k, (jG k).lm = upd (fun _ => 0) 0 30
  | 0 => rfl
  | k + 1 => jG_lm k
theorem jG_nt : ∀ k, (jG k).nt = fun _ => false
  | 0 => rfl
  | k + 1 => jG_nt k
theorem jG_pt : ∀ k, (jG k).pt = fun _ => false
  | 0 => rfl
  | k + 1 => jG_pt k
theorem jG_dv : ∀ k, (jG k).dv = fun _ => 0
  | 0 => rfl
  | k + 1 => jG_dv k
theorem jG_dt : ∀ k, (jG k).dt = thN k
  | 0 => by funext i; show false = decide (i < 0); simp
  | k + 1 => by
    show upd (jG k).dt k true = thN (k + 1)
    rw [jG_dt k, thN_put]
theorem jG_us : ∀ k i, 0 ≤ (jG k).us i ∧ (jG k).us i ≤ k
  | 0, i => by
    show 0 ≤ upd (fun _ => (0 : Int)) 0 0 i ∧ upd (fun _ => (0 : Int)) 0 0 i ≤ 0
    unfold upd
    split <;> simp
  | k + 1, i => by
    have h := jG_us k i
    show 0 ≤ addL (jG k).us _ 1 i ∧ addL (jG k).us _ 1 i ≤ ((k + 1 : Nat) : Int)
    unfold addL
    split <;> omega
theorem jG_row : ∀ k i, i < k → ∀ j, j < 107 → (jG k).dW i j = zd1 j
  | 0, i, h, _, _ => by omega
  | k + 1, i, h, j, hj => by
    show updS (jG k).dW k 0 zsD1 i j = zd1 j
    by_cases e : i = k
    · subst e
      exact updS_row _ i j _ hj
    · unfold updS
      rw [if_neg (fun x => e x.1)]
      exact jG_row k i (by omega) j hj
/-- A domain's row that is new. -/
def R0 : Nat → Value := RW (fun _ => 0) 0 1 0 (fun _ _ => 0) 0
theorem jG_df (k : Nat) : DFm (jG k) k (fun _ => R0) := ⟨jG_nt k, jG_pt k, jG_nb k, jG_dt k, jG_dv k, fun i hi j hj => (jG_row k i hi j hj).trans (RW_new j hj)⟩
section
variable {w0 w w' : World} {L : BLoc} {X : SLoc}
theorem sj_rootg (hn : 0 < L.n) (w : World) (h : SJ w0 w L X st0) : Calls Tryz.prog 27 #[.pointer (some ⟨L.P, 0, none⟩), .int .i64 30] w fun e w' => e = .returned (.tuple #[.int .i64 0, .int .i64 0, .nilIface]) ∧ SJ w0 w' L X (jG 0) ∧ UpT L.T w w' :=
  (bwroot_w (D := st0) 30 (by decide) (by decide) 0 (Lib.hid rfl) hn w h.k).mono (fun e w' h9 => ⟨h9.1, h.step h9.2.1 h9.2.2, h9.2.2.up⟩)
theorem sj_domg (k : Nat) (hn : k < L.dn) (hk : k < 30) (w : World) (h : SJ w0 w L X (jG k)) : Calls Tryz.prog 28 #[.pointer (some ⟨L.P, 0, none⟩), .int .i64 0] w fun e w' => e = .returned (.tuple #[.int .i64 k, .int .i64 0, .nilIface]) ∧ SJ w0 w' L X (jG (k + 1)) ∧ UpT L.T w w' := by
  have hus := jG_us k
  exact (bdomain_w (D := jG k) 0 (by rw [jG_nb]; decide) k 0 hn (Lib.hid (by rw [jG_dt, jG_dv]; simp [freeB, thN])) (Lib.hid (fun i hi => by rw [jG_dt, jG_dv]; simp [freeB, thN, hi])) (Lib.hid (by rw [jG_dv])) (Lib.hid (by
    rw [chain0 h (jG_nb k) (by rw [jG_pr]; rfl)]
    have h1 := hus 0
    have h2 : (jG k).lm 0 = 30 := by rw [jG_lm]; rfl
    have h3 : ((0 : Nat) : Int).toNat = 0 := rfl
    simp only [List.any_cons, List.any_nil, Bool.or_false, fullB, h3, h2]
    exact decide_eq_false (by omega))) (Lib.hid (fun i _ => by have := hus i; omega)) w h.k).mono (fun e w' h9 => ⟨h9.1, h.step h9.2.1 h9.2.2, h9.2.2.up⟩)
/-- The queue of a new system is empty, and so it stays. -/
theorem vng (h0 : w.cell? ⟨X.q, 0, none⟩ = some (.slice none 0 0)) (h1 : w.cell? ⟨X.q, 1, none⟩ = some (.map none)) (hz : ∀ j, w.frozen? ⟨X.q, j, none⟩ = false) (hu : UpT L.T w w') (hq : L.T ≤ X.q) : V.VN w' X.q 0 := by
  have hb := hu.2 X.q hq (cell_lt h0)
  exact ⟨(World.cell?_of_block (a := ⟨X.q, 0, none⟩) hb).trans h0, (World.cell?_of_block (a := ⟨X.q, 1, none⟩) hb).trans h1, (World.frozen?_of_block (a := ⟨X.q, 0, none⟩) hb).trans (hz 0), (World.frozen?_of_block (a := ⟨X.q, 1, none⟩) hb).trans (hz 1)⟩
/-- A system as the laws of chapter 23 begin with it. -/
theorem gs_start (hX : FLg X) (k : Nat) (hn : k ≤ L.dn) (hj : SJ w0 w L X (jG k)) (hv : V.VN w X.q 0) : GS w0 w L X k 0 [] (fun _ => R0) [] :=
  ⟨hX, hn, ⟨jG k, hj, jG_df k⟩, ⟨0, V.SN X.q, Nat.le_refl _, .inl ⟨hv, rfl, rfl⟩, fun _ _ h => by cases h⟩, fun k hk => by cases hk⟩
end
end Go.Proofs.YtllcakiomihipaaGreatDoor
namespace Go.Proofs.YtllcakiomihipaaGreatDoor
open Go.ChangeShapes Go.WideShapes Go.ChangeAt Go.RowKit
set_option linter.unusedVariables false
set_option linter.unusedSimpArgs false
section
variable (rg : Nat → Int) (pc st ft : Int) (kk : Nat → Nat → Int) (wt : Int)
theorem RW_st (x : Int) : uF (RW rg pc st ft kk wt) 9 (.int .i64 x) = RW rg pc x ft kk wt := by
  funext j
  unfold uF RW
  by_cases h : j = 9
  · subst h; rfl
  · rw [if_neg h, if_neg h, if_neg h]
theorem RW_wt (x : Int) (hj : ∀ j, j < 107 → True) : ∀ j, j < 107 → uF (RW rg pc st ft kk wt) 106 (.int .i64 x) j = RW rg pc st ft kk x j := by
  intro j hj
  unfold uF RW
  by_cases h : j = 106
  · subst h; rfl
  · rw [if_neg h]
    by_cases h1 : j < 8
    · rw [if_pos h1, if_pos h1]
    · rw [if_neg h1, if_neg h1]
      by_cases h2 : j = 8
      · rw [if_pos h2, if_pos h2]
      · rw [if_neg h2, if_neg h2]
        by_cases h3 : j = 9
        · rw [if_pos h3, if_pos h3]
        · rw [if_neg h3, if_neg h3]
          by_cases h4 : j = 10
          · rw [if_pos h4, if_pos h4]
          · rw [if_neg h4, if_neg h4, if_pos (by omega), if_pos (by omega)]
end
section
variable {w0 w w' : World} {L : BLoc} {X : SLoc} {nd B : Nat} {A : List Nat} {F : Nat → Nat → Value} {l : List Int}
/-- A domain's row, taken out into a box of one's own: what then holds. -/
structure GB (w0 w W : World) (L : BLoc) (X : SLoc) (nd B : Nat) (A : List Nat) (F : Nat → Nat → Value) (l : List Int) (J : Nat) (f : Nat → Value) : Prop where
  gs : GS w0 W L X nd B (J :: A) F l
  gk : GK A w W
  r : W.rangeAt J 0 (rowL f)
  th : World.there W J 0 107
  xj : X.s < J
  nj : J ∉ A
theorem GB.made (h : GS w0 w L X nd B A F l) {w1 : World} (hb : Below w.heap.size w w1) (f : Nat → Value) (Z : Array Value) (hz : Z.size = 107) (T : TypeId) : GB w0 w ((w1.alloc (.cells Z T (0, 0))).setCells w1.heap.size 0 (rowL f)) L X nd B A F l w1.heap.size f := by
  have hx := h.xs
  have hs := hb.size
  have ht : World.there (w1.alloc (.cells Z T (0, 0))) w1.heap.size 0 107 := nthere_new _ _ 107 hz _
  have hb2 : Below w.heap.size w ((w1.alloc (.cells Z T (0, 0))).setCells w1.heap.size 0 (rowL f)) := nbelow_cells (hb.alloc hs _) hs _ _
  refine ⟨h.more hb2 _ hs (by rw [heapSize]; simp), GS.keep hb2 h, World.rangeAt_setCells_same _ _ 0 (rowL f) (by rw [rowL_len]; exact ht), World.there_setCells ht _ _ _, by omega, fun hm => by have := (h.a _ hm).1; omega⟩
theorem GB.set {W : World} {J : Nat} {f : Nat → Value} (h : GB w0 w W L X nd B A F l J f) (i : Nat) (v : Value) : GB w0 w (W.setCell ⟨J, i, none⟩ v) L X nd B A F l J (uF f i v) :=
  ⟨h.gs.cells J (by simp) h.xj i [v], h.gk.trans (GK.cells h.nj W i [v]), range_uF h.r i v, World.there_setCells h.th J i [v], h.xj, h.nj⟩
theorem GB.below {W W2 : World} {J : Nat} {f : Nat → Value} (h : GB w0 w W L X nd B A F l J f) (hb : Below W.heap.size W W2) : GB w0 w W2 L X nd B A F l J f := by
  have hj := (h.gs.a J (by simp)).1
  exact ⟨h.gs.below hb, h.gk.trans ((GS.keep hb h.gs).tail), range_below h.r hb hj, nthere_below h.th hb hj, h.xj, h.nj⟩
theorem GB.cell {W : World} {J : Nat} {f : Nat → Value} (h : GB w0 w W L X nd B A F l J f) (j : Nat) (hj : j < 107) : W.cell? ⟨J, j, none⟩ = some (f j) := rangeD h.r j hj
theorem GB.free {W : World} {J : Nat} {f : Nat → Value} (h : GB w0 w W L X nd B A F l J f) (j : Nat) (hj : j < 107) : W.frozen? ⟨J, j, none⟩ = false := by
  have := (h.th j hj).2
  rwa [Nat.zero_add] at this
set_option maxRecDepth 100000 in
set_option maxHeartbeats 2000000 in
theorem run_is (h : GS w0 w L X nd B A F l) (x : Int) (i : Nat) (hx : Hid (x = (i : Int))) (hi : i < nd) (rg : Nat → Int) (pc st ft : Int) (kk : Nat → Nat → Int) (wt : Int) (hF : Hid (F i = RW rg pc st ft kk wt)) (hR : Hid (∀ q, q < 19 → KRight kk q)) (t1 : 0 ≤ ft) (t2 : ft ≤ 6) (u1 : 0 ≤ wt) (u2 : wt ≤ 536870911) (vs vr : Value) (hE : ErrsAt vs vr w0) :
    Calls Tryz.prog 14 #[.pointer (some ⟨X.s, 0, none⟩), .int .i64 x] w fun e w' => (∃ v, e = .returned v) ∧ GS w0 w' L X nd B A (setF F i (RW rg pc 3 ft kk wt)) l ∧ GK A w w' := by
  have H := Lib.hid h
  have HOne : Hid (∀ j, j < 107 → (RW rg pc st ft kk wt j).oneCell' = true) := Lib.hid (fun j _ => RW_one _ _ _ _ _ _ j)
  have HOneF : Hid (∀ j, j < 107 → (F i j).oneCell' = true) := Lib.hid (by rw [hF.out]; exact HOne.out)
  have HE := Lib.hid hE
  have c1 := h.c1
  clear h hE
  go_enter Tryz.func14, Tryz.ntmps14
  go_upto_region 1 with (first
    | (go_at_call 10; (with_reducible refine ((H.out).get x i hx hi HOneF).mono ?_); rintro e w1 ⟨rfl, hb⟩; have HB1 := Lib.hid hb; clear hb)
    | (refine wpList_store_mid (by rfl) _ _ _ (by rfl) w1.heap.size 0 (rowL (F i)).toArray (by rfl) (by rfl) (by rw [rowL_size]; exact nthere_new _ _ 107 zsize _) (by rw [rowL_size]; exact infoDomS) (rowL_one (F i) HOneF.out) ?_))
  generalize hg : World.setCells _ w1.heap.size 0 _ = w2
  obtain ⟨J, hJ⟩ : ∃ J, J = w1.heap.size := ⟨_, rfl⟩
  have H2 : Hid (GB w0 w w2 L X nd B A F l J (RW rg pc st ft kk wt)) := Lib.hid (by rw [← hg, hJ, ← hF.out]; exact GB.made H.out HB1.out (F i) _ zsize _)
  rw [← hJ]
  clear hg hJ c1
  have j9 := H2.out.cell 9 (by decide)
  rw [RW_9] at j9
  have z9 := H2.out.free 9 (by decide)
  go_upto_region 2 with fail
  generalize hg : World.setCell w2 _ _ = w3
  have H3 : Hid (GB w0 w w3 L X nd B A F l J (RW rg pc 3 ft kk wt)) := Lib.hid (by rw [← hg, ← RW_st rg pc st ft kk wt 3]; exact H2.out.set 9 _)
  clear hg j9 z9
  have HSC : Hid (∀ W, Below w3.heap.size w3 W → (World.cell? W ⟨X.s, 1, none⟩ = some (.pointer (some ⟨L.dP, 0, none⟩)) ∧ World.rangeAt W J 0 (rowL (RW rg pc 3 ft kk wt)))) := (Lib.hid (fun W hW => ⟨((H3.out).below hW).gs.c1, ((H3.out).below hW).r⟩)); obtain ⟨wD, hwD⟩ : ∃ wD, wD = w3.drew := ⟨_, rfl⟩; have HBd : Hid (Below w3.heap.size w3 wD) := (Lib.hid (by rw [hwD]; exact (Below.refl _ _).drew)); refine wp_region_noPanic ?_; refine wp_region_held_drew (S := fun W => (World.cell? W ⟨X.s, 1, none⟩ = some (.pointer (some ⟨L.dP, 0, none⟩)) ∧ World.rangeAt W J 0 (rowL (RW rg pc 3 ft kk wt)))) (by kernel_rfl) (by rw [← hwD]; exact HSC.out _ HBd.out) (fun hHeld => ?_); rw [← hwD] at hHeld ⊢; clear hwD; refine wpAnyH_take (i := 0) (v := ?_) (by rfl) (by kernel_rfl) (by kernel_rfl) (by kernel_rfl) (fun _ _ _ h => h) (Or.inl ⟨by kernel_rfl, ?_⟩) (by assumption) ?_; rotate_left 1; (focus (intro w hSw; (try dsimp only at hSw); simp only [List.getElem_toArray, List.getElem_cons_succ, List.getElem_cons_zero]; all_goals go_simp; all_goals (try with_reducible rfl))); (try simp only [Act.put, List.getElem_toArray, List.getElem_cons_succ, List.getElem_cons_zero, List.setIfInBounds_toArray, List.set_cons_zero, List.set_cons_succ]); refine wpAnyH_take (i := 1) (v := ?_) (by rfl) (by kernel_rfl) (by kernel_rfl) (by kernel_rfl) (fun _ _ _ h => h) (Or.inl ⟨by kernel_rfl, ?_⟩) (by assumption) ?_; rotate_left 1; (focus (intro w hSw; (try dsimp only at hSw); simp only [List.getElem_toArray, List.getElem_cons_succ, List.getElem_cons_zero]; all_goals go_simp; all_goals (try with_reducible rfl))); (try simp only [Act.put, List.getElem_toArray, List.getElem_cons_succ, List.getElem_cons_zero, List.setIfInBounds_toArray, List.set_cons_zero, List.set_cons_succ]); refine wpAnyH_take (i := 2) (v := ?_) (by rfl) (by kernel_rfl) (by kernel_rfl) (by kernel_rfl) (fun _ _ _ h => h) (Or.inl ⟨by kernel_rfl, ?_⟩) (by assumption) ?_; rotate_left 1; (focus (intro w hSw; (try dsimp only at hSw); simp only [List.getElem_toArray, List.getElem_cons_succ, List.getElem_cons_zero]; all_goals go_simp; all_goals (try with_reducible rfl))); (try simp only [Act.put, List.getElem_toArray, List.getElem_cons_succ, List.getElem_cons_zero, List.setIfInBounds_toArray, List.set_cons_zero, List.set_cons_succ]); refine wpAnyH_take (i := 3) (v := ?_) (by rfl) (by kernel_rfl) (by kernel_rfl) (by kernel_rfl) (fun _ _ _ h => h) (Or.inl ⟨by kernel_rfl, ?_⟩) (by assumption) ?_; rotate_left 1; (focus (intro w hSw; (try dsimp only at hSw); simp only [List.getElem_toArray, List.getElem_cons_succ, List.getElem_cons_zero]; all_goals go_simp; all_goals (try with_reducible rfl))); (try simp only [Act.put, List.getElem_toArray, List.getElem_cons_succ, List.getElem_cons_zero, List.setIfInBounds_toArray, List.set_cons_zero, List.set_cons_succ]); refine wpAnyH_take (i := 4) (v := ?_) (by rfl) (by kernel_rfl) (by kernel_rfl) (by kernel_rfl) (fun _ _ _ h => h) (Or.inl ⟨by kernel_rfl, ?_⟩) (by assumption) ?_; rotate_left 1; (focus (intro w hSw; (try dsimp only at hSw); simp only [List.getElem_toArray, List.getElem_cons_succ, List.getElem_cons_zero]; all_goals go_simp; all_goals (try with_reducible rfl))); (try simp only [Act.put, List.getElem_toArray, List.getElem_cons_succ, List.getElem_cons_zero, List.setIfInBounds_toArray, List.set_cons_zero, List.set_cons_succ]); refine wpAnyH_take (i := 5) (v := .agg (rowL (RW rg pc 3 ft kk wt)).toArray) (by rfl) (by kernel_rfl) (by kernel_rfl) (by kernel_rfl) (fun _ _ _ h => h) (yieldsIf_load_mid (by kernel_rfl) 34 (.tmp 4) (by rfl) J 0 (by rfl) (rowL (RW rg pc 3 ft kk wt)) _ (fun w h => h.2) Tryz.underlying34 rfl (by rw [rowL_len]; exact infoDomS)) (by assumption) ?_; (try simp only [Act.put, List.getElem_toArray, List.getElem_cons_succ, List.getElem_cons_zero, List.setIfInBounds_toArray, List.set_cons_zero, List.set_cons_succ]); refine wpAnyH_ready (rs := [6]) (by kernel_rfl) (by simp) ?_; refine AllReadyH.cons (by rfl) (fun K hK => ?_) AllReadyH.nil; rw [if_pos (by kernel_rfl)]; simp only [List.getElem_toArray, List.getElem_cons_succ, List.getElem_cons_zero]; go_wp2_with (first | (go_at_call 11; (with_reducible refine (((H3.out.gs.below HBd.out).put x i hx hi rg pc 3 ft kk wt hR (by decide) (by decide) t1 t2 u1 u2 vs vr HE.out)).mono ?_); rintro e w4 ⟨rfl, hgs, hgk⟩; have H4 := Lib.hid hgs; have K4 := Lib.hid hgk; clear hgs hgk)); refine hK.out _ _ ⟨H4.out.c1, range_same ((H3.out).below HBd.out).r (K4.out.eq J (by simp))⟩ (fun hHeld => ?_); clear hK K; (try simp only [Act.put, List.getElem_toArray, List.getElem_cons_succ, List.getElem_cons_zero, List.setIfInBounds_toArray, List.set_cons_zero, List.set_cons_succ]); refine wpAnyH_done (by kernel_rfl) ?_ _; refine NoPanic.normal ?_
  go_wp2_with fail
  go_end0
  exact ⟨⟨_, rfl⟩, H4.out.tail, H3.out.gk.trans ((GS.keep HBd.out H3.out.gs).tail.trans K4.out.tail)⟩
set_option maxRecDepth 100000 in
set_option maxHeartbeats 2000000 in
theorem state_is (h : GS w0 w L X nd B A F l) (x : Int) (i : Nat) (hx : Hid (x = (i : Int))) (hi : i < nd) (rg : Nat → Int) (pc st ft : Int) (kk : Nat → Nat → Int) (wt : Int) (hF : Hid (F i = RW rg pc st ft kk wt)) :
    Calls Tryz.prog 16 #[.pointer (some ⟨X.s, 0, none⟩), .int .i64 x] w fun e w' => e = .returned (.int .i64 st) ∧ Below w.heap.size w w' := by
  have H := Lib.hid h
  have HOne : Hid (∀ j, j < 107 → (RW rg pc st ft kk wt j).oneCell' = true) := Lib.hid (fun j _ => RW_one _ _ _ _ _ _ j)
  have HOneF : Hid (∀ j, j < 107 → (F i j).oneCell' = true) := Lib.hid (by rw [hF.out]; exact HOne.out)
  have c1 := h.c1
  clear h
  go_enter Tryz.func16, Tryz.ntmps16
  go_upto_region 2 with (first
    | (go_at_call 10; (with_reducible refine ((H.out).get x i hx hi HOneF).mono ?_); rintro e w1 ⟨rfl, hb⟩; have HB1 := Lib.hid hb; clear hb)
    | (refine wpList_store_mid (by rfl) _ _ _ (by rfl) w1.heap.size 0 (rowL (F i)).toArray (by rfl) (by rfl) (by rw [rowL_size]; exact nthere_new _ _ 107 zsize _) (by rw [rowL_size]; exact infoDomS) (rowL_one (F i) HOneF.out) ?_))
  generalize hg : World.setCells _ w1.heap.size 0 _ = w2
  obtain ⟨J, hJ⟩ : ∃ J, J = w1.heap.size := ⟨_, rfl⟩
  have H2 : Hid (GB w0 w w2 L X nd B A F l J (RW rg pc st ft kk wt) ∧ Below w.heap.size w w2) := Lib.hid (by rw [← hg, hJ, ← hF.out]; exact ⟨GB.made H.out HB1.out (F i) _ zsize _, nbelow_cells (HB1.out.alloc HB1.out.size _) HB1.out.size _ _⟩)
  rw [← hJ]
  clear hg hJ c1
  have j9 := H2.out.1.cell 9 (by decide)
  rw [RW_9] at j9
  go_wp2_with fail
  go_ret
  exact ⟨rfl, H2.out.2⟩
end
end Go.Proofs.YtllcakiomihipaaGreatDoor
