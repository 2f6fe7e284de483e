/-
  Vh as one.
-/
import Derived.Test.YtjkbfhojjjkgnaaDoorP15
import Derived.Test.YtjkbfhojjjkgnaaDoorP12
namespace Go.Proofs.YtjkbfhojjjkgnaaDoor
open Go.ChangeShapes Go.WideShapes Go.ChangeAt Go.RowKit
set_option linter.unusedVariables false
set_option linter.unusedSimpArgs false
theorem keepSF {wS w w' : World} {eb db : Nat} {wt P : Int} (he : eb < wS.heap.size) (hd : db < wS.heap.size) (h : Below wS.heap.size wS w ∧ World.cell? w ⟨eb, 0, none⟩ = some (.int .i64 4) ∧ World.cell? w ⟨eb, 26, none⟩ = some (.int .i64 wt) ∧ World.cell? w ⟨eb, 27, none⟩ = some (.int .u32 P) ∧ World.cell? w ⟨db, 8, none⟩ = some (.int .u32 P)) (hb : Below w.heap.size w w') : Below wS.heap.size wS w' ∧ World.cell? w' ⟨eb, 0, none⟩ = some (.int .i64 4) ∧ World.cell? w' ⟨eb, 26, none⟩ = some (.int .i64 wt) ∧ World.cell? w' ⟨eb, 27, none⟩ = some (.int .u32 P) ∧ World.cell? w' ⟨db, 8, none⟩ = some (.int .u32 P) := by
  have hz := h.1.size
  exact ⟨h.1.trans (hb.mono hz), (hb.cell (p := ⟨eb, 0, none⟩) (Nat.lt_of_lt_of_le he hz)).trans h.2.1, (hb.cell (p := ⟨eb, 26, none⟩) (Nat.lt_of_lt_of_le he hz)).trans h.2.2.1, (hb.cell (p := ⟨eb, 27, none⟩) (Nat.lt_of_lt_of_le he hz)).trans h.2.2.2.1, (hb.cell (p := ⟨db, 8, none⟩) (Nat.lt_of_lt_of_le hd hz)).trans h.2.2.2.2⟩
theorem ru_two (w : World) (x y : Int) (T : TypeId) : RU (w.alloc (.cells #[.int .u32 x, .int .u32 y] T (0, 0))) (some ⟨w.heap.size, 0, none⟩) [x, y] := fun j hj => by
  have h2 : j = 0 ∨ j = 1 := by simp at hj; omega
  rcases h2 with rfl | rfl <;> exact ⟨_, rfl, by simp, by simp [Addr.add, List.getD]⟩
theorem cp_low {w0 w wM w3 : World} {mb S : Nat} {a b : Shp} {N cb : Nat} {th : Nat → Bool} {vr_ : Nat → Int} {W : Nat → Nat → Value} {th2 : Nat → Bool} {vr2 : Nat → Int} {W2 : Nat → Nat → Int} {f : Nat → Value} (hm : MemAt wM w3 mb S a b N cb 4 th vr_ W th2 vr2 W2 0 (.slice none 0 0) []) (h0 : Below w0.heap.size w0 w ∧ w.heap.size = w0.heap.size + 1) (h1 : Below w.heap.size w wM) (hd : DomAt w w0.heap.size f) : CpAt w0 w3 mb S a b N cb th vr_ W th2 vr2 W2 0 (.slice none 0 0) [] w0.heap.size f := by
  have hz := h1.size
  have hb := hm.sv.wb
  have hn := hm.n0
  exact ⟨hm.over (h0.1.trans (h1.mono h0.1.size)), by simp, by decide, (hd.below h1).below hm.sv.bel, .inl ⟨Nat.le_refl _, by omega, by omega⟩⟩
theorem g_facts {cs : List Value} {f : Nat → Value} {R : Nat → Int} {K : Nat → Nat → Int} (h : DomV cs f R K) (P : Int) : Ints (updD (updL f 91 (k5 2 0 0 0 1)) 8 (.int .u32 P)) ∧ updD (updL f 91 (k5 2 0 0 0 1)) 8 (.int .u32 P) 8 = .int .u32 P ∧ updD (updL f 91 (k5 2 0 0 0 1)) 8 (.int .u32 P) 91 = .int .i64 2 ∧ updD (updL f 91 (k5 2 0 0 0 1)) 8 (.int .u32 P) 92 = .int .i64 0 ∧ updD (updL f 91 (k5 2 0 0 0 1)) 8 (.int .u32 P) 93 = .int .i64 0 ∧ updD (updL f 91 (k5 2 0 0 0 1)) 8 (.int .u32 P) 94 = .int .i64 0 ∧ updD (updL f 91 (k5 2 0 0 0 1)) 8 (.int .u32 P) 95 = .int .u32 1 ∧ (∀ q, q < 8 → updD (updL f 91 (k5 2 0 0 0 1)) 8 (.int .u32 P) q = .int .u32 (R q)) ∧ ∀ j, j < 16 → KF (updD (updL f 91 (k5 2 0 0 0 1)) 8 (.int .u32 P)) j (K j 0) (K j 1) (K j 2) (K j 3) (K j 4) := by
  refine ⟨(h.ints.key _ _ _ _ _ _).upd _ _ _, rfl, rfl, rfl, rfl, rfl, rfl, fun q hq => ?_, fun j hj => ?_⟩
  · rw [updD_other _ _ _ _ (by omega), updL_out _ _ _ _ (by simp only [k5, List.length_cons, List.length_nil]; omega)]
    exact (h.reg q hq).1
  · exact (h.key j (by omega)).congr (fun q hq => by rw [updD_other _ _ _ _ (by omega), updL_out _ _ _ _ (by simp only [k5, List.length_cons, List.length_nil]; omega)])
set_option maxRecDepth 100000 in
set_option maxHeartbeats 8000000 in
theorem faults_0 (a0 : Array Value) (f : Nat → Value) (R : Nat → Int) (K : Nat → Nat → Int) (hd : DomV a0.toList f R K) (a1 a2 : Int) (u0 : 0 ≤ a1) (u1 : a1 ≤ 4294967295) (hN : Hid (∀ w, Calls Tryd.prog 18 #[.int .i64 a2, .int .i64 3] w fun e w' => e = .returned (.int .i64 0) ∧ w = w')) (vs vr : Value) (xa ya : Addr) (w0 : World) (hE : ErrsAt vs vr w0) (hC : CodeAt (errC xa) (errC ya) w0) :
    Calls Tryd.prog 9 #[.agg a0, .int .u32 a1, .int .i64 a2] w0 fun e w' => e = .returned (.bool true) ∧ Below w0.heap.size w0 w' := by
  have HD := Lib.hid hd
  have hE0 := Lib.hid hE
  have hC0 := Lib.hid hC
  obtain ⟨y, hy⟩ : ∃ y : Nat, a1 % 64 = (y : Int) := ⟨(a1 % 64).toNat, by omega⟩
  have hy2 : a1.tmod 64 = (y : Int) := by rw [Int.tmod_eq_emod_of_nonneg u0]; exact hy
  have hyl : (y : Int) < 64 := by omega
  have HY : Hid (y < 64) := Lib.hid (by omega)
  clear hd hE hC
  go_enter Tryd.func9, Tryd.ntmps9
  go_upto_region 1 with fail
  generalize hA : World.alloc w0 _ = w
  have B0 : Hid (Below w0.heap.size w0 w ∧ w.heap.size = w0.heap.size + 1) := Lib.hid (by rw [← hA]; exact ⟨(Below.refl _ _).alloc (Nat.le_refl _) _, by simp⟩)
  have HX : Hid (DomAt w w0.heap.size f) := Lib.hid (by rw [← hA]; exact dom_boxed HD.out _)
  have HE := Lib.hid (hE0.out.below B0.out.1)
  have HC := Lib.hid (hC0.out.below B0.out.1)
  clear hA
  go_upto_region 5 with (first
    | (go_at_call 10; (with_reducible refine (cfirst_is vs vr _ HE.out).mono ?_); rintro e w1 ⟨rfl, hb⟩; have B1 := Lib.hid hb; clear hb)
    | (go_at_call 20; (with_reducible refine (made17_is (some ⟨w1.heap.size, 0, none⟩) 2 2 zsF (by decide) (Lib.hid rfl) vs vr _ (HE.out.below (B1.out.alloc B1.out.size _)) (ru_two _ _ _ _)).mono ?_); rintro e w3 ⟨mb, S, a, b, N, cb, x, W, W2, rfl, hm, hw⟩; have HM := Lib.hid hm; have HW := Lib.hid hw.out; clear hm hw))
  have HSt : Hid (CpAt w0 w3 mb S a b N cb (upd (fun _ => false) 0 true) (fun _ => 0) W (upd (upd (fun _ => false) 0 true) 1 true) (fun _ => 0) W2 0 (.slice none 0 0) [] w0.heap.size f) := Lib.hid (cp_low HM.out B0.out (B1.out.alloc B1.out.size _) HX.out)
  generalize hB : World.alloc w3 _ = wB
  have HS : Hid (CpAt w0 wB mb S a b N cb (upd (fun _ => false) 0 true) (fun _ => 0) W (upd (upd (fun _ => false) 0 true) 1 true) (fun _ => 0) W2 0 (.slice none 0 0) [] w0.heap.size f) := Lib.hid (by rw [← hB]; exact HSt.out.below ((Below.refl _ _).alloc (Nat.le_refl _) _))
  have HKB : Hid (KeyC wB w3.heap.size 2 0 0 0 1) := Lib.hid (by rw [← hB]; exact KeyC.new _ _ _ _ _ _ _)
  clear hB HM B1 HSt
  have q0 := HKB.out.c0
  have q1 := HKB.out.c1
  have q2 := HKB.out.c2
  have q3 := HKB.out.c3
  have q4 := HKB.out.c4
  have HTh := Lib.hid (dom_there HS.out.d 91 5 (by decide))
  go_upto_region 8 with (refine wpList_store_mid (by rfl) _ _ _ (by rfl) w0.heap.size 91 #[.int .i64 2, .int .i64 0, .int .i64 0, .int .i64 0, .int .u32 1] (by rfl) (by rfl) HTh.out infoKey5 (by simp [Value.oneCell']) ?_; rw [show (#[.int .i64 2, .int .i64 0, .int .i64 0, .int .i64 0, .int .u32 1] : Array Value).toList = k5 2 0 0 0 1 from rfl])
  have HS1 := Lib.hid (HS.out.setsD 91 (k5 2 0 0 0 1) (by decide))
  generalize hD : World.setCells wB _ _ _ = wC at HS1 ⊢
  clear hD q0 q1 q2 q3 q4 HKB HTh HS
  have c8 := HS1.out.d.c 8 (by decide)
  have z8 := HS1.out.d.fr 8
  go_upto_region 18 with (first
    | (go_at_call 18; (with_reducible refine (hN.out _).mono ?_); rintro e w4 ⟨rfl, rfl⟩))
  have HS2 := Lib.hid (HS1.out.set 8 (.int .u32 (y : Int)) (by decide))
  generalize hD : World.setCell wC _ _ = wD at HS2 ⊢
  clear hD c8 z8 HS1
  obtain ⟨g, hg⟩ : ∃ g, g = updD (updL f 91 (k5 2 0 0 0 1)) 8 (.int .u32 (y : Int)) := ⟨_, rfl⟩
  rw [← hg] at HS2
  have HG : Hid (Ints g ∧ g 8 = .int .u32 (y : Int) ∧ g 91 = .int .i64 2 ∧ g 92 = .int .i64 0 ∧ g 93 = .int .i64 0 ∧ g 94 = .int .i64 0 ∧ g 95 = .int .u32 1 ∧ (∀ q, q < 8 → g q = .int .u32 (R q)) ∧ ∀ j, j < 16 → KF g j (K j 0) (K j 1) (K j 2) (K j 3) (K j 4)) := Lib.hid (by rw [hg]; exact g_facts HD.out _)
  clear hg
  obtain ⟨cs, hcs⟩ := dom_array HG.out.1
  have HCs := Lib.hid hcs
  clear hcs
  have HRg := Lib.hid (HCs.out.2.2.1 wD w0.heap.size HS2.out.d)
  go_upto_region 19 with (first
    | (refine wpList_load_mid (by rfl) _ _ (by rfl) w0.heap.size 0 (by rfl) cs.toList _ HRg.out Tryd.underlying30 rfl (by rw [Array.length_toList, HCs.out.1]; exact infoDom) ?_; rw [show cs.toList.toArray = cs from by simp])
    | (refine wpList_store_mid (by rfl) _ _ _ (by rfl) wD.heap.size 0 cs (by rfl) (by rfl) (by rw [HCs.out.1]; exact there_new wD _ _ zeroDom_size _) (by rw [HCs.out.1]; exact infoDom) HCs.out.2.1 ?_))
  generalize hD : World.setCells (World.alloc wD _) _ _ _ = wL
  have HBL : Hid (Below wD.heap.size wD wL) := Lib.hid (by rw [← hD]; exact below_cells ((Below.refl _ _).alloc (Nat.le_refl _) _) (Nat.le_refl _) _ _)
  have HD2 : Hid (DomAt wL wD.heap.size g) := Lib.hid (by
    rw [← hD]
    exact (dom_cells _ _ cs HCs.out.1 (there_new wD _ _ zeroDom_size _) (by simp) (fun j => by simp)).congr (fun j hj => by have h := HCs.out.2.2.2 j hj; rw [Array.getElem?_toList] at h; simp [Array.getD, HCs.out.1, hj] at h ⊢; exact h))
  have HF2 := Lib.hid (HS2.out.far wD.heap.size (Nat.le_refl _) HBL.out HD2.out.lt)
  have HS3 := Lib.hid (HS2.out.below HBL.out)
  clear hD
  have HStep : Hid (∀ w1 hits1 v1 E1, CpAt w0 w1 mb S a b N cb (upd (fun _ => false) 0 true) (fun _ => 0) W (upd (upd (fun _ => false) 0 true) 1 true) (fun _ => 0) W2 hits1 v1 E1 w0.heap.size g → hits1 ≤ 1000000 → Calls Tryd.prog 21 #[.pointer (some ⟨mb, 0, none⟩), .pointer (some ⟨w0.heap.size, 0, none⟩)] w1 fun e w' => e = .returned (.agg (evA 4 1 (y : Int))) ∧ CQ w0 w1 mb S a b N cb (upd (fun _ => false) 0 true) (fun _ => 0) W (upd (upd (fun _ => false) 0 true) 1 true) (fun _ => 0) W2 hits1 (hits1 + 1) v1 E1 w0.heap.size g w') := Lib.hid (by
    have HG1 := HG.out
    obtain ⟨i, x', hi, hx', hix⟩ : ∃ i x' : Nat, i < 2 ∧ x' < 32 ∧ y = i * 32 + x' := ⟨y / 32, y % 32, by have := HY.out; omega, by omega, by omega⟩
    have hz : W2 i x' = 0 ∨ W2 i x' = 2147483648 := by
      have h2 : i = 0 ∨ i = 1 := by omega
      rcases h2 with rfl | rfl
      · rw [HW.out.p0 x' hx']; exact zsF_at x'
      · exact .inl (HW.out.p1 x' hx')
    obtain ⟨p0, p1, p2, p3, p4, hp, hok, z0, z1⟩ := noWord hz
    exact fun w1 hits1 v1 E1 h hh => cstep_word 2 0 0 0 1 (y : Int) y (Lib.hid rfl) (by have := HY.out; omega) [0] (i : Int) (x' : Int) false i x' (Lib.hid ⟨rfl, rfl⟩) (by rw [HW.out.bn]; omega) hx' (Lib.hid (live_to i hi)) _ (Lib.hid rfl) z0 z1 p0 p1 p2 p3 p4 (Lib.hid hp) (Lib.hid hok) HG1.2.1 HG1.2.2.1 HG1.2.2.2.1 HG1.2.2.2.2.1 HG1.2.2.2.2.2.1 HG1.2.2.2.2.2.2.1 (Lib.hid hh) (Lib.hid (way_to HW.out i x' y hi hx' hix)) xa ya hC0.out w1 h)
  have HX0 : Hid (w0.heap.size < wL.heap.size) := Lib.hid HS3.out.d.lt
  go_upto_region 20 with fail
  go_loopw [13] (fun ti wr => ∃ (k : Nat) (hits : Int) (v : Value) (E : List EW), ti = .int .i64 k ∧ k ≤ 2 ∧ CpAt w0 wr mb S a b N cb (upd (fun _ => false) 0 true) (fun _ => 0) W (upd (upd (fun _ => false) 0 true) 1 true) (fun _ => 0) W2 hits v E w0.heap.size g ∧ hits ≤ (k : Int) ∧ FarD wr N cb v w0.heap.size wD.heap.size ∧ DomAt wr wD.heap.size g) (fun i _ => 2 - (intOf i).toNat)
  case atStart => exact ⟨0, 0, (.slice none 0 0), [], rfl, by decide, HS3.out, by decide, HF2.out, HD2.out⟩
  case round =>
    obtain ⟨k, hits, v, E, rfl, hk, hcp, hh, hfar, hd2⟩ := hrel
    have HCP := Lib.hid hcp
    have HH := Lib.hid hh
    have HFar := Lib.hid hfar
    have HDD := Lib.hid hd2
    clear hcp hh hfar hd2
    by_cases hlt : k < 2
    · have k0 : (0 : Int) ≤ k := by omega
      have k1 : (k : Int) < 2 := by omega
      have HH2 : Hid (hits ≤ 1000000) := Lib.hid (by have := HH.out; omega)
      go_upto_region 23 with (first
        | (go_at_call 21; (with_reducible refine (HStep.out _ hits v E HCP.out HH2.out).mono ?_); rintro e w5 ⟨rfl, hq⟩; have HQ := Lib.hid hq; clear hq)
        | (refine wpList_store_mid (by rfl) _ _ _ (by rfl) w5.heap.size 0 (evA 4 1 (y : Int)) (by rfl) (by rfl) (there_new _ _ _ (by rfl) _) infoEv (evA_one _ _ _) ?_))
      generalize hE6 : World.setCells (World.alloc w5 _) _ _ _ = w6
      have B6 : Hid (Below w5.heap.size w5 w6 ∧ w5.heap.size < w6.heap.size) := Lib.hid (by rw [← hE6]; exact ⟨below_cells ((Below.refl _ _).alloc (Nat.le_refl _) _) (Nat.le_refl _) _ _, by rw [size_setCells]; simp⟩)
      have R6 : Hid (w6.rangeAt w5.heap.size 0 (evA 4 1 (y : Int)).toList) := Lib.hid (by rw [← hE6]; exact (evA_ok _ _ _).stored (there_new _ _ _ rfl _))
      clear hE6
      obtain ⟨hits5, v5, E5, hc5, l1, l2, hk5⟩ := HQ.out
      have HFar5 := Lib.hid ((HFar.out.next hk5).1.below B6.out.1)
      have HD5 := Lib.hid ((HDD.out.same hk5.size (HFar.out.next hk5).2).below B6.out.1)
      have H5 := Lib.hid (hc5.below B6.out.1)
      have HL5 := Lib.hid (And.intro l1 l2)
      clear hc5 l1 l2 hk5 HQ
      have ST : Hid (∀ w', Below w6.heap.size w6 w' → (Below w6.heap.size w6 w' ∧ World.cell? w' ⟨w5.heap.size, 0, none⟩ = some (.int .i64 4) ∧ World.cell? w' ⟨w5.heap.size, 26, none⟩ = some (.int .i64 1) ∧ World.cell? w' ⟨w5.heap.size, 27, none⟩ = some (.int .u32 (y : Int)) ∧ World.cell? w' ⟨w0.heap.size, 8, none⟩ = some (.int .u32 (y : Int)))) := Lib.hid (fun w' hb => ⟨hb, (hb.cell (p := ⟨w5.heap.size, 0, none⟩) B6.out.2).trans (R6.out 0 _ rfl), (hb.cell (p := ⟨w5.heap.size, 26, none⟩) B6.out.2).trans (R6.out 26 _ rfl), (hb.cell (p := ⟨w5.heap.size, 27, none⟩) B6.out.2).trans (R6.out 27 _ rfl), ((H5.out.d.below hb).c 8 (by decide)).trans (by rw [HG.out.2.1])⟩)
      have HWd : Hid (∀ w', Below w6.heap.size w6 w' → Calls Tryd.prog 26 #[.slice (some ⟨w0.heap.size, 0, none⟩) 8 8, .slice (some ⟨wD.heap.size, 0, none⟩) 8 8] w' fun e w'' => e = .returned (.bool true) ∧ Below w'.heap.size w' w'') := Lib.hid (fun w' hb => samewords_yes _ _ 8 8 8 ((List.range 8).map R) (Lib.hid (by simp)) (by decide) w' ((H5.out.d.below hb).regs HG.out.2.2.2.2.2.2.2.1) ((HD5.out.below hb).regs HG.out.2.2.2.2.2.2.2.1))
      have HKy : Hid (∀ w', Below w6.heap.size w6 w' → Calls Tryd.prog 17 #[.slice (some ⟨w0.heap.size, 11, none⟩) 16 16, .slice (some ⟨wD.heap.size, 11, none⟩) 16 16] w' fun e w'' => e = .returned (.bool true) ∧ Below w'.heap.size w' w'') := Lib.hid (fun w' hb => samekeys_off w0.heap.size 11 wD.heap.size 11 16 16 16 K w' (H5.out.d.below hb).lt (HD5.out.below hb).lt (fun q hq => ⟨(H5.out.d.below hb).keys HG.out.2.2.2.2.2.2.2.2 q hq, (HD5.out.below hb).keys HG.out.2.2.2.2.2.2.2.2 q hq⟩) (by decide))
      have HLt : Hid (w5.heap.size < w6.heap.size ∧ w0.heap.size < w6.heap.size) := Lib.hid ⟨B6.out.2, H5.out.d.lt⟩
      go_region_held3 (fun w' => (Below w6.heap.size w6 w' ∧ World.cell? w' ⟨w5.heap.size, 0, none⟩ = some (.int .i64 4) ∧ World.cell? w' ⟨w5.heap.size, 26, none⟩ = some (.int .i64 1) ∧ World.cell? w' ⟨w5.heap.size, 27, none⟩ = some (.int .u32 (y : Int)) ∧ World.cell? w' ⟨w0.heap.size, 8, none⟩ = some (.int .u32 (y : Int)))) (first | exact ST.out _ (Below.refl _ _).drew | exact keepSF HLt.out.1 HLt.out.2 (by assumption) hb)
        (first
          | (go_at_call 26; (with_reducible refine (HWd.out _ (And.left (by assumption))).mono ?_); rintro e w' ⟨rfl, hb⟩)
          | (go_at_call 17; (with_reducible refine (HKy.out _ (And.left (by assumption))).mono ?_); rintro e w' ⟨rfl, hb⟩))
      have hS : (Below w6.heap.size w6 w' ∧ World.cell? w' ⟨w5.heap.size, 0, none⟩ = some (.int .i64 4) ∧ World.cell? w' ⟨w5.heap.size, 26, none⟩ = some (.int .i64 1) ∧ World.cell? w' ⟨w5.heap.size, 27, none⟩ = some (.int .u32 (y : Int)) ∧ World.cell? w' ⟨w0.heap.size, 8, none⟩ = some (.int .u32 (y : Int))) := by assumption
      obtain ⟨hB, -⟩ := hS
      have HB2 := Lib.hid hB
      clear hB
      go_wp2_with fail
      go_roundw
      case rel => exact ⟨k + 1, hits5, v5, E5, by go_num, by omega, H5.out.below HB2.out, by have := HL5.out; have := HH.out; omega, HFar5.out.below HB2.out, HD5.out.below HB2.out⟩
      case measure => simp [intOf]; omega
    · obtain rfl : k = 2 := by omega
      go_wp2_with fail
      go_ret
      exact ⟨rfl, HCP.out.bel⟩
set_option maxRecDepth 100000 in
set_option maxHeartbeats 8000000 in
theorem faults_1 (a0 : Array Value) (f : Nat → Value) (R : Nat → Int) (K : Nat → Nat → Int) (hd : DomV a0.toList f R K) (a1 a2 : Int) (u0 : 0 ≤ a1) (u1 : a1 ≤ 4294967295) (hN : Hid (∀ w, Calls Tryd.prog 18 #[.int .i64 a2, .int .i64 3] w fun e w' => e = .returned (.int .i64 1) ∧ w = w')) (vs vr : Value) (xa ya : Addr) (w0 : World) (hE : ErrsAt vs vr w0) (hC : CodeAt (errC xa) (errC ya) w0) :
    Calls Tryd.prog 9 #[.agg a0, .int .u32 a1, .int .i64 a2] w0 fun e w' => e = .returned (.bool true) ∧ Below w0.heap.size w0 w' := by
  have HD := Lib.hid hd
  have hE0 := Lib.hid hE
  have hC0 := Lib.hid hC
  obtain ⟨y, hy⟩ : ∃ y : Nat, a1 % 64 = (y : Int) := ⟨(a1 % 64).toNat, by omega⟩
  have hy2 : a1.tmod 64 = (y : Int) := by rw [Int.tmod_eq_emod_of_nonneg u0]; exact hy
  have hyl : (y : Int) < 64 := by omega
  have HY : Hid (y < 64) := Lib.hid (by omega)
  clear hd hE hC
  go_enter Tryd.func9, Tryd.ntmps9
  go_upto_region 1 with fail
  generalize hA : World.alloc w0 _ = w
  have B0 : Hid (Below w0.heap.size w0 w ∧ w.heap.size = w0.heap.size + 1) := Lib.hid (by rw [← hA]; exact ⟨(Below.refl _ _).alloc (Nat.le_refl _) _, by simp⟩)
  have HX : Hid (DomAt w w0.heap.size f) := Lib.hid (by rw [← hA]; exact dom_boxed HD.out _)
  have HE := Lib.hid (hE0.out.below B0.out.1)
  have HC := Lib.hid (hC0.out.below B0.out.1)
  clear hA
  go_upto_region 5 with (first
    | (go_at_call 10; (with_reducible refine (cfirst_is vs vr _ HE.out).mono ?_); rintro e w1 ⟨rfl, hb⟩; have B1 := Lib.hid hb; clear hb)
    | (go_at_call 20; (with_reducible refine (made17_is (some ⟨w1.heap.size, 0, none⟩) 2 2 zsF (by decide) (Lib.hid rfl) vs vr _ (HE.out.below (B1.out.alloc B1.out.size _)) (ru_two _ _ _ _)).mono ?_); rintro e w3 ⟨mb, S, a, b, N, cb, x, W, W2, rfl, hm, hw⟩; have HM := Lib.hid hm; have HW := Lib.hid hw.out; clear hm hw))
  have HSt : Hid (CpAt w0 w3 mb S a b N cb (upd (fun _ => false) 0 true) (fun _ => 0) W (upd (upd (fun _ => false) 0 true) 1 true) (fun _ => 0) W2 0 (.slice none 0 0) [] w0.heap.size f) := Lib.hid (cp_low HM.out B0.out (B1.out.alloc B1.out.size _) HX.out)
  generalize hB : World.alloc w3 _ = wB
  have HS : Hid (CpAt w0 wB mb S a b N cb (upd (fun _ => false) 0 true) (fun _ => 0) W (upd (upd (fun _ => false) 0 true) 1 true) (fun _ => 0) W2 0 (.slice none 0 0) [] w0.heap.size f) := Lib.hid (by rw [← hB]; exact HSt.out.below ((Below.refl _ _).alloc (Nat.le_refl _) _))
  have HKB : Hid (KeyC wB w3.heap.size 2 0 0 0 1) := Lib.hid (by rw [← hB]; exact KeyC.new _ _ _ _ _ _ _)
  clear hB HM B1 HSt
  have q0 := HKB.out.c0
  have q1 := HKB.out.c1
  have q2 := HKB.out.c2
  have q3 := HKB.out.c3
  have q4 := HKB.out.c4
  have HTh := Lib.hid (dom_there HS.out.d 91 5 (by decide))
  go_upto_region 8 with (refine wpList_store_mid (by rfl) _ _ _ (by rfl) w0.heap.size 91 #[.int .i64 2, .int .i64 0, .int .i64 0, .int .i64 0, .int .u32 1] (by rfl) (by rfl) HTh.out infoKey5 (by simp [Value.oneCell']) ?_; rw [show (#[.int .i64 2, .int .i64 0, .int .i64 0, .int .i64 0, .int .u32 1] : Array Value).toList = k5 2 0 0 0 1 from rfl])
  have HS1 := Lib.hid (HS.out.setsD 91 (k5 2 0 0 0 1) (by decide))
  generalize hD : World.setCells wB _ _ _ = wC at HS1 ⊢
  clear hD q0 q1 q2 q3 q4 HKB HTh HS
  have c8 := HS1.out.d.c 8 (by decide)
  have z8 := HS1.out.d.fr 8
  go_upto_region 18 with (first
    | (go_at_call 18; (with_reducible refine (hN.out _).mono ?_); rintro e w4 ⟨rfl, rfl⟩))
  have HS2 := Lib.hid (HS1.out.set 8 (.int .u32 ((y : Int) + 64)) (by decide))
  generalize hD : World.setCell wC _ _ = wD at HS2 ⊢
  clear hD c8 z8 HS1
  obtain ⟨g, hg⟩ : ∃ g, g = updD (updL f 91 (k5 2 0 0 0 1)) 8 (.int .u32 ((y : Int) + 64)) := ⟨_, rfl⟩
  rw [← hg] at HS2
  have HG : Hid (Ints g ∧ g 8 = .int .u32 ((y : Int) + 64) ∧ g 91 = .int .i64 2 ∧ g 92 = .int .i64 0 ∧ g 93 = .int .i64 0 ∧ g 94 = .int .i64 0 ∧ g 95 = .int .u32 1 ∧ (∀ q, q < 8 → g q = .int .u32 (R q)) ∧ ∀ j, j < 16 → KF g j (K j 0) (K j 1) (K j 2) (K j 3) (K j 4)) := Lib.hid (by rw [hg]; exact g_facts HD.out _)
  clear hg
  obtain ⟨cs, hcs⟩ := dom_array HG.out.1
  have HCs := Lib.hid hcs
  clear hcs
  have HRg := Lib.hid (HCs.out.2.2.1 wD w0.heap.size HS2.out.d)
  go_upto_region 19 with (first
    | (refine wpList_load_mid (by rfl) _ _ (by rfl) w0.heap.size 0 (by rfl) cs.toList _ HRg.out Tryd.underlying30 rfl (by rw [Array.length_toList, HCs.out.1]; exact infoDom) ?_; rw [show cs.toList.toArray = cs from by simp])
    | (refine wpList_store_mid (by rfl) _ _ _ (by rfl) wD.heap.size 0 cs (by rfl) (by rfl) (by rw [HCs.out.1]; exact there_new wD _ _ zeroDom_size _) (by rw [HCs.out.1]; exact infoDom) HCs.out.2.1 ?_))
  generalize hD : World.setCells (World.alloc wD _) _ _ _ = wL
  have HBL : Hid (Below wD.heap.size wD wL) := Lib.hid (by rw [← hD]; exact below_cells ((Below.refl _ _).alloc (Nat.le_refl _) _) (Nat.le_refl _) _ _)
  have HD2 : Hid (DomAt wL wD.heap.size g) := Lib.hid (by
    rw [← hD]
    exact (dom_cells _ _ cs HCs.out.1 (there_new wD _ _ zeroDom_size _) (by simp) (fun j => by simp)).congr (fun j hj => by have h := HCs.out.2.2.2 j hj; rw [Array.getElem?_toList] at h; simp [Array.getD, HCs.out.1, hj] at h ⊢; exact h))
  have HF2 := Lib.hid (HS2.out.far wD.heap.size (Nat.le_refl _) HBL.out HD2.out.lt)
  have HS3 := Lib.hid (HS2.out.below HBL.out)
  clear hD
  have HStep : Hid (∀ w1 hits1 v1 E1, CpAt w0 w1 mb S a b N cb (upd (fun _ => false) 0 true) (fun _ => 0) W (upd (upd (fun _ => false) 0 true) 1 true) (fun _ => 0) W2 hits1 v1 E1 w0.heap.size g → hits1 ≤ 1000000 → Calls Tryd.prog 21 #[.pointer (some ⟨mb, 0, none⟩), .pointer (some ⟨w0.heap.size, 0, none⟩)] w1 fun e w' => e = .returned (.agg (evA 4 2 ((y : Int) + 64))) ∧ CQ w0 w1 mb S a b N cb (upd (fun _ => false) 0 true) (fun _ => 0) W (upd (upd (fun _ => false) 0 true) 1 true) (fun _ => 0) W2 hits1 (hits1 + 1) v1 E1 w0.heap.size g w') := Lib.hid (by
    have HG1 := HG.out
    obtain ⟨q, s, hq, hq2, hs, hqs⟩ : ∃ q s : Nat, q < 16 ∧ 2 ≤ q ∧ s < 32 ∧ y + 64 = q * 32 + s := ⟨(y + 64) / 32, (y + 64) % 32, by have := HY.out; omega, by omega, by omega, by omega⟩
    exact fun w1 hits1 v1 E1 h hh => cstep_fault 2 0 0 0 1 ((y : Int) + 64) (y + 64) (Lib.hid (by omega)) (by have := HY.out; omega) [0] 0 0 false 2 (by decide) HG1.2.1 HG1.2.2.1 HG1.2.2.2.1 HG1.2.2.2.2.1 HG1.2.2.2.2.2.1 HG1.2.2.2.2.2.2.1 (Lib.hid hh) (Lib.hid (way_void HW.out q s (y + 64) hq hq2 hs hqs)) w1 h)
  have HX0 : Hid (w0.heap.size < wL.heap.size) := Lib.hid HS3.out.d.lt
  go_upto_region 20 with fail
  go_loopw [13] (fun ti wr => ∃ (k : Nat) (hits : Int) (v : Value) (E : List EW), ti = .int .i64 k ∧ k ≤ 2 ∧ CpAt w0 wr mb S a b N cb (upd (fun _ => false) 0 true) (fun _ => 0) W (upd (upd (fun _ => false) 0 true) 1 true) (fun _ => 0) W2 hits v E w0.heap.size g ∧ hits ≤ (k : Int) ∧ FarD wr N cb v w0.heap.size wD.heap.size ∧ DomAt wr wD.heap.size g) (fun i _ => 2 - (intOf i).toNat)
  case atStart => exact ⟨0, 0, (.slice none 0 0), [], rfl, by decide, HS3.out, by decide, HF2.out, HD2.out⟩
  case round =>
    obtain ⟨k, hits, v, E, rfl, hk, hcp, hh, hfar, hd2⟩ := hrel
    have HCP := Lib.hid hcp
    have HH := Lib.hid hh
    have HFar := Lib.hid hfar
    have HDD := Lib.hid hd2
    clear hcp hh hfar hd2
    by_cases hlt : k < 2
    · have k0 : (0 : Int) ≤ k := by omega
      have k1 : (k : Int) < 2 := by omega
      have HH2 : Hid (hits ≤ 1000000) := Lib.hid (by have := HH.out; omega)
      go_upto_region 23 with (first
        | (go_at_call 21; (with_reducible refine (HStep.out _ hits v E HCP.out HH2.out).mono ?_); rintro e w5 ⟨rfl, hq⟩; have HQ := Lib.hid hq; clear hq)
        | (refine wpList_store_mid (by rfl) _ _ _ (by rfl) w5.heap.size 0 (evA 4 2 ((y : Int) + 64)) (by rfl) (by rfl) (there_new _ _ _ (by rfl) _) infoEv (evA_one _ _ _) ?_))
      generalize hE6 : World.setCells (World.alloc w5 _) _ _ _ = w6
      have B6 : Hid (Below w5.heap.size w5 w6 ∧ w5.heap.size < w6.heap.size) := Lib.hid (by rw [← hE6]; exact ⟨below_cells ((Below.refl _ _).alloc (Nat.le_refl _) _) (Nat.le_refl _) _ _, by rw [size_setCells]; simp⟩)
      have R6 : Hid (w6.rangeAt w5.heap.size 0 (evA 4 2 ((y : Int) + 64)).toList) := Lib.hid (by rw [← hE6]; exact (evA_ok _ _ _).stored (there_new _ _ _ rfl _))
      clear hE6
      obtain ⟨hits5, v5, E5, hc5, l1, l2, hk5⟩ := HQ.out
      have HFar5 := Lib.hid ((HFar.out.next hk5).1.below B6.out.1)
      have HD5 := Lib.hid ((HDD.out.same hk5.size (HFar.out.next hk5).2).below B6.out.1)
      have H5 := Lib.hid (hc5.below B6.out.1)
      have HL5 := Lib.hid (And.intro l1 l2)
      clear hc5 l1 l2 hk5 HQ
      have ST : Hid (∀ w', Below w6.heap.size w6 w' → (Below w6.heap.size w6 w' ∧ World.cell? w' ⟨w5.heap.size, 0, none⟩ = some (.int .i64 4) ∧ World.cell? w' ⟨w5.heap.size, 26, none⟩ = some (.int .i64 2) ∧ World.cell? w' ⟨w5.heap.size, 27, none⟩ = some (.int .u32 ((y : Int) + 64)) ∧ World.cell? w' ⟨w0.heap.size, 8, none⟩ = some (.int .u32 ((y : Int) + 64)))) := Lib.hid (fun w' hb => ⟨hb, (hb.cell (p := ⟨w5.heap.size, 0, none⟩) B6.out.2).trans (R6.out 0 _ rfl), (hb.cell (p := ⟨w5.heap.size, 26, none⟩) B6.out.2).trans (R6.out 26 _ rfl), (hb.cell (p := ⟨w5.heap.size, 27, none⟩) B6.out.2).trans (R6.out 27 _ rfl), ((H5.out.d.below hb).c 8 (by decide)).trans (by rw [HG.out.2.1])⟩)
      have HWd : Hid (∀ w', Below w6.heap.size w6 w' → Calls Tryd.prog 26 #[.slice (some ⟨w0.heap.size, 0, none⟩) 8 8, .slice (some ⟨wD.heap.size, 0, none⟩) 8 8] w' fun e w'' => e = .returned (.bool true) ∧ Below w'.heap.size w' w'') := Lib.hid (fun w' hb => samewords_yes _ _ 8 8 8 ((List.range 8).map R) (Lib.hid (by simp)) (by decide) w' ((H5.out.d.below hb).regs HG.out.2.2.2.2.2.2.2.1) ((HD5.out.below hb).regs HG.out.2.2.2.2.2.2.2.1))
      have HKy : Hid (∀ w', Below w6.heap.size w6 w' → Calls Tryd.prog 17 #[.slice (some ⟨w0.heap.size, 11, none⟩) 16 16, .slice (some ⟨wD.heap.size, 11, none⟩) 16 16] w' fun e w'' => e = .returned (.bool true) ∧ Below w'.heap.size w' w'') := Lib.hid (fun w' hb => samekeys_off w0.heap.size 11 wD.heap.size 11 16 16 16 K w' (H5.out.d.below hb).lt (HD5.out.below hb).lt (fun q hq => ⟨(H5.out.d.below hb).keys HG.out.2.2.2.2.2.2.2.2 q hq, (HD5.out.below hb).keys HG.out.2.2.2.2.2.2.2.2 q hq⟩) (by decide))
      have HLt : Hid (w5.heap.size < w6.heap.size ∧ w0.heap.size < w6.heap.size) := Lib.hid ⟨B6.out.2, H5.out.d.lt⟩
      go_region_held3 (fun w' => (Below w6.heap.size w6 w' ∧ World.cell? w' ⟨w5.heap.size, 0, none⟩ = some (.int .i64 4) ∧ World.cell? w' ⟨w5.heap.size, 26, none⟩ = some (.int .i64 2) ∧ World.cell? w' ⟨w5.heap.size, 27, none⟩ = some (.int .u32 ((y : Int) + 64)) ∧ World.cell? w' ⟨w0.heap.size, 8, none⟩ = some (.int .u32 ((y : Int) + 64)))) (first | exact ST.out _ (Below.refl _ _).drew | exact keepSF HLt.out.1 HLt.out.2 (by assumption) hb)
        (first
          | (go_at_call 26; (with_reducible refine (HWd.out _ (And.left (by assumption))).mono ?_); rintro e w' ⟨rfl, hb⟩)
          | (go_at_call 17; (with_reducible refine (HKy.out _ (And.left (by assumption))).mono ?_); rintro e w' ⟨rfl, hb⟩))
      have hS : (Below w6.heap.size w6 w' ∧ World.cell? w' ⟨w5.heap.size, 0, none⟩ = some (.int .i64 4) ∧ World.cell? w' ⟨w5.heap.size, 26, none⟩ = some (.int .i64 2) ∧ World.cell? w' ⟨w5.heap.size, 27, none⟩ = some (.int .u32 ((y : Int) + 64)) ∧ World.cell? w' ⟨w0.heap.size, 8, none⟩ = some (.int .u32 ((y : Int) + 64))) := by assumption
      obtain ⟨hB, -⟩ := hS
      have HB2 := Lib.hid hB
      clear hB
      go_wp2_with fail
      go_roundw
      case rel => exact ⟨k + 1, hits5, v5, E5, by go_num, by omega, H5.out.below HB2.out, by have := HL5.out; have := HH.out; omega, HFar5.out.below HB2.out, HD5.out.below HB2.out⟩
      case measure => simp [intOf]; omega
    · obtain rfl : k = 2 := by omega
      go_wp2_with fail
      go_ret
      exact ⟨rfl, HCP.out.bel⟩
set_option maxRecDepth 100000 in
set_option maxHeartbeats 8000000 in
theorem faults_2 (a0 : Array Value) (f : Nat → Value) (R : Nat → Int) (K : Nat → Nat → Int) (hd : DomV a0.toList f R K) (a1 a2 : Int) (u0 : 0 ≤ a1) (u1 : a1 ≤ 4294967295) (hN : Hid (∀ w, Calls Tryd.prog 18 #[.int .i64 a2, .int .i64 3] w fun e w' => e = .returned (.int .i64 2) ∧ w = w')) (vs vr : Value) (xa ya : Addr) (w0 : World) (hE : ErrsAt vs vr w0) (hC : CodeAt (errC xa) (errC ya) w0) :
    Calls Tryd.prog 9 #[.agg a0, .int .u32 a1, .int .i64 a2] w0 fun e w' => e = .returned (.bool true) ∧ Below w0.heap.size w0 w' := by
  have HD := Lib.hid hd
  have hE0 := Lib.hid hE
  have hC0 := Lib.hid hC
  obtain ⟨y, hy⟩ : ∃ y : Nat, a1 % 64 = (y : Int) := ⟨(a1 % 64).toNat, by omega⟩
  have hy2 : a1.tmod 64 = (y : Int) := by rw [Int.tmod_eq_emod_of_nonneg u0]; exact hy
  have hyl : (y : Int) < 64 := by omega
  have HY : Hid (y < 64) := Lib.hid (by omega)
  clear hd hE hC
  go_enter Tryd.func9, Tryd.ntmps9
  go_upto_region 1 with fail
  generalize hA : World.alloc w0 _ = w
  have B0 : Hid (Below w0.heap.size w0 w ∧ w.heap.size = w0.heap.size + 1) := Lib.hid (by rw [← hA]; exact ⟨(Below.refl _ _).alloc (Nat.le_refl _) _, by simp⟩)
  have HX : Hid (DomAt w w0.heap.size f) := Lib.hid (by rw [← hA]; exact dom_boxed HD.out _)
  have HE := Lib.hid (hE0.out.below B0.out.1)
  have HC := Lib.hid (hC0.out.below B0.out.1)
  clear hA
  go_upto_region 5 with (first
    | (go_at_call 10; (with_reducible refine (cfirst_is vs vr _ HE.out).mono ?_); rintro e w1 ⟨rfl, hb⟩; have B1 := Lib.hid hb; clear hb)
    | (go_at_call 20; (with_reducible refine (made17_is (some ⟨w1.heap.size, 0, none⟩) 2 2 zsF (by decide) (Lib.hid rfl) vs vr _ (HE.out.below (B1.out.alloc B1.out.size _)) (ru_two _ _ _ _)).mono ?_); rintro e w3 ⟨mb, S, a, b, N, cb, x, W, W2, rfl, hm, hw⟩; have HM := Lib.hid hm; have HW := Lib.hid hw.out; clear hm hw))
  have HSt : Hid (CpAt w0 w3 mb S a b N cb (upd (fun _ => false) 0 true) (fun _ => 0) W (upd (upd (fun _ => false) 0 true) 1 true) (fun _ => 0) W2 0 (.slice none 0 0) [] w0.heap.size f) := Lib.hid (cp_low HM.out B0.out (B1.out.alloc B1.out.size _) HX.out)
  generalize hB : World.alloc w3 _ = wB
  have HS : Hid (CpAt w0 wB mb S a b N cb (upd (fun _ => false) 0 true) (fun _ => 0) W (upd (upd (fun _ => false) 0 true) 1 true) (fun _ => 0) W2 0 (.slice none 0 0) [] w0.heap.size f) := Lib.hid (by rw [← hB]; exact HSt.out.below ((Below.refl _ _).alloc (Nat.le_refl _) _))
  have HKB : Hid (KeyC wB w3.heap.size 2 0 0 0 1) := Lib.hid (by rw [← hB]; exact KeyC.new _ _ _ _ _ _ _)
  clear hB HM B1 HSt
  have q0 := HKB.out.c0
  have q1 := HKB.out.c1
  have q2 := HKB.out.c2
  have q3 := HKB.out.c3
  have q4 := HKB.out.c4
  have HTh := Lib.hid (dom_there HS.out.d 91 5 (by decide))
  go_upto_region 8 with (refine wpList_store_mid (by rfl) _ _ _ (by rfl) w0.heap.size 91 #[.int .i64 2, .int .i64 0, .int .i64 0, .int .i64 0, .int .u32 1] (by rfl) (by rfl) HTh.out infoKey5 (by simp [Value.oneCell']) ?_; rw [show (#[.int .i64 2, .int .i64 0, .int .i64 0, .int .i64 0, .int .u32 1] : Array Value).toList = k5 2 0 0 0 1 from rfl])
  have HS1 := Lib.hid (HS.out.setsD 91 (k5 2 0 0 0 1) (by decide))
  generalize hD : World.setCells wB _ _ _ = wC at HS1 ⊢
  clear hD q0 q1 q2 q3 q4 HKB HTh HS
  have c8 := HS1.out.d.c 8 (by decide)
  have z8 := HS1.out.d.fr 8
  go_upto_region 18 with (first
    | (go_at_call 18; (with_reducible refine (hN.out _).mono ?_); rintro e w4 ⟨rfl, rfl⟩))
  have HS2 := Lib.hid (HS1.out.set 8 (.int .u32 ((y : Int) + 512)) (by decide))
  generalize hD : World.setCell wC _ _ = wD at HS2 ⊢
  clear hD c8 z8 HS1
  obtain ⟨g, hg⟩ : ∃ g, g = updD (updL f 91 (k5 2 0 0 0 1)) 8 (.int .u32 ((y : Int) + 512)) := ⟨_, rfl⟩
  rw [← hg] at HS2
  have HG : Hid (Ints g ∧ g 8 = .int .u32 ((y : Int) + 512) ∧ g 91 = .int .i64 2 ∧ g 92 = .int .i64 0 ∧ g 93 = .int .i64 0 ∧ g 94 = .int .i64 0 ∧ g 95 = .int .u32 1 ∧ (∀ q, q < 8 → g q = .int .u32 (R q)) ∧ ∀ j, j < 16 → KF g j (K j 0) (K j 1) (K j 2) (K j 3) (K j 4)) := Lib.hid (by rw [hg]; exact g_facts HD.out _)
  clear hg
  obtain ⟨cs, hcs⟩ := dom_array HG.out.1
  have HCs := Lib.hid hcs
  clear hcs
  have HRg := Lib.hid (HCs.out.2.2.1 wD w0.heap.size HS2.out.d)
  go_upto_region 19 with (first
    | (refine wpList_load_mid (by rfl) _ _ (by rfl) w0.heap.size 0 (by rfl) cs.toList _ HRg.out Tryd.underlying30 rfl (by rw [Array.length_toList, HCs.out.1]; exact infoDom) ?_; rw [show cs.toList.toArray = cs from by simp])
    | (refine wpList_store_mid (by rfl) _ _ _ (by rfl) wD.heap.size 0 cs (by rfl) (by rfl) (by rw [HCs.out.1]; exact there_new wD _ _ zeroDom_size _) (by rw [HCs.out.1]; exact infoDom) HCs.out.2.1 ?_))
  generalize hD : World.setCells (World.alloc wD _) _ _ _ = wL
  have HBL : Hid (Below wD.heap.size wD wL) := Lib.hid (by rw [← hD]; exact below_cells ((Below.refl _ _).alloc (Nat.le_refl _) _) (Nat.le_refl _) _ _)
  have HD2 : Hid (DomAt wL wD.heap.size g) := Lib.hid (by
    rw [← hD]
    exact (dom_cells _ _ cs HCs.out.1 (there_new wD _ _ zeroDom_size _) (by simp) (fun j => by simp)).congr (fun j hj => by have h := HCs.out.2.2.2 j hj; rw [Array.getElem?_toList] at h; simp [Array.getD, HCs.out.1, hj] at h ⊢; exact h))
  have HF2 := Lib.hid (HS2.out.far wD.heap.size (Nat.le_refl _) HBL.out HD2.out.lt)
  have HS3 := Lib.hid (HS2.out.below HBL.out)
  clear hD
  have HStep : Hid (∀ w1 hits1 v1 E1, CpAt w0 w1 mb S a b N cb (upd (fun _ => false) 0 true) (fun _ => 0) W (upd (upd (fun _ => false) 0 true) 1 true) (fun _ => 0) W2 hits1 v1 E1 w0.heap.size g → hits1 ≤ 1000000 → Calls Tryd.prog 21 #[.pointer (some ⟨mb, 0, none⟩), .pointer (some ⟨w0.heap.size, 0, none⟩)] w1 fun e w' => e = .returned (.agg (evA 4 3 ((y : Int) + 512))) ∧ CQ w0 w1 mb S a b N cb (upd (fun _ => false) 0 true) (fun _ => 0) W (upd (upd (fun _ => false) 0 true) 1 true) (fun _ => 0) W2 hits1 (hits1 + 1) v1 E1 w0.heap.size g w') := Lib.hid (by
    have HG1 := HG.out
    exact fun w1 hits1 v1 E1 h hh => cstep_fault 2 0 0 0 1 ((y : Int) + 512) (y + 512) (Lib.hid (by omega)) (by have := HY.out; omega) [] 0 0 false 3 (by decide) HG1.2.1 HG1.2.2.1 HG1.2.2.2.1 HG1.2.2.2.2.1 HG1.2.2.2.2.2.1 HG1.2.2.2.2.2.2.1 (Lib.hid hh) (Lib.hid (way_range HW.out (y + 512) (by omega))) w1 h)
  have HX0 : Hid (w0.heap.size < wL.heap.size) := Lib.hid HS3.out.d.lt
  go_upto_region 20 with fail
  go_loopw [13] (fun ti wr => ∃ (k : Nat) (hits : Int) (v : Value) (E : List EW), ti = .int .i64 k ∧ k ≤ 2 ∧ CpAt w0 wr mb S a b N cb (upd (fun _ => false) 0 true) (fun _ => 0) W (upd (upd (fun _ => false) 0 true) 1 true) (fun _ => 0) W2 hits v E w0.heap.size g ∧ hits ≤ (k : Int) ∧ FarD wr N cb v w0.heap.size wD.heap.size ∧ DomAt wr wD.heap.size g) (fun i _ => 2 - (intOf i).toNat)
  case atStart => exact ⟨0, 0, (.slice none 0 0), [], rfl, by decide, HS3.out, by decide, HF2.out, HD2.out⟩
  case round =>
    obtain ⟨k, hits, v, E, rfl, hk, hcp, hh, hfar, hd2⟩ := hrel
    have HCP := Lib.hid hcp
    have HH := Lib.hid hh
    have HFar := Lib.hid hfar
    have HDD := Lib.hid hd2
    clear hcp hh hfar hd2
    by_cases hlt : k < 2
    · have k0 : (0 : Int) ≤ k := by omega
      have k1 : (k : Int) < 2 := by omega
      have HH2 : Hid (hits ≤ 1000000) := Lib.hid (by have := HH.out; omega)
      go_upto_region 23 with (first
        | (go_at_call 21; (with_reducible refine (HStep.out _ hits v E HCP.out HH2.out).mono ?_); rintro e w5 ⟨rfl, hq⟩; have HQ := Lib.hid hq; clear hq)
        | (refine wpList_store_mid (by rfl) _ _ _ (by rfl) w5.heap.size 0 (evA 4 3 ((y : Int) + 512)) (by rfl) (by rfl) (there_new _ _ _ (by rfl) _) infoEv (evA_one _ _ _) ?_))
      generalize hE6 : World.setCells (World.alloc w5 _) _ _ _ = w6
      have B6 : Hid (Below w5.heap.size w5 w6 ∧ w5.heap.size < w6.heap.size) := Lib.hid (by rw [← hE6]; exact ⟨below_cells ((Below.refl _ _).alloc (Nat.le_refl _) _) (Nat.le_refl _) _ _, by rw [size_setCells]; simp⟩)
      have R6 : Hid (w6.rangeAt w5.heap.size 0 (evA 4 3 ((y : Int) + 512)).toList) := Lib.hid (by rw [← hE6]; exact (evA_ok _ _ _).stored (there_new _ _ _ rfl _))
      clear hE6
      obtain ⟨hits5, v5, E5, hc5, l1, l2, hk5⟩ := HQ.out
      have HFar5 := Lib.hid ((HFar.out.next hk5).1.below B6.out.1)
      have HD5 := Lib.hid ((HDD.out.same hk5.size (HFar.out.next hk5).2).below B6.out.1)
      have H5 := Lib.hid (hc5.below B6.out.1)
      have HL5 := Lib.hid (And.intro l1 l2)
      clear hc5 l1 l2 hk5 HQ
      have ST : Hid (∀ w', Below w6.heap.size w6 w' → (Below w6.heap.size w6 w' ∧ World.cell? w' ⟨w5.heap.size, 0, none⟩ = some (.int .i64 4) ∧ World.cell? w' ⟨w5.heap.size, 26, none⟩ = some (.int .i64 3) ∧ World.cell? w' ⟨w5.heap.size, 27, none⟩ = some (.int .u32 ((y : Int) + 512)) ∧ World.cell? w' ⟨w0.heap.size, 8, none⟩ = some (.int .u32 ((y : Int) + 512)))) := Lib.hid (fun w' hb => ⟨hb, (hb.cell (p := ⟨w5.heap.size, 0, none⟩) B6.out.2).trans (R6.out 0 _ rfl), (hb.cell (p := ⟨w5.heap.size, 26, none⟩) B6.out.2).trans (R6.out 26 _ rfl), (hb.cell (p := ⟨w5.heap.size, 27, none⟩) B6.out.2).trans (R6.out 27 _ rfl), ((H5.out.d.below hb).c 8 (by decide)).trans (by rw [HG.out.2.1])⟩)
      have HWd : Hid (∀ w', Below w6.heap.size w6 w' → Calls Tryd.prog 26 #[.slice (some ⟨w0.heap.size, 0, none⟩) 8 8, .slice (some ⟨wD.heap.size, 0, none⟩) 8 8] w' fun e w'' => e = .returned (.bool true) ∧ Below w'.heap.size w' w'') := Lib.hid (fun w' hb => samewords_yes _ _ 8 8 8 ((List.range 8).map R) (Lib.hid (by simp)) (by decide) w' ((H5.out.d.below hb).regs HG.out.2.2.2.2.2.2.2.1) ((HD5.out.below hb).regs HG.out.2.2.2.2.2.2.2.1))
      have HKy : Hid (∀ w', Below w6.heap.size w6 w' → Calls Tryd.prog 17 #[.slice (some ⟨w0.heap.size, 11, none⟩) 16 16, .slice (some ⟨wD.heap.size, 11, none⟩) 16 16] w' fun e w'' => e = .returned (.bool true) ∧ Below w'.heap.size w' w'') := Lib.hid (fun w' hb => samekeys_off w0.heap.size 11 wD.heap.size 11 16 16 16 K w' (H5.out.d.below hb).lt (HD5.out.below hb).lt (fun q hq => ⟨(H5.out.d.below hb).keys HG.out.2.2.2.2.2.2.2.2 q hq, (HD5.out.below hb).keys HG.out.2.2.2.2.2.2.2.2 q hq⟩) (by decide))
      have HLt : Hid (w5.heap.size < w6.heap.size ∧ w0.heap.size < w6.heap.size) := Lib.hid ⟨B6.out.2, H5.out.d.lt⟩
      go_region_held3 (fun w' => (Below w6.heap.size w6 w' ∧ World.cell? w' ⟨w5.heap.size, 0, none⟩ = some (.int .i64 4) ∧ World.cell? w' ⟨w5.heap.size, 26, none⟩ = some (.int .i64 3) ∧ World.cell? w' ⟨w5.heap.size, 27, none⟩ = some (.int .u32 ((y : Int) + 512)) ∧ World.cell? w' ⟨w0.heap.size, 8, none⟩ = some (.int .u32 ((y : Int) + 512)))) (first | exact ST.out _ (Below.refl _ _).drew | exact keepSF HLt.out.1 HLt.out.2 (by assumption) hb)
        (first
          | (go_at_call 26; (with_reducible refine (HWd.out _ (And.left (by assumption))).mono ?_); rintro e w' ⟨rfl, hb⟩)
          | (go_at_call 17; (with_reducible refine (HKy.out _ (And.left (by assumption))).mono ?_); rintro e w' ⟨rfl, hb⟩))
      have hS : (Below w6.heap.size w6 w' ∧ World.cell? w' ⟨w5.heap.size, 0, none⟩ = some (.int .i64 4) ∧ World.cell? w' ⟨w5.heap.size, 26, none⟩ = some (.int .i64 3) ∧ World.cell? w' ⟨w5.heap.size, 27, none⟩ = some (.int .u32 ((y : Int) + 512)) ∧ World.cell? w' ⟨w0.heap.size, 8, none⟩ = some (.int .u32 ((y : Int) + 512))) := by assumption
      obtain ⟨hB, -⟩ := hS
      have HB2 := Lib.hid hB
      clear hB
      go_wp2_with fail
      go_roundw
      case rel => exact ⟨k + 1, hits5, v5, E5, by go_num, by omega, H5.out.below HB2.out, by have := HL5.out; have := HH.out; omega, HFar5.out.below HB2.out, HD5.out.below HB2.out⟩
      case measure => simp [intOf]; omega
    · obtain rfl : k = 2 := by omega
      go_wp2_with fail
      go_ret
      exact ⟨rfl, HCP.out.bel⟩
theorem walk_CpuFaults (a0 : Array Value) (a1 : Int) (a2 : Int) (w : World) (w0 : Reads Tryd.prog w 30 a0.toList) (w1 : (Lit.int .u32 a1).wf = true) (w2 : (Lit.int .i64 a2).wf = true) (hL : laidMetH Tryd.prog Rows.cpuFaultsRow.laid w) :
    Calls Tryd.prog 9 #[.agg a0, .int .u32 a1, .int .i64 a2] w fun e w' => e = .returned (.bool true) ∧ Below w.heap.size w w' := by
  rw [MakeChecks.laidMetH_plain _ _ _ (by kernel_rfl)] at hL
  obtain ⟨vs, vr, hE⟩ := (errs2 hL ⟨_, by repeat (first | exact List.Mem.head _ | apply List.Mem.tail)⟩ ⟨_, by repeat (first | exact List.Mem.head _ | apply List.Mem.tail)⟩)
  have hC := code_of hL ⟨_, by repeat (first | exact List.Mem.head _ | apply List.Mem.tail)⟩ ⟨_, by repeat (first | exact List.Mem.head _ | apply List.Mem.tail)⟩ (by repeat (first | exact List.Mem.head _ | apply List.Mem.tail))
  obtain ⟨f, R, K, hd⟩ := dom_read w0
  obtain ⟨r, hr, CT⟩ := number_natb a2 3 3 rfl (by decide) (by decide) (i64_fitC w2).1 (i64_fitC w2).2
  have h3 : r = 0 ∨ r = 1 ∨ r = 2 := by omega
  rcases h3 with rfl | rfl | rfl
  · exact faults_0 a0 f R K hd a1 a2 (u32_fit w1).1 (u32_fit w1).2 (Lib.hid CT) vs vr _ _ w hE hC
  · exact faults_1 a0 f R K hd a1 a2 (u32_fit w1).1 (u32_fit w1).2 (Lib.hid CT) vs vr _ _ w hE hC
  · exact faults_2 a0 f R K hd a1 a2 (u32_fit w1).1 (u32_fit w1).2 (Lib.hid CT) vs vr _ _ w hE hC
end Go.Proofs.YtjkbfhojjjkgnaaDoor
