/-
  Vl as one.
-/
import Derived.Test.YtjkbfhojjjkgnaaDoorP16
import Derived.Test.YtjkbfhojjjkgnaaDoorP12
namespace Go.Proofs.YtjkbfhojjjkgnaaDoor
open Go.ChangeShapes Go.WideShapes Go.ChangeAt Go.RowKit
set_option linter.unusedVariables false
set_option linter.unusedSimpArgs false
theorem ok_inv (h q r : Nat) (h3 : h < 3) (hq : q < 16) (hr : r < 16) : okB 11 (h : Int) (q : Int) (r : Int) 0 = true := by
  unfold okB fitB
  simp [fA, fB, fC, fI, hiOf]
  omega
theorem ru_three (w : World) (x y z : Int) (T : TypeId) : RU (w.alloc (.cells #[.int .u32 x, .int .u32 y, .int .u32 z] T (0, 0))) (some ⟨w.heap.size, 0, none⟩) [x, y, z] := fun j hj => by
  have h2 : j = 0 ∨ j = 1 ∨ j = 2 := by simp at hj; omega
  rcases h2 with rfl | rfl | rfl <;> exact ⟨_, rfl, by simp, by simp [Addr.add, List.getD]⟩
theorem i_facts {cs : List Value} {f : Nat → Value} {R : Nat → Int} {K : Nat → Nat → Int} (h : DomV cs f R K) (P : Int) (g : Nat → Value) (hg : g = updD (updL f 91 (k5 2 0 0 0 1)) 8 (.int .u32 P)) : Ints g ∧ g 8 = .int .u32 P ∧ (g 91 = .int .i64 2 ∧ g 92 = .int .i64 0 ∧ g 93 = .int .i64 0 ∧ g 94 = .int .i64 0 ∧ g 95 = .int .u32 1) ∧ (∀ q, q < 8 → g q = .int .u32 (R q)) ∧ ∀ j, j < 16 → KF g j (K j 0) (K j 1) (K j 2) (K j 3) (K j 4) := by
  subst hg
  refine ⟨(h.ints.key _ _ _ _ _ _).upd _ _ _, rfl, ⟨rfl, rfl, rfl, rfl, rfl⟩, fun q hq => ?_, fun j hj => ?_⟩
  · rw [updD_other _ _ _ _ (by omega), updL_out _ _ _ _ (by simp only [k5, List.length_cons, List.length_nil]; omega)]
    exact (h.reg q hq).1
  · exact (h.key j (by omega)).congr (fun q hq => by rw [updD_other _ _ _ _ (by omega), updL_out _ _ _ _ (by simp only [k5, List.length_cons, List.length_nil]; omega)])
theorem updD_twice (f : Nat → Value) (j : Nat) (u u' : Value) : updD (updD f j u) j u' = updD f j u' := by
  funext i
  unfold updD
  by_cases e : i = j
  · rw [if_pos e, if_pos e]
  · rw [if_neg e, if_neg e, if_neg e]
theorem cp_lowI {w0 w wM w3 : World} {mb S : Nat} {a b : Shp} {N cb : Nat} {th : Nat → Bool} {vr_ : Nat → Int} {W : Nat → Nat → Value} {th2 : Nat → Bool} {vr2 : Nat → Int} {W2 : Nat → Nat → Int} {f : Nat → Value} (hm : MemAt wM w3 mb S a b N cb 4 th vr_ W th2 vr2 W2 0 (.slice none 0 0) []) (h0 : Below w0.heap.size w0 w ∧ w.heap.size = w0.heap.size + 1) (h1 : Below w.heap.size w wM) (hd : DomAt w w0.heap.size f) : CpAt w0 w3 mb S a b N cb th vr_ W th2 vr2 W2 0 (.slice none 0 0) [] w0.heap.size f := by
  have hz := h1.size
  have hb := hm.sv.wb
  have hn := hm.n0
  exact ⟨hm.over (h0.1.trans (h1.mono h0.1.size)), by simp, by decide, (hd.below h1).below hm.sv.bel, .inl ⟨Nat.le_refl _, by omega, by omega⟩⟩
theorem below_next {w0 w w' : World} (h : Below w0.heap.size w0 w) (hb : Below w.heap.size w w') : Below w0.heap.size w0 w' := h.trans (hb.mono h.size)
set_option maxRecDepth 100000 in
set_option maxHeartbeats 8000000 in
theorem invokes_any (a0 : Array Value) (f : Nat → Value) (R : Nat → Int) (Y : Nat → Nat → Int) (hd : DomV a0.toList f R Y) (a1 a2 a3 : Int) (hw q r : Nat) (h3 : hw < 3) (hq : q < 16) (hr : r < 16)
    (hN1 : Hid (∀ w, Calls Tryd.prog 18 #[.int .i64 a1, .int .i64 3] w fun e w' => e = .returned (.int .i64 hw) ∧ w = w')) (hN2 : Hid (∀ w, Calls Tryd.prog 18 #[.int .i64 a2, .int .i64 16] w fun e w' => e = .returned (.int .i64 q) ∧ w = w')) (hN3 : Hid (∀ w, Calls Tryd.prog 18 #[.int .i64 a3, .int .i64 16] w fun e w' => e = .returned (.int .i64 r) ∧ w = w')) (vs vr : Value) (xa ya : Addr) (w0 : World) (hE : ErrsAt vs vr w0) (hC : CodeAt (errC xa) (errC ya) w0) :
    Calls Tryd.prog 7 #[.agg a0, .int .i64 a1, .int .i64 a2, .int .i64 a3] w0 fun e w' => e = .returned (.bool true) ∧ Below w0.heap.size w0 w' := by
  have HD := Lib.hid hd
  have hE0 := Lib.hid hE
  have hC0 := Lib.hid hC
  have HL := Lib.hid (And.intro h3 (And.intro hq hr))
  have HOk := Lib.hid (ok_inv hw q r h3 hq hr)
  obtain ⟨wd, hwd⟩ : ∃ wd, Hid (wordC 11 hw q r 0 = wd) := ⟨_, Lib.hid rfl⟩
  have HP : Hid (PartsC wd 11 hw q r 0 ∧ 0 ≤ wd ∧ wd ≤ 4294967295) := Lib.hid (by rw [← hwd.out]; exact partsC_of HOk.out)
  clear hd hE hC h3 hq hr
  go_enter Tryd.func7, Tryd.ntmps7
  go_upto_region 1 with fail
  generalize hA : World.alloc w0 _ = w
  have B0 : Hid (Below w0.heap.size w0 w ∧ w.heap.size = w0.heap.size + 1) := Lib.hid (by rw [← hA]; exact ⟨(Below.refl _ _).alloc (Nat.le_refl _) _, by simp⟩)
  have HX : Hid (DomAt w w0.heap.size f) := Lib.hid (by rw [← hA]; exact dom_boxed HD.out _)
  have HE := Lib.hid (hE0.out.below B0.out.1)
  have HC := Lib.hid (hC0.out.below B0.out.1)
  clear hA
  go_upto_region 9 with (first
    | (go_at_call 10; (with_reducible refine (cfirst_is vs vr _ HE.out).mono ?_); rintro e w1 ⟨rfl, hb⟩; have B1 := Lib.hid hb; clear hb)
    | (go_at_call 18; (with_reducible refine (hN1.out _).mono ?_); rintro e w2 ⟨rfl, rfl⟩)
    | (go_at_call 18; (with_reducible refine (hN2.out _).mono ?_); rintro e w2 ⟨rfl, rfl⟩)
    | (go_at_call 18; (with_reducible refine (hN3.out _).mono ?_); rintro e w2 ⟨rfl, rfl⟩)
    | (go_at_call 25; (with_reducible refine (cword_ok 11 hw q r 0 xa ya _ (HC.out.below B1.out) HOk wd hwd).mono ?_); rintro e w2 ⟨rfl, hb⟩; have B2 := Lib.hid (B1.out.trans (hb.mono B1.out.size)); clear hb)
    | (go_at_call 20; (with_reducible refine (made17_is (some ⟨w2.heap.size, 0, none⟩) 3 3 [0, 0, wd] (by decide) (Lib.hid rfl) vs vr _ (HE.out.below (B2.out.alloc B2.out.size _)) (ru_three _ _ _ _ _)).mono ?_); rintro e w3 ⟨mb, S, a, b, N, cb, x, W, W2, rfl, hm, hw'⟩; have HM := Lib.hid hm; have HW := Lib.hid hw'.out; clear hm hw'))
  have HSt : Hid (CpAt w0 w3 mb S a b N cb (upd (fun _ => false) 0 true) (fun _ => 0) W (upd (upd (fun _ => false) 0 true) 1 true) (fun _ => 0) W2 0 (.slice none 0 0) [] w0.heap.size f) := Lib.hid (cp_lowI HM.out B0.out (B2.out.alloc B2.out.size _) HX.out)
  generalize hB : World.alloc w3 _ = wB
  have HS : Hid (CpAt w0 wB mb S a b N cb (upd (fun _ => false) 0 true) (fun _ => 0) W (upd (upd (fun _ => false) 0 true) 1 true) (fun _ => 0) W2 0 (.slice none 0 0) [] w0.heap.size f) := Lib.hid (by rw [← hB]; exact HSt.out.below ((Below.refl _ _).alloc (Nat.le_refl _) _))
  have HKB : Hid (KeyC wB w3.heap.size 2 0 0 0 1) := Lib.hid (by rw [← hB]; exact KeyC.new _ _ _ _ _ _ _)
  clear hB HM B1 B2 HSt
  have q0 := HKB.out.c0
  have q1 := HKB.out.c1
  have q2 := HKB.out.c2
  have q3 := HKB.out.c3
  have q4 := HKB.out.c4
  have HTh := Lib.hid (dom_there HS.out.d 91 5 (by decide))
  go_upto_region 12 with (refine wpList_store_mid (by rfl) _ _ _ (by rfl) w0.heap.size 91 #[.int .i64 2, .int .i64 0, .int .i64 0, .int .i64 0, .int .u32 1] (by rfl) (by rfl) HTh.out infoKey5 (by simp [Value.oneCell']) ?_; rw [show (#[.int .i64 2, .int .i64 0, .int .i64 0, .int .i64 0, .int .u32 1] : Array Value).toList = k5 2 0 0 0 1 from rfl])
  have HS1 := Lib.hid (HS.out.setsD 91 (k5 2 0 0 0 1) (by decide))
  generalize hD : World.setCells wB _ _ _ = wC at HS1 ⊢
  clear hD q0 q1 q2 q3 q4 HKB HTh HS
  have c8 := HS1.out.d.c 8 (by decide)
  have z8 := HS1.out.d.fr 8
  go_upto_region 13 with fail
  have HS2 := Lib.hid (HS1.out.set 8 (.int .u32 2) (by decide))
  generalize hD : World.setCell wC _ _ = wD at HS2 ⊢
  clear hD c8 z8 HS1
  obtain ⟨g, hg⟩ : ∃ g, g = updD (updL f 91 (k5 2 0 0 0 1)) 8 (.int .u32 2) := ⟨_, rfl⟩
  rw [← hg] at HS2
  have HG := Lib.hid (i_facts HD.out 2 g hg)
  obtain ⟨g3, hg3⟩ : ∃ g3, g3 = updD g 8 (.int .u32 3) := ⟨_, rfl⟩
  have HG3 := Lib.hid (i_facts HD.out 3 g3 (by rw [hg3, hg, updD_twice]))
  clear hg
  obtain ⟨cs, hcs⟩ := dom_array HG.out.1
  have HCs := Lib.hid hcs
  clear hcs
  have HRg := Lib.hid (HCs.out.2.2.1 wD w0.heap.size HS2.out.d)
  go_upto_region 14 with (first
    | (refine wpList_load_mid (by rfl) _ _ (by rfl) w0.heap.size 0 (by rfl) cs.toList _ HRg.out Tryd.underlying30 rfl (by rw [Array.length_toList, HCs.out.1]; exact infoDom) ?_; rw [show cs.toList.toArray = cs from by simp])
    | (refine wpList_store_mid (by rfl) _ _ _ (by rfl) wD.heap.size 0 cs (by rfl) (by rfl) (by rw [HCs.out.1]; exact there_new wD _ _ zeroDom_size _) (by rw [HCs.out.1]; exact infoDom) HCs.out.2.1 ?_))
  generalize hD : World.setCells (World.alloc wD _) _ _ _ = wL
  have HBL : Hid (Below wD.heap.size wD wL) := Lib.hid (by rw [← hD]; exact below_cells ((Below.refl _ _).alloc (Nat.le_refl _) _) (Nat.le_refl _) _ _)
  have HD2 : Hid (DomAt wL wD.heap.size g) := Lib.hid (by
    rw [← hD]
    exact (dom_cells _ _ cs HCs.out.1 (there_new wD _ _ zeroDom_size _) (by simp) (fun j => by simp)).congr (fun j hj => by have h := HCs.out.2.2.2 j hj; rw [Array.getElem?_toList] at h; simp [Array.getD, HCs.out.1, hj] at h ⊢; exact h))
  have HF2 := Lib.hid (HS2.out.far wD.heap.size (Nat.le_refl _) HBL.out HD2.out.lt)
  have HS3 := Lib.hid (HS2.out.below HBL.out)
  clear hD HBL
  have HY2 : Hid (W2 0 2 = wd) := Lib.hid (HW.out.p0 2 (by decide))
  have HBn0 : Hid (0 < b.n) := Lib.hid (by rw [HW.out.bn]; decide)
  have HL0 := Lib.hid (live_to 0 (by decide))
  have HWy := Lib.hid (way_to HW.out 0 2 2 (by decide) (by decide) rfl)
  have HDO : Hid (∀ w1 hits1 v1 E1, CpAt w0 w1 mb S a b N cb (upd (fun _ => false) 0 true) (fun _ => 0) W (upd (upd (fun _ => false) 0 true) 1 true) (fun _ => 0) W2 hits1 v1 E1 w0.heap.size (updD g 8 (.int .u32 3)) → 0 ≤ hits1 → hits1 ≤ 0 + 1 → Calls Tryd.prog 42 #[.pointer (some ⟨mb, 0, none⟩), .pointer (some ⟨w0.heap.size, 0, none⟩), (Value.agg #[.int .i64 11, .int .i64 (hw : Int), .int .i64 (q : Int), .int .i64 (r : Int), .int .i64 0])] w1 fun e w' => e = .returned (.agg (invA hw (R 0) (R 1) (R 2) (R 3) Y q r)) ∧ CQ w0 w1 mb S a b N cb (upd (fun _ => false) 0 true) (fun _ => 0) W (upd (upd (fun _ => false) 0 true) 1 true) (fun _ => 0) W2 hits1 (hits1 + 1) v1 E1 w0.heap.size g3 w') := Lib.hid (by
    rw [← hg3]
    exact fun w1 hits1 v1 E1 h _ _ => (cdo_inv hw _ _ q r (Lib.hid ⟨rfl, rfl⟩) HL.out.2.1 HL.out.2.2 R Y (Lib.hid HG3.out.1) (Lib.hid HG3.out.2.2.2.2) (Lib.hid HG3.out.2.2.2.1) w1 h).mono fun e w' ⟨h1, h2⟩ => ⟨h1, h2.more (by omega)⟩)
  clear hg3
  go_upto_region 15 with (first
    | (go_at_call 21; (with_reducible refine (cstep_do 2 0 0 0 1 2 2 (Lib.hid rfl) (by decide) [0] ((0 : Nat) : Int) ((2 : Nat) : Int) false 0 2 (Lib.hid ⟨rfl, rfl⟩) HBn0.out (by decide) HL0 wd HY2 HP.out.2.1 HP.out.2.2 11 hw q r 0 (Lib.hid HP.out.1) HOk HG.out.2.1 HG.out.2.2.1.1 HG.out.2.2.1.2.1 HG.out.2.2.1.2.2.1 HG.out.2.2.1.2.2.2.1 HG.out.2.2.1.2.2.2.2 (Lib.hid (by decide)) HWy xa ya hC0.out 3 (Lib.hid (by decide)) (invA hw (R 0) (R 1) (R 2) (R 3) Y q r) 1 (by decide) (Lib.hid (invA_ok _ _ _ _ _ _ _ _)) W2 g3 HDO _ HS3.out).mono ?_); rintro e w5 ⟨rfl, hq⟩; have HQ := Lib.hid hq; clear hq)
    | (refine wpList_store_mid (by rfl) _ _ _ (by rfl) w5.heap.size 0 (invA hw (R 0) (R 1) (R 2) (R 3) Y q r) (by rfl) (by rfl) (there_new _ _ _ (by rfl) _) infoEv (invA_ok _ _ _ _ _ _ _ _).one ?_))
  generalize hE6 : World.setCells (World.alloc w5 _) _ _ _ = w6
  have B6 : Hid (Below w5.heap.size w5 w6 ∧ w5.heap.size < w6.heap.size) := Lib.hid (by rw [← hE6]; exact ⟨below_cells ((Below.refl _ _).alloc (Nat.le_refl _) _) (Nat.le_refl _) _ _, by rw [size_setCells]; simp⟩)
  have R6 : Hid (w6.rangeAt w5.heap.size 0 (invA hw (R 0) (R 1) (R 2) (R 3) Y q r).toList) := Lib.hid (by rw [← hE6]; exact (invA_ok _ _ _ _ _ _ _ _).stored (there_new _ _ _ rfl _))
  clear hE6
  obtain ⟨hits5, v5, E5, hc5, l1, l2, hk5⟩ := HQ.out
  have D6 := Lib.hid ((HD2.out.same hk5.size (HF2.out.next hk5).2).below B6.out.1)
  have H6 := Lib.hid (hc5.below B6.out.1)
  clear hc5 l1 l2 hk5 HQ
  have EV : Hid (∀ w', Below w6.heap.size w6 w' → ∀ j u, (invA hw (R 0) (R 1) (R 2) (R 3) Y q r).toList[j]? = some u → World.cell? w' ⟨w5.heap.size, j, none⟩ = some u) := Lib.hid (fun w' hb j u hj => (hb.cell (p := ⟨w5.heap.size, j, none⟩) B6.out.2).trans (by have h := R6.out j u hj; rwa [Nat.zero_add] at h))
  have ST : Hid (∀ w', Below w6.heap.size w6 w' → (Below w6.heap.size w6 w' ∧ World.cell? w' ⟨w5.heap.size, 0, none⟩ = some (.int .i64 1) ∧ World.cell? w' ⟨w5.heap.size, 1, none⟩ = some (.int .i64 (hw : Int)) ∧ World.cell? w' ⟨w5.heap.size, 2, none⟩ = some (.int .i64 (Y q 0)) ∧ World.cell? w' ⟨w5.heap.size, 3, none⟩ = some (.int .i64 (Y q 1)) ∧ World.cell? w' ⟨w5.heap.size, 4, none⟩ = some (.int .i64 (Y q 2)) ∧ World.cell? w' ⟨w5.heap.size, 5, none⟩ = some (.int .i64 (Y q 3)) ∧ World.cell? w' ⟨w5.heap.size, 6, none⟩ = some (.int .u32 (Y q 4)) ∧ World.cell? w' ⟨w5.heap.size, 7, none⟩ = some (.int .u32 (R 0)) ∧ World.cell? w' ⟨wD.heap.size, 0, none⟩ = some (.int .u32 (R 0)) ∧ World.cell? w' ⟨w0.heap.size, 8, none⟩ = some (.int .u32 3) ∧ World.cell? w' ⟨wD.heap.size, 11 + q * 5, none⟩ = some (.int .i64 (Y q 0)) ∧ World.cell? w' ⟨wD.heap.size, 11 + q * 5 + 1, none⟩ = some (.int .i64 (Y q 1)) ∧ World.cell? w' ⟨wD.heap.size, 11 + q * 5 + 2, none⟩ = some (.int .i64 (Y q 2)) ∧ World.cell? w' ⟨wD.heap.size, 11 + q * 5 + 3, none⟩ = some (.int .i64 (Y q 3)) ∧ World.cell? w' ⟨wD.heap.size, 11 + q * 5 + 4, none⟩ = some (.int .u32 (Y q 4)))) := Lib.hid (fun w' hb => by
    obtain ⟨y0, y1, y2, y3, y4⟩ := (D6.out.below hb).keys HG.out.2.2.2.2 q HL.out.2.1
    exact ⟨hb, EV.out w' hb 0 _ rfl, EV.out w' hb 1 _ rfl, EV.out w' hb 2 _ rfl, EV.out w' hb 3 _ rfl, EV.out w' hb 4 _ rfl, EV.out w' hb 5 _ rfl, EV.out w' hb 6 _ rfl, EV.out w' hb 7 _ rfl, ((D6.out.below hb).c 0 (by decide)).trans (congrArg some (HG.out.2.2.2.1 0 (by decide))), ((H6.out.d.below hb).c 8 (by decide)).trans (congrArg some HG3.out.2.1), y0, y1, y2, y3, y4⟩)
  have n0 : (0 : Int) ≤ q := by omega
  have n1 : (q : Int) < 16 := by have := HL.out.2.1; omega
  go_region_held3 (fun w' => (Below w6.heap.size w6 w' ∧ World.cell? w' ⟨w5.heap.size, 0, none⟩ = some (.int .i64 1) ∧ World.cell? w' ⟨w5.heap.size, 1, none⟩ = some (.int .i64 (hw : Int)) ∧ World.cell? w' ⟨w5.heap.size, 2, none⟩ = some (.int .i64 (Y q 0)) ∧ World.cell? w' ⟨w5.heap.size, 3, none⟩ = some (.int .i64 (Y q 1)) ∧ World.cell? w' ⟨w5.heap.size, 4, none⟩ = some (.int .i64 (Y q 2)) ∧ World.cell? w' ⟨w5.heap.size, 5, none⟩ = some (.int .i64 (Y q 3)) ∧ World.cell? w' ⟨w5.heap.size, 6, none⟩ = some (.int .u32 (Y q 4)) ∧ World.cell? w' ⟨w5.heap.size, 7, none⟩ = some (.int .u32 (R 0)) ∧ World.cell? w' ⟨wD.heap.size, 0, none⟩ = some (.int .u32 (R 0)) ∧ World.cell? w' ⟨w0.heap.size, 8, none⟩ = some (.int .u32 3) ∧ World.cell? w' ⟨wD.heap.size, 11 + q * 5, none⟩ = some (.int .i64 (Y q 0)) ∧ World.cell? w' ⟨wD.heap.size, 11 + q * 5 + 1, none⟩ = some (.int .i64 (Y q 1)) ∧ World.cell? w' ⟨wD.heap.size, 11 + q * 5 + 2, none⟩ = some (.int .i64 (Y q 2)) ∧ World.cell? w' ⟨wD.heap.size, 11 + q * 5 + 3, none⟩ = some (.int .i64 (Y q 3)) ∧ World.cell? w' ⟨wD.heap.size, 11 + q * 5 + 4, none⟩ = some (.int .u32 (Y q 4)))) (first | exact ST.out _ (Below.refl _ _).drew | exact ST.out _ (below_next (And.left (by assumption)) hb))
    (first | (go_at_call 24; (with_reducible refine (samekey_self (Y q 0) (Y q 1) (Y q 2) (Y q 3) (Y q 4) _).mono ?_); rintro e w' ⟨rfl, hb⟩))
  have hS : (Below w6.heap.size w6 w' ∧ World.cell? w' ⟨w5.heap.size, 0, none⟩ = some (.int .i64 1) ∧ World.cell? w' ⟨w5.heap.size, 1, none⟩ = some (.int .i64 (hw : Int)) ∧ World.cell? w' ⟨w5.heap.size, 2, none⟩ = some (.int .i64 (Y q 0)) ∧ World.cell? w' ⟨w5.heap.size, 3, none⟩ = some (.int .i64 (Y q 1)) ∧ World.cell? w' ⟨w5.heap.size, 4, none⟩ = some (.int .i64 (Y q 2)) ∧ World.cell? w' ⟨w5.heap.size, 5, none⟩ = some (.int .i64 (Y q 3)) ∧ World.cell? w' ⟨w5.heap.size, 6, none⟩ = some (.int .u32 (Y q 4)) ∧ World.cell? w' ⟨w5.heap.size, 7, none⟩ = some (.int .u32 (R 0)) ∧ World.cell? w' ⟨wD.heap.size, 0, none⟩ = some (.int .u32 (R 0)) ∧ World.cell? w' ⟨w0.heap.size, 8, none⟩ = some (.int .u32 3) ∧ World.cell? w' ⟨wD.heap.size, 11 + q * 5, none⟩ = some (.int .i64 (Y q 0)) ∧ World.cell? w' ⟨wD.heap.size, 11 + q * 5 + 1, none⟩ = some (.int .i64 (Y q 1)) ∧ World.cell? w' ⟨wD.heap.size, 11 + q * 5 + 2, none⟩ = some (.int .i64 (Y q 2)) ∧ World.cell? w' ⟨wD.heap.size, 11 + q * 5 + 3, none⟩ = some (.int .i64 (Y q 3)) ∧ World.cell? w' ⟨wD.heap.size, 11 + q * 5 + 4, none⟩ = some (.int .u32 (Y q 4))) := by assumption
  obtain ⟨hB, -⟩ := hS
  have HB7 := Lib.hid hB
  clear hB
  clear n0 n1
  go_upto_region 18 with fail
  go_loopw [17] (fun ti wr => ∃ k : Nat, ti = .int .i64 k ∧ k ≤ 3 ∧ Below w6.heap.size w6 wr) (fun i _ => 3 - (intOf i).toNat)
  case atStart => exact ⟨0, rfl, by decide, HB7.out⟩
  case round =>
    obtain ⟨k, rfl, hk3, hb⟩ := hrel
    have HBr := Lib.hid hb
    clear hb
    have h4 : k = 0 ∨ k = 1 ∨ k = 2 ∨ k = 3 := by omega
    rcases h4 with rfl | rfl | rfl | rfl
    · obtain ⟨s, hs⟩ : ∃ s, s = r % 16 := ⟨_, rfl⟩
      have HSs := Lib.hid hs
      have HSl : Hid (s < 16) := Lib.hid (by omega)
      have hsm : (r : Int) % 16 = (s : Int) := by have := HL.out; omega
      have hst : (r : Int).tmod 16 = (s : Int) := by rw [Int.tmod_eq_emod_of_nonneg (by omega)]; exact hsm
      have hsw : IntKind.i64.wrap (r : Int) = (r : Int) := by have := HL.out; rw [IntKind.wrap_i64]; omega
      have s0 : (0 : Int) ≤ s := by omega
      have s1 : (s : Int) < 16 := by omega
      have hwi : IntKind.i64.wrap 1 = 1 := by rw [IntKind.wrap_i64]; omega
      have hwj : IntKind.i64.wrap (0 + 1) = 1 := by rw [IntKind.wrap_i64]; omega
      clear hs
      have ST2 : Hid (∀ w', Below w6.heap.size w6 w' → (Below w6.heap.size w6 w' ∧ World.cell? w' ⟨w5.heap.size, 8, none⟩ = some (.int .u32 (R 1)) ∧ World.cell? w' ⟨wD.heap.size, 1, none⟩ = some (.int .u32 (R 1)) ∧ World.cell? w' ⟨w5.heap.size, 11, none⟩ = some (.int .i64 (Y s 0)) ∧ World.cell? w' ⟨w5.heap.size, 12, none⟩ = some (.int .i64 (Y s 1)) ∧ World.cell? w' ⟨w5.heap.size, 13, none⟩ = some (.int .i64 (Y s 2)) ∧ World.cell? w' ⟨w5.heap.size, 14, none⟩ = some (.int .i64 (Y s 3)) ∧ World.cell? w' ⟨w5.heap.size, 15, none⟩ = some (.int .u32 (Y s 4)) ∧ World.cell? w' ⟨wD.heap.size, 11 + s * 5, none⟩ = some (.int .i64 (Y s 0)) ∧ World.cell? w' ⟨wD.heap.size, 11 + s * 5 + 1, none⟩ = some (.int .i64 (Y s 1)) ∧ World.cell? w' ⟨wD.heap.size, 11 + s * 5 + 2, none⟩ = some (.int .i64 (Y s 2)) ∧ World.cell? w' ⟨wD.heap.size, 11 + s * 5 + 3, none⟩ = some (.int .i64 (Y s 3)) ∧ World.cell? w' ⟨wD.heap.size, 11 + s * 5 + 4, none⟩ = some (.int .u32 (Y s 4)))) := Lib.hid (fun w' hb => by
        obtain ⟨y0, y1, y2, y3, y4⟩ := (D6.out.below hb).keys HG.out.2.2.2.2 s HSl.out
        have hs := HSs.out
        refine ⟨hb, EV.out w' hb 8 _ rfl, ((D6.out.below hb).c 1 (by decide)).trans (congrArg some (HG.out.2.2.2.1 1 (by decide))), ?_, ?_, ?_, ?_, ?_, y0, y1, y2, y3, y4⟩ <;> rw [hs]
        · exact EV.out w' hb 11 _ rfl
        · exact EV.out w' hb 12 _ rfl
        · exact EV.out w' hb 13 _ rfl
        · exact EV.out w' hb 14 _ rfl
        · exact EV.out w' hb 15 _ rfl)
      go_upto_region 20 with fail
      go_region_held3 (fun w' => (Below w6.heap.size w6 w' ∧ World.cell? w' ⟨w5.heap.size, 8, none⟩ = some (.int .u32 (R 1)) ∧ World.cell? w' ⟨wD.heap.size, 1, none⟩ = some (.int .u32 (R 1)) ∧ World.cell? w' ⟨w5.heap.size, 11, none⟩ = some (.int .i64 (Y s 0)) ∧ World.cell? w' ⟨w5.heap.size, 12, none⟩ = some (.int .i64 (Y s 1)) ∧ World.cell? w' ⟨w5.heap.size, 13, none⟩ = some (.int .i64 (Y s 2)) ∧ World.cell? w' ⟨w5.heap.size, 14, none⟩ = some (.int .i64 (Y s 3)) ∧ World.cell? w' ⟨w5.heap.size, 15, none⟩ = some (.int .u32 (Y s 4)) ∧ World.cell? w' ⟨wD.heap.size, 11 + s * 5, none⟩ = some (.int .i64 (Y s 0)) ∧ World.cell? w' ⟨wD.heap.size, 11 + s * 5 + 1, none⟩ = some (.int .i64 (Y s 1)) ∧ World.cell? w' ⟨wD.heap.size, 11 + s * 5 + 2, none⟩ = some (.int .i64 (Y s 2)) ∧ World.cell? w' ⟨wD.heap.size, 11 + s * 5 + 3, none⟩ = some (.int .i64 (Y s 3)) ∧ World.cell? w' ⟨wD.heap.size, 11 + s * 5 + 4, none⟩ = some (.int .u32 (Y s 4)))) (first | exact ST2.out _ HBr.out.drew | exact ST2.out _ (below_next (And.left (by assumption)) hb))
        (first | (go_at_call 24; (with_reducible refine (samekey_self (Y s 0) (Y s 1) (Y s 2) (Y s 3) (Y s 4) _).mono ?_); rintro e w' ⟨rfl, hb⟩))
      have hS : (Below w6.heap.size w6 w' ∧ World.cell? w' ⟨w5.heap.size, 8, none⟩ = some (.int .u32 (R 1)) ∧ World.cell? w' ⟨wD.heap.size, 1, none⟩ = some (.int .u32 (R 1)) ∧ World.cell? w' ⟨w5.heap.size, 11, none⟩ = some (.int .i64 (Y s 0)) ∧ World.cell? w' ⟨w5.heap.size, 12, none⟩ = some (.int .i64 (Y s 1)) ∧ World.cell? w' ⟨w5.heap.size, 13, none⟩ = some (.int .i64 (Y s 2)) ∧ World.cell? w' ⟨w5.heap.size, 14, none⟩ = some (.int .i64 (Y s 3)) ∧ World.cell? w' ⟨w5.heap.size, 15, none⟩ = some (.int .u32 (Y s 4)) ∧ World.cell? w' ⟨wD.heap.size, 11 + s * 5, none⟩ = some (.int .i64 (Y s 0)) ∧ World.cell? w' ⟨wD.heap.size, 11 + s * 5 + 1, none⟩ = some (.int .i64 (Y s 1)) ∧ World.cell? w' ⟨wD.heap.size, 11 + s * 5 + 2, none⟩ = some (.int .i64 (Y s 2)) ∧ World.cell? w' ⟨wD.heap.size, 11 + s * 5 + 3, none⟩ = some (.int .i64 (Y s 3)) ∧ World.cell? w' ⟨wD.heap.size, 11 + s * 5 + 4, none⟩ = some (.int .u32 (Y s 4))) := by assumption
      obtain ⟨hB, -⟩ := hS
      have HB8 := Lib.hid hB
      clear hB
      go_wp2_with fail
      go_roundw
      case rel => exact ⟨1, rfl, by decide, HB8.out⟩
      case measure => simp [intOf]
    · obtain ⟨s, hs⟩ : ∃ s, s = (r + 1) % 16 := ⟨_, rfl⟩
      have HSs := Lib.hid hs
      have HSl : Hid (s < 16) := Lib.hid (by omega)
      have hsm : ((r : Int) + 1) % 16 = (s : Int) := by have := HL.out; omega
      have hst : ((r : Int) + 1).tmod 16 = (s : Int) := by rw [Int.tmod_eq_emod_of_nonneg (by omega)]; exact hsm
      have hsw : IntKind.i64.wrap ((r : Int) + 1) = ((r : Int) + 1) := by have := HL.out; rw [IntKind.wrap_i64]; omega
      have s0 : (0 : Int) ≤ s := by omega
      have s1 : (s : Int) < 16 := by omega
      have hwi : IntKind.i64.wrap 2 = 2 := by rw [IntKind.wrap_i64]; omega
      have hwj : IntKind.i64.wrap (1 + 1) = 2 := by rw [IntKind.wrap_i64]; omega
      clear hs
      have ST2 : Hid (∀ w', Below w6.heap.size w6 w' → (Below w6.heap.size w6 w' ∧ World.cell? w' ⟨w5.heap.size, 9, none⟩ = some (.int .u32 (R 2)) ∧ World.cell? w' ⟨wD.heap.size, 2, none⟩ = some (.int .u32 (R 2)) ∧ World.cell? w' ⟨w5.heap.size, 16, none⟩ = some (.int .i64 (Y s 0)) ∧ World.cell? w' ⟨w5.heap.size, 17, none⟩ = some (.int .i64 (Y s 1)) ∧ World.cell? w' ⟨w5.heap.size, 18, none⟩ = some (.int .i64 (Y s 2)) ∧ World.cell? w' ⟨w5.heap.size, 19, none⟩ = some (.int .i64 (Y s 3)) ∧ World.cell? w' ⟨w5.heap.size, 20, none⟩ = some (.int .u32 (Y s 4)) ∧ World.cell? w' ⟨wD.heap.size, 11 + s * 5, none⟩ = some (.int .i64 (Y s 0)) ∧ World.cell? w' ⟨wD.heap.size, 11 + s * 5 + 1, none⟩ = some (.int .i64 (Y s 1)) ∧ World.cell? w' ⟨wD.heap.size, 11 + s * 5 + 2, none⟩ = some (.int .i64 (Y s 2)) ∧ World.cell? w' ⟨wD.heap.size, 11 + s * 5 + 3, none⟩ = some (.int .i64 (Y s 3)) ∧ World.cell? w' ⟨wD.heap.size, 11 + s * 5 + 4, none⟩ = some (.int .u32 (Y s 4)))) := Lib.hid (fun w' hb => by
        obtain ⟨y0, y1, y2, y3, y4⟩ := (D6.out.below hb).keys HG.out.2.2.2.2 s HSl.out
        have hs := HSs.out
        refine ⟨hb, EV.out w' hb 9 _ rfl, ((D6.out.below hb).c 2 (by decide)).trans (congrArg some (HG.out.2.2.2.1 2 (by decide))), ?_, ?_, ?_, ?_, ?_, y0, y1, y2, y3, y4⟩ <;> rw [hs]
        · exact EV.out w' hb 16 _ rfl
        · exact EV.out w' hb 17 _ rfl
        · exact EV.out w' hb 18 _ rfl
        · exact EV.out w' hb 19 _ rfl
        · exact EV.out w' hb 20 _ rfl)
      go_upto_region 20 with fail
      go_region_held3 (fun w' => (Below w6.heap.size w6 w' ∧ World.cell? w' ⟨w5.heap.size, 9, none⟩ = some (.int .u32 (R 2)) ∧ World.cell? w' ⟨wD.heap.size, 2, none⟩ = some (.int .u32 (R 2)) ∧ World.cell? w' ⟨w5.heap.size, 16, none⟩ = some (.int .i64 (Y s 0)) ∧ World.cell? w' ⟨w5.heap.size, 17, none⟩ = some (.int .i64 (Y s 1)) ∧ World.cell? w' ⟨w5.heap.size, 18, none⟩ = some (.int .i64 (Y s 2)) ∧ World.cell? w' ⟨w5.heap.size, 19, none⟩ = some (.int .i64 (Y s 3)) ∧ World.cell? w' ⟨w5.heap.size, 20, none⟩ = some (.int .u32 (Y s 4)) ∧ World.cell? w' ⟨wD.heap.size, 11 + s * 5, none⟩ = some (.int .i64 (Y s 0)) ∧ World.cell? w' ⟨wD.heap.size, 11 + s * 5 + 1, none⟩ = some (.int .i64 (Y s 1)) ∧ World.cell? w' ⟨wD.heap.size, 11 + s * 5 + 2, none⟩ = some (.int .i64 (Y s 2)) ∧ World.cell? w' ⟨wD.heap.size, 11 + s * 5 + 3, none⟩ = some (.int .i64 (Y s 3)) ∧ World.cell? w' ⟨wD.heap.size, 11 + s * 5 + 4, none⟩ = some (.int .u32 (Y s 4)))) (first | exact ST2.out _ HBr.out.drew | exact ST2.out _ (below_next (And.left (by assumption)) hb))
        (first | (go_at_call 24; (with_reducible refine (samekey_self (Y s 0) (Y s 1) (Y s 2) (Y s 3) (Y s 4) _).mono ?_); rintro e w' ⟨rfl, hb⟩))
      have hS : (Below w6.heap.size w6 w' ∧ World.cell? w' ⟨w5.heap.size, 9, none⟩ = some (.int .u32 (R 2)) ∧ World.cell? w' ⟨wD.heap.size, 2, none⟩ = some (.int .u32 (R 2)) ∧ World.cell? w' ⟨w5.heap.size, 16, none⟩ = some (.int .i64 (Y s 0)) ∧ World.cell? w' ⟨w5.heap.size, 17, none⟩ = some (.int .i64 (Y s 1)) ∧ World.cell? w' ⟨w5.heap.size, 18, none⟩ = some (.int .i64 (Y s 2)) ∧ World.cell? w' ⟨w5.heap.size, 19, none⟩ = some (.int .i64 (Y s 3)) ∧ World.cell? w' ⟨w5.heap.size, 20, none⟩ = some (.int .u32 (Y s 4)) ∧ World.cell? w' ⟨wD.heap.size, 11 + s * 5, none⟩ = some (.int .i64 (Y s 0)) ∧ World.cell? w' ⟨wD.heap.size, 11 + s * 5 + 1, none⟩ = some (.int .i64 (Y s 1)) ∧ World.cell? w' ⟨wD.heap.size, 11 + s * 5 + 2, none⟩ = some (.int .i64 (Y s 2)) ∧ World.cell? w' ⟨wD.heap.size, 11 + s * 5 + 3, none⟩ = some (.int .i64 (Y s 3)) ∧ World.cell? w' ⟨wD.heap.size, 11 + s * 5 + 4, none⟩ = some (.int .u32 (Y s 4))) := by assumption
      obtain ⟨hB, -⟩ := hS
      have HB8 := Lib.hid hB
      clear hB
      go_wp2_with fail
      go_roundw
      case rel => exact ⟨2, rfl, by decide, HB8.out⟩
      case measure => simp [intOf]
    · obtain ⟨s, hs⟩ : ∃ s, s = (r + 2) % 16 := ⟨_, rfl⟩
      have HSs := Lib.hid hs
      have HSl : Hid (s < 16) := Lib.hid (by omega)
      have hsm : ((r : Int) + 2) % 16 = (s : Int) := by have := HL.out; omega
      have hst : ((r : Int) + 2).tmod 16 = (s : Int) := by rw [Int.tmod_eq_emod_of_nonneg (by omega)]; exact hsm
      have hsw : IntKind.i64.wrap ((r : Int) + 2) = ((r : Int) + 2) := by have := HL.out; rw [IntKind.wrap_i64]; omega
      have s0 : (0 : Int) ≤ s := by omega
      have s1 : (s : Int) < 16 := by omega
      have hwi : IntKind.i64.wrap 3 = 3 := by rw [IntKind.wrap_i64]; omega
      have hwj : IntKind.i64.wrap (2 + 1) = 3 := by rw [IntKind.wrap_i64]; omega
      clear hs
      have ST2 : Hid (∀ w', Below w6.heap.size w6 w' → (Below w6.heap.size w6 w' ∧ World.cell? w' ⟨w5.heap.size, 10, none⟩ = some (.int .u32 (R 3)) ∧ World.cell? w' ⟨wD.heap.size, 3, none⟩ = some (.int .u32 (R 3)) ∧ World.cell? w' ⟨w5.heap.size, 21, none⟩ = some (.int .i64 (Y s 0)) ∧ World.cell? w' ⟨w5.heap.size, 22, none⟩ = some (.int .i64 (Y s 1)) ∧ World.cell? w' ⟨w5.heap.size, 23, none⟩ = some (.int .i64 (Y s 2)) ∧ World.cell? w' ⟨w5.heap.size, 24, none⟩ = some (.int .i64 (Y s 3)) ∧ World.cell? w' ⟨w5.heap.size, 25, none⟩ = some (.int .u32 (Y s 4)) ∧ World.cell? w' ⟨wD.heap.size, 11 + s * 5, none⟩ = some (.int .i64 (Y s 0)) ∧ World.cell? w' ⟨wD.heap.size, 11 + s * 5 + 1, none⟩ = some (.int .i64 (Y s 1)) ∧ World.cell? w' ⟨wD.heap.size, 11 + s * 5 + 2, none⟩ = some (.int .i64 (Y s 2)) ∧ World.cell? w' ⟨wD.heap.size, 11 + s * 5 + 3, none⟩ = some (.int .i64 (Y s 3)) ∧ World.cell? w' ⟨wD.heap.size, 11 + s * 5 + 4, none⟩ = some (.int .u32 (Y s 4)))) := Lib.hid (fun w' hb => by
        obtain ⟨y0, y1, y2, y3, y4⟩ := (D6.out.below hb).keys HG.out.2.2.2.2 s HSl.out
        have hs := HSs.out
        refine ⟨hb, EV.out w' hb 10 _ rfl, ((D6.out.below hb).c 3 (by decide)).trans (congrArg some (HG.out.2.2.2.1 3 (by decide))), ?_, ?_, ?_, ?_, ?_, y0, y1, y2, y3, y4⟩ <;> rw [hs]
        · exact EV.out w' hb 21 _ rfl
        · exact EV.out w' hb 22 _ rfl
        · exact EV.out w' hb 23 _ rfl
        · exact EV.out w' hb 24 _ rfl
        · exact EV.out w' hb 25 _ rfl)
      go_upto_region 20 with fail
      go_region_held3 (fun w' => (Below w6.heap.size w6 w' ∧ World.cell? w' ⟨w5.heap.size, 10, none⟩ = some (.int .u32 (R 3)) ∧ World.cell? w' ⟨wD.heap.size, 3, none⟩ = some (.int .u32 (R 3)) ∧ World.cell? w' ⟨w5.heap.size, 21, none⟩ = some (.int .i64 (Y s 0)) ∧ World.cell? w' ⟨w5.heap.size, 22, none⟩ = some (.int .i64 (Y s 1)) ∧ World.cell? w' ⟨w5.heap.size, 23, none⟩ = some (.int .i64 (Y s 2)) ∧ World.cell? w' ⟨w5.heap.size, 24, none⟩ = some (.int .i64 (Y s 3)) ∧ World.cell? w' ⟨w5.heap.size, 25, none⟩ = some (.int .u32 (Y s 4)) ∧ World.cell? w' ⟨wD.heap.size, 11 + s * 5, none⟩ = some (.int .i64 (Y s 0)) ∧ World.cell? w' ⟨wD.heap.size, 11 + s * 5 + 1, none⟩ = some (.int .i64 (Y s 1)) ∧ World.cell? w' ⟨wD.heap.size, 11 + s * 5 + 2, none⟩ = some (.int .i64 (Y s 2)) ∧ World.cell? w' ⟨wD.heap.size, 11 + s * 5 + 3, none⟩ = some (.int .i64 (Y s 3)) ∧ World.cell? w' ⟨wD.heap.size, 11 + s * 5 + 4, none⟩ = some (.int .u32 (Y s 4)))) (first | exact ST2.out _ HBr.out.drew | exact ST2.out _ (below_next (And.left (by assumption)) hb))
        (first | (go_at_call 24; (with_reducible refine (samekey_self (Y s 0) (Y s 1) (Y s 2) (Y s 3) (Y s 4) _).mono ?_); rintro e w' ⟨rfl, hb⟩))
      have hS : (Below w6.heap.size w6 w' ∧ World.cell? w' ⟨w5.heap.size, 10, none⟩ = some (.int .u32 (R 3)) ∧ World.cell? w' ⟨wD.heap.size, 3, none⟩ = some (.int .u32 (R 3)) ∧ World.cell? w' ⟨w5.heap.size, 21, none⟩ = some (.int .i64 (Y s 0)) ∧ World.cell? w' ⟨w5.heap.size, 22, none⟩ = some (.int .i64 (Y s 1)) ∧ World.cell? w' ⟨w5.heap.size, 23, none⟩ = some (.int .i64 (Y s 2)) ∧ World.cell? w' ⟨w5.heap.size, 24, none⟩ = some (.int .i64 (Y s 3)) ∧ World.cell? w' ⟨w5.heap.size, 25, none⟩ = some (.int .u32 (Y s 4)) ∧ World.cell? w' ⟨wD.heap.size, 11 + s * 5, none⟩ = some (.int .i64 (Y s 0)) ∧ World.cell? w' ⟨wD.heap.size, 11 + s * 5 + 1, none⟩ = some (.int .i64 (Y s 1)) ∧ World.cell? w' ⟨wD.heap.size, 11 + s * 5 + 2, none⟩ = some (.int .i64 (Y s 2)) ∧ World.cell? w' ⟨wD.heap.size, 11 + s * 5 + 3, none⟩ = some (.int .i64 (Y s 3)) ∧ World.cell? w' ⟨wD.heap.size, 11 + s * 5 + 4, none⟩ = some (.int .u32 (Y s 4))) := by assumption
      obtain ⟨hB, -⟩ := hS
      have HB8 := Lib.hid hB
      clear hB
      go_wp2_with fail
      go_roundw
      case rel => exact ⟨3, rfl, by decide, HB8.out⟩
      case measure => simp [intOf]
    · have HWd : Hid (∀ w', Below w6.heap.size w6 w' → Calls Tryd.prog 26 #[.slice (some ⟨w0.heap.size, 0, none⟩) 8 8, .slice (some ⟨wD.heap.size, 0, none⟩) 8 8] w' fun e w'' => e = .returned (.bool true) ∧ Below w'.heap.size w' w'') := Lib.hid (fun w' hb => samewords_yes _ _ 8 8 8 ((List.range 8).map R) (Lib.hid (by simp)) (by decide) w' ((H6.out.d.below hb).regs HG3.out.2.2.2.1) ((D6.out.below hb).regs HG.out.2.2.2.1))
      have HKy : Hid (∀ w', Below w6.heap.size w6 w' → Calls Tryd.prog 17 #[.slice (some ⟨w0.heap.size, 11, none⟩) 16 16, .slice (some ⟨wD.heap.size, 11, none⟩) 16 16] w' fun e w'' => e = .returned (.bool true) ∧ Below w'.heap.size w' w'') := Lib.hid (fun w' hb => samekeys_off w0.heap.size 11 wD.heap.size 11 16 16 16 Y w' (H6.out.d.below hb).lt (D6.out.below hb).lt (fun q hq => ⟨(H6.out.d.below hb).keys HG3.out.2.2.2.2 q hq, (D6.out.below hb).keys HG.out.2.2.2.2 q hq⟩) (by decide))
      go_upto_region 22 with fail
      go_region_held3 (fun w' => Below w6.heap.size w6 w') (first | exact HBr.out.drew | exact below_next (by assumption) hb)
        (first
          | (go_at_call 26; (with_reducible refine (HWd.out _ (by assumption)).mono ?_); rintro e w' ⟨rfl, hb⟩)
          | (go_at_call 17; (with_reducible refine (HKy.out _ (by assumption)).mono ?_); rintro e w' ⟨rfl, hb⟩))
      have hS : Below w6.heap.size w6 w' := by assumption
      have HB8 := Lib.hid hS
      clear hS
      go_wp2_with fail
      go_ret
      exact ⟨rfl, H6.out.bel.trans (HB8.out.mono H6.out.bel.size)⟩
theorem walk_CpuInvokes (a0 : Array Value) (a1 : Int) (a2 : Int) (a3 : Int) (w : World) (w0 : Reads Tryd.prog w 30 a0.toList) (w1 : (Lit.int .i64 a1).wf = true) (w2 : (Lit.int .i64 a2).wf = true) (w3 : (Lit.int .i64 a3).wf = true) (hL : laidMetH Tryd.prog Rows.cpuInvokesRow.laid w) :
    Calls Tryd.prog 7 #[.agg a0, .int .i64 a1, .int .i64 a2, .int .i64 a3] w fun e w' => e = .returned (.bool true) ∧ Below w.heap.size w w' := by
  rw [MakeChecks.laidMetH_plain _ _ _ (by kernel_rfl)] at hL
  obtain ⟨vs, vr, hE⟩ := (errs2 hL ⟨_, by repeat (first | exact List.Mem.head _ | apply List.Mem.tail)⟩ ⟨_, by repeat (first | exact List.Mem.head _ | apply List.Mem.tail)⟩)
  have hC := code_of hL ⟨_, by repeat (first | exact List.Mem.head _ | apply List.Mem.tail)⟩ ⟨_, by repeat (first | exact List.Mem.head _ | apply List.Mem.tail)⟩ (by repeat (first | exact List.Mem.head _ | apply List.Mem.tail))
  obtain ⟨f, R, K, hd⟩ := dom_read w0
  obtain ⟨h, h3, C1⟩ := number_natb a1 3 3 rfl (by decide) (by decide) (i64_fitC w1).1 (i64_fitC w1).2
  obtain ⟨q, hq, C2⟩ := number_natb a2 16 16 rfl (by decide) (by decide) (i64_fitC w2).1 (i64_fitC w2).2
  obtain ⟨r, hr, C3⟩ := number_natb a3 16 16 rfl (by decide) (by decide) (i64_fitC w3).1 (i64_fitC w3).2
  exact invokes_any a0 f R K hd a1 a2 a3 h q r h3 hq hr (Lib.hid C1) (Lib.hid C2) (Lib.hid C3) vs vr _ _ w hE hC
end Go.Proofs.YtjkbfhojjjkgnaaDoor
