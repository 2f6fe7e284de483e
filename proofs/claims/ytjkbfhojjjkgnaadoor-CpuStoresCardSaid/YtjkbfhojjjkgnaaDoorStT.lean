/-
  Vd as one.
-/
import Derived.Test.YtjkbfhojjjkgnaaDoorP14
import Derived.Test.YtjkbfhojjjkgnaaDoorP13
import Derived.Test.YtjkbfhojjjkgnaaDoorP12
namespace Go.Proofs.YtjkbfhojjjkgnaaDoor
open Go.ChangeShapes Go.WideShapes Go.ChangeAt Go.RowKit
set_option linter.unusedVariables false
set_option linter.unusedSimpArgs false
theorem ok_save (t : Int) (t0 : 0 ≤ t) (t1 : t ≤ 4095) : okB 7 3 2 0 t = true := by
  unfold okB fitB
  simp [fA, fB, fC, fI, hiOf]
  omega
theorem ok_load (t : Int) (t0 : 0 ≤ t) (t1 : t ≤ 4095) : okB 6 4 2 0 t = true := by
  unfold okB fitB
  simp [fA, fB, fC, fI, hiOf]
  omega
theorem ok_halt : okB 13 0 0 0 0 = true := by decide
theorem vws_start {x y : Addr} {w : World} (h : CodeAt (errC x) (errC y) w) : VW x y w w := ⟨Below.refl _ _, h⟩
/-- The three instructions. -/
def szs (t : Int) : List (List Int) := [[7, 3, 2, 0, t], [6, 4, 2, 0, t], [13, 0, 0, 0, 0]]
theorem szs_ok (t : Int) (t0 : 0 ≤ t) (t1 : t ≤ 4095) : ∀ i, i < 3 → zok (szs t) i = true := fun i hi => by
  have h4 : i = 0 ∨ i = 1 ∨ i = 2 := by omega
  rcases h4 with rfl | rfl | rfl
  · exact ok_save t t0 t1
  · exact ok_load t t0 t1
  · exact ok_halt
def wsS (zs : List (List Int)) (n : Nat) : List Int := (List.range n).map (zw zs)
theorem wsS_len (zs : List (List Int)) (n : Nat) : (wsS zs n).length = n := by simp [wsS]
theorem wsS_at (zs : List (List Int)) (n k : Nat) (h : k < n) : (wsS zs n).getD k 0 = zw zs k := by simp [wsS, List.getD, h]
theorem wsS_row (zs : List (List Int)) (n : Nat) : (wsS zs n).map (Value.int .u32) = zws zs n := by simp [wsS, zws]
theorem ru_wordsS {w : World} {B n c : Nat} {a : Option Addr} {zs : List (List Int)} (h : w.ownsRow B 22 1 (.slice a n c) n (zws zs n)) : RU w a (wsS zs n) := by
  rw [← wsS_row] at h
  exact own_ru h (wsS_len zs n)
theorem insAt3 (w : World) (t : Int) (T : TypeId) : InsAt (w.alloc (.cells #[.int .i64 7, .int .i64 3, .int .i64 2, .int .i64 0, .int .i64 t, .int .i64 6, .int .i64 4, .int .i64 2, .int .i64 0, .int .i64 t, .int .i64 13, .int .i64 0, .int .i64 0, .int .i64 0, .int .i64 0] T (0, 0))) ⟨w.heap.size, 0, none⟩ 3 (szs t) := by
  refine ⟨by simp, fun i hi => ?_⟩
  have h4 : i = 0 ∨ i = 1 ∨ i = 2 := by omega
  rcases h4 with rfl | rfl | rfl <;> simp [Addr.add, szs, zf, List.getD]
/-- Two pages by a node, for reading only. -/
theorem way_twoR {a b : Shp} {W : Nat → Nat → Value} {W2 : Nat → Nat → Int} {zs : List Int} (h : M17 a b W W2 zs) (i x ad : Nat) (hi : i < 2) (hx : x < 32) (had : ad = i * 32 + x) : Way a b (upd (fun _ => false) 0 true) (fun _ => 0) W (upd (upd (fun _ => false) 0 true) 1 true) (fun _ => 0) 2 0 0 1 1 5 (ad : Int) false [0] (i : Int) (x : Int) true 0 := by
  subst had
  have hl : ∀ j : Nat, j < 2 → liveB a b (upd (fun _ => false) 0 true) (fun _ => 0) (upd (upd (fun _ => false) 0 true) 1 true) (fun _ => 0) 3 (j : Int) 0 = true := fun j hj => by
    have h2 : j = 0 ∨ j = 1 := by omega
    rcases h2 with rfl | rfl <;> simp [liveB, thereB, upd, h.bn]
  have h2 : i = 0 ∨ i = 1 := by omega
  rcases h2 with rfl | rfl
  · exact way_r0 (way_at 1 0 0 x 3 0 0 0 0 rfl (by decide) (by decide) (by simp) (by decide) rfl (by rw [h.an]; decide) rfl rfl (by decide) (by simpa using hx) h.k0 (.page (by decide) (by omega) (hl 0 (by decide)) (by omega))) (by decide)
  · exact way_r0 (way_at 1 0 1 x 3 1 0 0 0 rfl (by decide) (by decide) (by simp) (by decide) rfl (by rw [h.an]; decide) rfl rfl (by decide) (by simpa using hx) h.k1 (.page (by decide) (by omega) (hl 1 (by decide)) (by omega))) (by decide)
/-- A domain of nothing but its memory, for reading only. -/
def domR : Array Value := (#[.int .u32 0, .int .u32 0, .int .u32 0, .int .u32 0, .int .u32 0, .int .u32 0, .int .u32 0, .int .u32 0, .int .u32 0, .int .i64 0, .int .i64 0, .int .i64 0, .int .i64 0, .int .i64 0, .int .i64 0, .int .u32 0, .int .i64 0, .int .i64 0, .int .i64 0, .int .i64 0, .int .u32 0, .int .i64 0, .int .i64 0, .int .i64 0, .int .i64 0, .int .u32 0, .int .i64 0, .int .i64 0, .int .i64 0, .int .i64 0, .int .u32 0, .int .i64 0, .int .i64 0, .int .i64 0, .int .i64 0, .int .u32 0, .int .i64 0, .int .i64 0, .int .i64 0, .int .i64 0, .int .u32 0, .int .i64 0, .int .i64 0, .int .i64 0, .int .i64 0, .int .u32 0, .int .i64 0, .int .i64 0, .int .i64 0, .int .i64 0, .int .u32 0, .int .i64 0, .int .i64 0, .int .i64 0, .int .i64 0, .int .u32 0, .int .i64 0, .int .i64 0, .int .i64 0, .int .i64 0, .int .u32 0, .int .i64 0, .int .i64 0, .int .i64 0, .int .i64 0, .int .u32 0, .int .i64 0, .int .i64 0, .int .i64 0, .int .i64 0, .int .u32 0, .int .i64 0, .int .i64 0, .int .i64 0, .int .i64 0, .int .u32 0, .int .i64 0, .int .i64 0, .int .i64 0, .int .i64 0, .int .u32 0, .int .i64 0, .int .i64 0, .int .i64 0, .int .i64 0, .int .u32 0, .int .i64 0, .int .i64 0, .int .i64 0, .int .i64 0, .int .u32 0, .int .i64 2, .int .i64 0, .int .i64 0, .int .i64 1, .int .u32 1, .int .i64 0, .int .i64 0, .int .i64 0, .int .i64 0, .int .u32 0, .int .i64 0, .int .i64 0, .int .i64 0, .int .i64 0, .int .u32 0, .int .i64 0] : Array Value)
theorem domR_size : domR.size = 107 := rfl
theorem domR_one : domR.all (·.oneCell') = true := by kernel_rfl
def fR : Nat → Value := fun j => domR.getD j (.int .i64 0)
theorem CpAt.startR {w0 w : World} {mb S : Nat} {a b : Shp} {N cb : Nat} {th : Nat → Bool} {vr_ : Nat → Int} {W : Nat → Nat → Value} {th2 : Nat → Bool} {vr2 : Nat → Int} {W2 : Nat → Nat → Int} (hm : MemAt w0 w mb S a b N cb 4 th vr_ W th2 vr2 W2 0 (.slice none 0 0) []) : CpAt w0 ((w.alloc (.cells Tryd.zeroCells30 30 (0, 0))).setCells w.heap.size 0 domR.toList) mb S a b N cb th vr_ W th2 vr2 W2 0 (.slice none 0 0) [] w.heap.size fR := CpAt.start2 hm _ _ zeroDom_size domR_size _
theorem live1 : (upd (upd (fun _ => false) 0 true) 1 true) 1 = true := rfl
theorem updA_0 (W2 : Nat → Nat → Int) (r x : Nat) (v : Int) : updA W2 1 r v 0 x = W2 0 x := if_neg (by omega)
set_option maxRecDepth 100000 in
set_option maxHeartbeats 8000000 in
theorem stores_rw (a0 u : Int) (g1 : -9223372036854775808 ≤ a0) (g2 : a0 ≤ 9223372036854775807) (u0 : 0 ≤ u) (u1 : u ≤ 4294967295) (vs vr : Value) (xa ya : Addr) (w : World) (hE : ErrsAt vs vr w) (hC : CodeAt (errC xa) (errC ya) w) :
    Calls Tryd.prog 5 #[.int .i64 a0, .int .u32 u, .bool false] w fun e w' => e = .returned (.bool true) ∧ Below w.heap.size w w' := by
  obtain ⟨r, hr, CT⟩ := number_natb a0 32 32 rfl (by decide) (by decide) g1 g2
  have CT' := Lib.hid CT
  have HR := Lib.hid hr
  have HZs := Lib.hid (szs_ok ((r : Int) + 32) (by omega) (by omega))
  have HE := Lib.hid hE
  have HC := Lib.hid hC
  have HT : Hid (okB 7 3 2 0 ((r : Int) + 32) = true ∧ okB 6 4 2 0 ((r : Int) + 32) = true) := Lib.hid ⟨ok_save _ (by omega) (by omega), ok_load _ (by omega) (by omega)⟩
  clear CT g1 g2 hE hC
  go_enter Tryd.func5, Tryd.ntmps5
  go_upto_region 6 with (first
    | (go_at_call 10; (with_reducible refine (cfirst_is vs vr _ HE.out).mono ?_); rintro e w1 ⟨rfl, hb⟩; have B1 := Lib.hid hb; clear hb)
    | (go_at_call 18; (with_reducible refine (CT'.out _).mono ?_); rintro e w2 ⟨rfl, rfl⟩)
    | (go_at_call 19; (with_reducible refine (words_ok ⟨w1.heap.size, 0, none⟩ 3 3 (szs ((r : Int) + 32)) xa ya _ (vws_start (HC.out.below (B1.out.alloc B1.out.size _))) (insAt3 w1 _ _) (by decide) HZs).mono ?_); rintro e w2 ⟨v', rfl, hown, hb⟩; have HO := Lib.hid hown; have B2 := Lib.hid ((B1.out.alloc B1.out.size _).trans (hb.mono (Nat.le_trans B1.out.size (by simp)))); clear hb hown))
  obtain ⟨al, c, rfl⟩ := own_shape' HO.out
  have HRU := Lib.hid (ru_wordsS HO.out)
  clear HO
  obtain ⟨ws, HWs⟩ : ∃ ws, Hid (wsS (szs ((r : Int) + 32)) 3 = ws) := ⟨_, Lib.hid rfl⟩
  have HWl : Hid (ws.length = 3) := Lib.hid (by rw [← HWs.out]; exact wsS_len _ _)
  rw [HWs.out] at HRU
  have HZ0 : Hid (ws.getD 0 0 = wordC 7 3 2 0 ((r : Int) + 32)) := Lib.hid (by rw [← HWs.out]; exact wsS_at _ 3 0 (by decide))
  have HZ1 : Hid (ws.getD 1 0 = wordC 6 4 2 0 ((r : Int) + 32)) := Lib.hid (by rw [← HWs.out]; exact wsS_at _ 3 1 (by decide))
  go_upto_region 9 with (first
    | (go_at_call 20; (with_reducible refine (made17_is al 3 c ws (by decide) HWl vs vr _ (HE.out.below B2.out) HRU.out).mono ?_); rintro e w3 ⟨mb, S, a, b, N, cb, x, W, W2, rfl, hm, hw⟩; have HM := Lib.hid (hm.over B2.out); have HW := Lib.hid hw.out; clear hm hw))
  generalize hB : World.alloc w3 _ = wB
  have HMB : Hid (MemAt w wB mb S a b N cb 4 (upd (fun _ => false) 0 true) (fun _ => 0) W (upd (upd (fun _ => false) 0 true) 1 true) (fun _ => 0) W2 0 (.slice none 0 0) []) := Lib.hid (by rw [← hB]; exact HM.out.below ((Below.refl _ _).alloc (Nat.le_refl _) _))
  have HKB : Hid (KeyC wB w3.heap.size 2 0 0 0 1) := Lib.hid (by rw [← hB]; exact KeyC.new _ _ _ _ _ _ _)
  clear hB HM B1 B2
  have q0 := HKB.out.c0
  have q1 := HKB.out.c1
  have q2 := HKB.out.c2
  have q3 := HKB.out.c3
  have q4 := HKB.out.c4
  go_upto_region 12 with (refine wpList_store_mid (by rfl) _ _ _ (by rfl) wB.heap.size 0 domM (by rfl) (by rfl) (there_new wB _ _ zeroDom_size _) infoDom domM_one ?_)
  have HS := Lib.hid (CpAt.startM HMB.out)
  generalize hC2 : World.setCells (World.alloc wB _) _ _ _ = wC at HS ⊢
  clear hC2 q0 q1 q2 q3 q4 HMB HKB
  have c3 := HS.out.d.c 3 (by decide)
  have z3 := HS.out.d.fr 3
  go_upto_region 13 with fail
  have HS1 := Lib.hid (HS.out.set 3 (.int .u32 u) (by decide))
  generalize hD : World.setCell wC _ _ = wD at HS1 ⊢
  clear hD c3 z3 HS
  obtain ⟨f0, hf0⟩ : ∃ f0, f0 = updD fM 3 (.int .u32 u) := ⟨_, rfl⟩
  rw [← hf0] at HS1
  have HF0 : Hid (Fm f0 ((0 : Nat) : Int) ∧ f0 2 = .int .u32 0 ∧ f0 3 = .int .u32 u) := Lib.hid (by rw [hf0]; exact ⟨Fm.start.reg _ _ (by decide), rfl, rfl⟩)
  clear hf0
  obtain ⟨f1, hf1⟩ : ∃ f1, f1 = updD f0 8 (.int .u32 1) := ⟨_, rfl⟩
  have HF1 : Hid (Fm f1 ((1 : Nat) : Int) ∧ f1 2 = .int .u32 0 ∧ f1 3 = .int .u32 u) := Lib.hid (by rw [hf1]; exact ⟨HF0.out.1.to _, (updD_other _ _ _ _ (by decide)).trans HF0.out.2.1, (updD_other _ _ _ _ (by decide)).trans HF0.out.2.2⟩)
  obtain ⟨f2, hf2⟩ : ∃ f2, f2 = updD f1 8 (.int .u32 2) := ⟨_, rfl⟩
  have HF2 : Hid (Fm f2 ((2 : Nat) : Int) ∧ f2 2 = .int .u32 0) := Lib.hid (by rw [hf2]; exact ⟨HF1.out.1.to _, (updD_other _ _ _ _ (by decide)).trans HF1.out.2.1⟩)
  obtain ⟨f3, hf3⟩ : ∃ f3, f3 = updD f2 4 (.int .u32 u) := ⟨_, rfl⟩
  have HF3 : Hid (Fm f3 ((2 : Nat) : Int) ∧ f3 4 = .int .u32 u) := Lib.hid (by rw [hf3]; exact ⟨HF2.out.1.reg _ _ (by decide), updD_at _ _ _⟩)
  have HBn : Hid (1 < b.n) := Lib.hid (by rw [HW.out.bn]; decide)
  have HBn0 : Hid (0 < b.n) := Lib.hid (by rw [HW.out.bn]; decide)
  have HL0 := Lib.hid (live_to 0 (by decide))
  have HL1 := Lib.hid (live_to 1 (by decide))
  have HWd := Lib.hid (way_to HW.out 1 r (r + 32) (by decide) HR.out (by omega))
  have HWy0 := Lib.hid (way_to HW.out 0 0 0 (by decide) (by decide) rfl)
  have HWy1 := Lib.hid (way_to HW.out 0 1 1 (by decide) (by decide) rfl)
  have HP0 : Hid (PartsC (wordC 7 3 2 0 ((r : Int) + 32)) 7 3 2 0 ((r : Int) + 32) ∧ 0 ≤ wordC 7 3 2 0 ((r : Int) + 32) ∧ wordC 7 3 2 0 ((r : Int) + 32) ≤ 4294967295) := Lib.hid (partsC_of HT.out.1)
  have HP1 : Hid (PartsC (wordC 6 4 2 0 ((r : Int) + 32)) 6 4 2 0 ((r : Int) + 32) ∧ 0 ≤ wordC 6 4 2 0 ((r : Int) + 32) ∧ wordC 6 4 2 0 ((r : Int) + 32) ≤ 4294967295) := Lib.hid (partsC_of HT.out.2)
  have HY0 : Hid (W2 0 0 = wordC 7 3 2 0 ((r : Int) + 32)) := Lib.hid ((HW.out.p0 0 (by decide)).trans HZ0.out)
  have HY1 : Hid (updA W2 1 r u 0 1 = wordC 6 4 2 0 ((r : Int) + 32)) := Lib.hid ((updA_0 W2 r 1 u).trans ((HW.out.p0 1 (by decide)).trans HZ1.out))
  have HAd : Hid ((0 + ((r : Int) + 32) % 4294967296) % 4294967296 = ((r + 32 : Nat) : Int)) := Lib.hid (by omega)
  generalize hw1 : wordC 7 3 2 0 ((r : Int) + 32) = wd1 at HP0 HY0 HZ0
  generalize hw2 : wordC 6 4 2 0 ((r : Int) + 32) = wd2 at HP1 HY1 HZ1
  clear hw1 hw2
  have HDO1 : Hid (∀ w1 hits1 v1 E1, CpAt w w1 mb S a b N cb (upd (fun _ => false) 0 true) (fun _ => 0) W (upd (upd (fun _ => false) 0 true) 1 true) (fun _ => 0) W2 hits1 v1 E1 wB.heap.size (updD f0 8 (.int .u32 1)) → 0 ≤ hits1 → hits1 ≤ 0 + 1 → Calls Tryd.prog 42 #[.pointer (some ⟨mb, 0, none⟩), .pointer (some ⟨wB.heap.size, 0, none⟩), (Value.agg #[.int .i64 7, .int .i64 3, .int .i64 2, .int .i64 0, .int .i64 ((r : Int) + 32)])] w1 fun e w' => e = .returned (.agg (evA 0 0 0)) ∧ CQ w w1 mb S a b N cb (upd (fun _ => false) 0 true) (fun _ => 0) W (upd (upd (fun _ => false) 0 true) 1 true) (fun _ => 0) (updA W2 1 r u) hits1 (hits1 + 1) v1 E1 wB.heap.size f1 w') := Lib.hid (by
    rw [← hf1]
    exact fun w1 hits1 v1 E1 h l1 l2 => cdo_move 7 3 2 _ (.inr rfl) (evA 0 0 0) 0 (Lib.hid (evA_ok 0 0 0)) _ _ (Lib.hid (fun w2 hc => cmove_save 3 2 ((r : Int) + 32) 3 2 (r + 32) (Lib.hid ⟨rfl, rfl⟩) (by decide) (by decide) 0 u (by decide) (by decide) HF1.out.2.1 HAd 2 0 0 0 1 (Lib.hid ⟨HF1.out.1.m0, HF1.out.1.m1, HF1.out.1.m2, HF1.out.1.m3, HF1.out.1.m4⟩) (by have := HR.out; omega) [0] (Lib.hid (by omega)) HF1.out.2.2 1 r HBn.out HR.out HL1 HWd w2 hc)) w1 h)
  have HDO2 : Hid (∀ w1 hits1 v1 E1, CpAt w w1 mb S a b N cb (upd (fun _ => false) 0 true) (fun _ => 0) W (upd (upd (fun _ => false) 0 true) 1 true) (fun _ => 0) (updA W2 1 r u) hits1 v1 E1 wB.heap.size (updD f1 8 (.int .u32 2)) → hits1 ≤ 10 → Calls Tryd.prog 42 #[.pointer (some ⟨mb, 0, none⟩), .pointer (some ⟨wB.heap.size, 0, none⟩), (Value.agg #[.int .i64 6, .int .i64 4, .int .i64 2, .int .i64 0, .int .i64 ((r : Int) + 32)])] w1 fun e w' => e = .returned (.agg (evA 0 0 0)) ∧ CQ w w1 mb S a b N cb (upd (fun _ => false) 0 true) (fun _ => 0) W (upd (upd (fun _ => false) 0 true) 1 true) (fun _ => 0) (updA W2 1 r u) hits1 (hits1 + 1) v1 E1 wB.heap.size f3 w') := Lib.hid (by
    rw [← hf2, hf3]
    exact fun w1 hits1 v1 E1 h l2 => cdo_move 6 4 2 _ (.inl rfl) (evA 0 0 0) 0 (Lib.hid (evA_ok 0 0 0)) _ _ (Lib.hid (fun w2 hc => cmove_load 4 2 ((r : Int) + 32) 4 2 (r + 32) (Lib.hid ⟨rfl, rfl⟩) (by decide) (by decide) 0 u (by decide) (by decide) HF2.out.2 HAd 2 0 0 0 1 (Lib.hid ⟨HF2.out.1.m0, HF2.out.1.m1, HF2.out.1.m2, HF2.out.1.m3, HF2.out.1.m4⟩) (by have := HR.out; omega) [0] (Lib.hid (by omega)) 1 r HBn.out HR.out HL1 (Lib.hid (updA_hit W2 1 r u)) HWd w2 hc)) w1 h)
  clear hf1 hf2 hf3
  go_upto_region 14 with (first
    | (go_at_call 21; (with_reducible refine (cstep_do 2 0 0 0 1 0 0 (Lib.hid rfl) (by decide) [0] ((0 : Nat) : Int) ((0 : Nat) : Int) false 0 0 (Lib.hid ⟨rfl, rfl⟩) HBn0.out (by decide) HL0 wd1 HY0 HP0.out.2.1 HP0.out.2.2 7 3 2 0 _ (Lib.hid HP0.out.1) (Lib.hid HT.out.1) HF0.out.1.pc HF0.out.1.m0 HF0.out.1.m1 HF0.out.1.m2 HF0.out.1.m3 HF0.out.1.m4 (Lib.hid (by decide)) HWy0 xa ya HC.out 1 (Lib.hid (by decide)) (evA 0 0 0) 0 (by decide) (Lib.hid (evA_ok 0 0 0)) (updA W2 1 r u) f1 HDO1 _ HS1.out).mono ?_); rintro e w5 ⟨rfl, hq⟩; have HQ := Lib.hid hq; clear hq)
    | (refine wpList_store_mid (by rfl) _ _ _ (by rfl) w5.heap.size 0 (evA 0 0 0) (by rfl) (by rfl) (there_new _ _ _ (by rfl) _) infoEv (evA_one _ _ _) ?_))
  generalize hE6 : World.setCells (World.alloc w5 _) _ _ _ = w6
  have B6 : Hid (Below w5.heap.size w5 w6) := Lib.hid (by rw [← hE6]; exact below_cells ((Below.refl _ _).alloc (Nat.le_refl _) _) (Nat.le_refl _) _ _)
  have R6 : Hid (w6.rangeAt w5.heap.size 0 (evA 0 0 0).toList) := Lib.hid (by rw [← hE6]; exact (evA_ok 0 0 0).stored (there_new _ _ _ rfl _))
  have M6 : Hid (Mine w5 w6 w5.heap.size) := Lib.hid ⟨B6.out, Nat.le_refl _, by rw [← hE6, size_setCells]; simp⟩
  clear hE6
  obtain ⟨hits5, v5, E5, hc5, l1, l2, hk5⟩ := HQ.out
  have H5 := Lib.hid hc5
  have H6 := Lib.hid (hc5.below B6.out)
  clear hc5 hk5 HQ
  go_upto_region 18 with (first
    | (go_at_call 21; (with_reducible refine (cstep_do 2 0 0 0 1 1 1 (Lib.hid rfl) (by decide) [0] ((0 : Nat) : Int) ((1 : Nat) : Int) false 0 1 (Lib.hid ⟨rfl, rfl⟩) HBn0.out (by decide) HL0 wd2 HY1 HP1.out.2.1 HP1.out.2.2 6 4 2 0 _ (Lib.hid HP1.out.1) (Lib.hid HT.out.2) HF1.out.1.pc HF1.out.1.m0 HF1.out.1.m1 HF1.out.1.m2 HF1.out.1.m3 HF1.out.1.m4 (Lib.hid (by omega)) HWy1 xa ya HC.out 2 (Lib.hid (by decide)) (evA 0 0 0) 0 (by decide) (Lib.hid (evA_ok 0 0 0)) (updA W2 1 r u) f3 (Lib.hid (fun w1 hits1 v1 E1 h _ l4 => HDO2.out w1 hits1 v1 E1 h (by omega))) _ H6.out).mono ?_); rintro e w7 ⟨rfl, hq⟩; have HQ := Lib.hid hq; clear hq)
    | (refine wpList_store_mid (by rfl) _ _ _ (by rfl) w7.heap.size 0 (evA 0 0 0) (by rfl) (by rfl) (there_new _ _ _ (by rfl) _) infoEv (evA_one _ _ _) ?_))
  have R7 := Lib.hid (range_same R6.out (CQ.mine H5.out M6.out HQ.out))
  generalize hE8 : World.setCells (World.alloc w7 _) _ _ _ = w8
  have B8 : Hid (Below w7.heap.size w7 w8) := Lib.hid (by rw [← hE8]; exact below_cells ((Below.refl _ _).alloc (Nat.le_refl _) _) (Nat.le_refl _) _ _)
  have R8 : Hid (w8.rangeAt w7.heap.size 0 (evA 0 0 0).toList) := Lib.hid (by rw [← hE8]; exact (evA_ok 0 0 0).stored (there_new _ _ _ rfl _))
  clear hE8
  have eA := (evA_ok 0 0 0).cell (range_same R7.out (B8.out.block _ (Nat.lt_of_lt_of_le M6.out.hi (CQ.size HQ.out))))
  have eB := (evA_ok 0 0 0).cell R8.out
  obtain ⟨hits8, v8, E8, hc8, l3, l4, hk8⟩ := (HQ.out.below B8.out)
  have H8 := Lib.hid hc8
  have m0 := hc8.m.m0
  have s1 := hc8.m.sv.st.s1
  have d4 : w8.cell? ⟨wB.heap.size, 4, none⟩ = some (.int .u32 u) := (hc8.d.c 4 (by decide)).trans (by rw [HF3.out.2])
  have d8 : w8.cell? ⟨wB.heap.size, 8, none⟩ = some (.int .u32 2) := (hc8.d.c 8 (by decide)).trans (by rw [HF3.out.1.pc]; rfl)
  clear hc8 hk8
  have e32 : (r : Int) + 32 - 32 = r := by omega
  go_wp2_with (first
    | (go_at_call 23; (with_reducible refine (pread_at 1 _ 1 r (Lib.hid rfl) (Lib.hid rfl) HBn.out HR.out HL1 u (Lib.hid (updA_hit W2 1 r u)) _ H8.out.m.sv.st.pg).mono ?_); rintro e w9 ⟨rfl, rfl⟩))
  go_ret
  exact ⟨rfl, H8.out.bel⟩
set_option maxRecDepth 100000 in
set_option maxHeartbeats 8000000 in
theorem stores_ro (a0 u : Int) (g1 : -9223372036854775808 ≤ a0) (g2 : a0 ≤ 9223372036854775807) (u0 : 0 ≤ u) (u1 : u ≤ 4294967295) (vs vr : Value) (xa ya : Addr) (w : World) (hE : ErrsAt vs vr w) (hC : CodeAt (errC xa) (errC ya) w) :
    Calls Tryd.prog 5 #[.int .i64 a0, .int .u32 u, .bool true] w fun e w' => e = .returned (.bool true) ∧ Below w.heap.size w w' := by
  obtain ⟨r, hr, CT⟩ := number_natb a0 32 32 rfl (by decide) (by decide) g1 g2
  have CT' := Lib.hid CT
  have HR := Lib.hid hr
  have HZs := Lib.hid (szs_ok ((r : Int) + 32) (by omega) (by omega))
  have HE := Lib.hid hE
  have HC := Lib.hid hC
  have HT : Hid (okB 7 3 2 0 ((r : Int) + 32) = true ∧ okB 6 4 2 0 ((r : Int) + 32) = true) := Lib.hid ⟨ok_save _ (by omega) (by omega), ok_load _ (by omega) (by omega)⟩
  clear CT g1 g2 hE hC
  go_enter Tryd.func5, Tryd.ntmps5
  go_upto_region 6 with (first
    | (go_at_call 10; (with_reducible refine (cfirst_is vs vr _ HE.out).mono ?_); rintro e w1 ⟨rfl, hb⟩; have B1 := Lib.hid hb; clear hb)
    | (go_at_call 18; (with_reducible refine (CT'.out _).mono ?_); rintro e w2 ⟨rfl, rfl⟩)
    | (go_at_call 19; (with_reducible refine (words_ok ⟨w1.heap.size, 0, none⟩ 3 3 (szs ((r : Int) + 32)) xa ya _ (vws_start (HC.out.below (B1.out.alloc B1.out.size _))) (insAt3 w1 _ _) (by decide) HZs).mono ?_); rintro e w2 ⟨v', rfl, hown, hb⟩; have HO := Lib.hid hown; have B2 := Lib.hid ((B1.out.alloc B1.out.size _).trans (hb.mono (Nat.le_trans B1.out.size (by simp)))); clear hb hown))
  obtain ⟨al, c, rfl⟩ := own_shape' HO.out
  have HRU := Lib.hid (ru_wordsS HO.out)
  clear HO
  obtain ⟨ws, HWs⟩ : ∃ ws, Hid (wsS (szs ((r : Int) + 32)) 3 = ws) := ⟨_, Lib.hid rfl⟩
  have HWl : Hid (ws.length = 3) := Lib.hid (by rw [← HWs.out]; exact wsS_len _ _)
  rw [HWs.out] at HRU
  have HZ0 : Hid (ws.getD 0 0 = wordC 7 3 2 0 ((r : Int) + 32)) := Lib.hid (by rw [← HWs.out]; exact wsS_at _ 3 0 (by decide))
  have HZ1 : Hid (ws.getD 1 0 = wordC 6 4 2 0 ((r : Int) + 32)) := Lib.hid (by rw [← HWs.out]; exact wsS_at _ 3 1 (by decide))
  go_upto_region 9 with (first
    | (go_at_call 20; (with_reducible refine (made17_is al 3 c ws (by decide) HWl vs vr _ (HE.out.below B2.out) HRU.out).mono ?_); rintro e w3 ⟨mb, S, a, b, N, cb, x, W, W2, rfl, hm, hw⟩; have HM := Lib.hid (hm.over B2.out); have HW := Lib.hid hw.out; clear hm hw))
  have HFar : Hid (N ≤ w3.heap.size ∧ cb ≠ w3.heap.size ∧ mb ≠ w3.heap.size) := Lib.hid ⟨HM.out.nN, by have := HM.out.ca.cl; omega, by have := HM.out.ml; omega⟩
  generalize hB : World.alloc w3 _ = wB
  have HMB : Hid (MemAt w wB mb S a b N cb 4 (upd (fun _ => false) 0 true) (fun _ => 0) W (upd (upd (fun _ => false) 0 true) 1 true) (fun _ => 0) W2 0 (.slice none 0 0) []) := Lib.hid (by rw [← hB]; exact HM.out.below ((Below.refl _ _).alloc (Nat.le_refl _) _))
  have HKB : Hid (KeyC wB w3.heap.size 2 0 0 0 1) := Lib.hid (by rw [← hB]; exact KeyC.new _ _ _ _ _ _ _)
  clear hB HM B1 B2
  have q0 := HKB.out.c0
  have q1 := HKB.out.c1
  have q2 := HKB.out.c2
  have q3 := HKB.out.c3
  have q4 := HKB.out.c4
  have z3 := HKB.out.fr 3
  go_upto_region 11 with fail
  have HMP := Lib.hid (HMB.out.put w3.heap.size 3 HFar.out.1 HFar.out.2.1 HFar.out.2.2 (by simp [Value.ownBlock]) (fun e he => by cases he) (.int .i64 1))
  have k0 : (World.setCell wB ⟨w3.heap.size, 3, none⟩ (.int .i64 1)).cell? ⟨w3.heap.size, 0, none⟩ = some (.int .i64 2) := (World.cell?_setCell_other _ _ _ _ (by simp)).trans q0
  have k1 : (World.setCell wB ⟨w3.heap.size, 3, none⟩ (.int .i64 1)).cell? ⟨w3.heap.size, 1, none⟩ = some (.int .i64 0) := (World.cell?_setCell_other _ _ _ _ (by simp)).trans q1
  have k2 : (World.setCell wB ⟨w3.heap.size, 3, none⟩ (.int .i64 1)).cell? ⟨w3.heap.size, 2, none⟩ = some (.int .i64 0) := (World.cell?_setCell_other _ _ _ _ (by simp)).trans q2
  have k3 : (World.setCell wB ⟨w3.heap.size, 3, none⟩ (.int .i64 1)).cell? ⟨w3.heap.size, 3, none⟩ = some (.int .i64 1) := World.cell?_setCell_same _ _ _ q3
  have k4 : (World.setCell wB ⟨w3.heap.size, 3, none⟩ (.int .i64 1)).cell? ⟨w3.heap.size, 4, none⟩ = some (.int .u32 1) := (World.cell?_setCell_other _ _ _ _ (by simp)).trans q4
  clear q0 q1 q2 q3 q4 z3 HMB HKB
  generalize hK : World.setCell wB _ _ = wK at HMP k0 k1 k2 k3 k4 ⊢
  clear hK
  go_upto_region 12 with (refine wpList_store_mid (by rfl) _ _ _ (by rfl) wK.heap.size 0 domR (by rfl) (by rfl) (there_new wK _ _ zeroDom_size _) infoDom domR_one ?_)
  have HS := Lib.hid (CpAt.startR HMP.out)
  generalize hC2 : World.setCells (World.alloc wK _) _ _ _ = wC at HS ⊢
  clear hC2 k0 k1 k2 k3 k4 HMP
  have c3 := HS.out.d.c 3 (by decide)
  have z3 := HS.out.d.fr 3
  go_upto_region 13 with fail
  have HS1 := Lib.hid (HS.out.set 3 (.int .u32 u) (by decide))
  generalize hD : World.setCell wC _ _ = wD at HS1 ⊢
  clear hD c3 z3 HS
  obtain ⟨f0, hf0⟩ : ∃ f0, f0 = updD fR 3 (.int .u32 u) := ⟨_, rfl⟩
  rw [← hf0] at HS1
  have HF0 : Hid (f0 8 = .int .u32 0 ∧ MK f0 2 0 0 1 1 ∧ f0 2 = .int .u32 0 ∧ f0 3 = .int .u32 u) := Lib.hid (by rw [hf0]; exact ⟨rfl, ⟨rfl, rfl, rfl, rfl, rfl⟩, rfl, rfl⟩)
  clear hf0
  obtain ⟨f1, hf1⟩ : ∃ f1, f1 = updD f0 8 (.int .u32 1) := ⟨_, rfl⟩
  have HF1 : Hid (MK f1 2 0 0 1 1 ∧ f1 2 = .int .u32 0 ∧ f1 3 = .int .u32 u) := Lib.hid (by rw [hf1]; exact ⟨⟨(updD_other _ _ _ _ (by decide)).trans HF0.out.2.1.k0, (updD_other _ _ _ _ (by decide)).trans HF0.out.2.1.k1, (updD_other _ _ _ _ (by decide)).trans HF0.out.2.1.k2, (updD_other _ _ _ _ (by decide)).trans HF0.out.2.1.k3, (updD_other _ _ _ _ (by decide)).trans HF0.out.2.1.k4⟩, (updD_other _ _ _ _ (by decide)).trans HF0.out.2.2.1, (updD_other _ _ _ _ (by decide)).trans HF0.out.2.2.2⟩)
  have HBn : Hid (1 < b.n) := Lib.hid (by rw [HW.out.bn]; decide)
  have HBn0 : Hid (0 < b.n) := Lib.hid (by rw [HW.out.bn]; decide)
  have HL0 := Lib.hid (live_to 0 (by decide))
  have HL1 := Lib.hid (live_to 1 (by decide))
  have HWd := Lib.hid (way_twoR HW.out 1 r (r + 32) (by decide) HR.out (by omega))
  have HWy0 := Lib.hid (way_twoR HW.out 0 0 0 (by decide) (by decide) rfl)
  have HP0 : Hid (PartsC (wordC 7 3 2 0 ((r : Int) + 32)) 7 3 2 0 ((r : Int) + 32) ∧ 0 ≤ wordC 7 3 2 0 ((r : Int) + 32) ∧ wordC 7 3 2 0 ((r : Int) + 32) ≤ 4294967295) := Lib.hid (partsC_of HT.out.1)
  have HY0 : Hid (W2 0 0 = wordC 7 3 2 0 ((r : Int) + 32)) := Lib.hid ((HW.out.p0 0 (by decide)).trans HZ0.out)
  have HAd : Hid ((0 + ((r : Int) + 32) % 4294967296) % 4294967296 = ((r + 32 : Nat) : Int)) := Lib.hid (by omega)
  obtain ⟨ad, had⟩ : ∃ ad : Nat, ad = r + 32 := ⟨_, rfl⟩
  have HAx : Hid ((ad : Int) = (r : Int) + 32 ∧ ad ≤ 4294967295) := Lib.hid (by omega)
  rw [← had] at HWd HAd
  clear had
  generalize hw1 : wordC 7 3 2 0 ((r : Int) + 32) = wd1 at HP0 HY0 HZ0
  clear hw1
  have HDO1 : Hid (∀ w1 hits1 v1 E1, CpAt w w1 mb S a b N cb (upd (fun _ => false) 0 true) (fun _ => 0) W (upd (upd (fun _ => false) 0 true) 1 true) (fun _ => 0) W2 hits1 v1 E1 wK.heap.size (updD f0 8 (.int .u32 1)) → 0 ≤ hits1 → hits1 ≤ 0 + 1 → Calls Tryd.prog 42 #[.pointer (some ⟨mb, 0, none⟩), .pointer (some ⟨wK.heap.size, 0, none⟩), (Value.agg #[.int .i64 7, .int .i64 3, .int .i64 2, .int .i64 0, .int .i64 ((r : Int) + 32)])] w1 fun e w' => e = .returned (.agg (evA 4 4 ad)) ∧ CQ w w1 mb S a b N cb (upd (fun _ => false) 0 true) (fun _ => 0) W (upd (upd (fun _ => false) 0 true) 1 true) (fun _ => 0) W2 hits1 (hits1 + 1) v1 E1 wK.heap.size f1 w') := Lib.hid (by
    rw [← hf1]
    exact fun w1 hits1 v1 E1 h l1 l2 => cdo_move 7 3 2 _ (.inr rfl) (evA 4 4 ad) 4 (Lib.hid (evA_ok 4 4 ad)) _ _ (Lib.hid (fun w2 hc => cmove_ro 3 2 ((r : Int) + 32) 3 2 ad (Lib.hid ⟨rfl, rfl⟩) (by decide) (by decide) 0 u (by decide) (by decide) HF1.out.2.1 HAd 2 0 0 1 1 (Lib.hid HF1.out.1) HAx.out.2 [0] (Lib.hid (by omega)) HF1.out.2.2 1 r HWd w2 hc)) w1 h)
  clear hf1
  go_upto_region 14 with (first
    | (go_at_call 21; (with_reducible refine (cstep_undo 2 0 0 1 1 0 0 (Lib.hid rfl) (by decide) [0] ((0 : Nat) : Int) ((0 : Nat) : Int) true 0 0 (Lib.hid ⟨rfl, rfl⟩) HBn0.out (by decide) HL0 wd1 HY0 HP0.out.2.1 HP0.out.2.2 7 3 2 0 _ (Lib.hid HP0.out.1) (Lib.hid HT.out.1) HF0.out.1 HF0.out.2.1.k0 HF0.out.2.1.k1 HF0.out.2.1.k2 HF0.out.2.1.k3 HF0.out.2.1.k4 (Lib.hid (by decide)) HWy0 xa ya HC.out 1 (Lib.hid (by decide)) (evA 4 4 ad) 4 (Lib.hid rfl) (Lib.hid (evA_ok 4 4 ad)) W2 f1 HDO1 _ HS1.out).mono ?_); rintro e w5 ⟨rfl, hq⟩; have HQ := Lib.hid hq; clear hq)
    | (refine wpList_store_mid (by rfl) _ _ _ (by rfl) w5.heap.size 0 (evA 4 4 ad) (by rfl) (by rfl) (there_new _ _ _ (by rfl) _) infoEv (evA_one _ _ _) ?_))
  generalize hE6 : World.setCells (World.alloc w5 _) _ _ _ = w6
  have B6 : Hid (Below w5.heap.size w5 w6) := Lib.hid (by rw [← hE6]; exact below_cells ((Below.refl _ _).alloc (Nat.le_refl _) _) (Nat.le_refl _) _ _)
  have R6 : Hid (w6.rangeAt w5.heap.size 0 (evA 4 4 ad).toList) := Lib.hid (by rw [← hE6]; exact (evA_ok 4 4 ad).stored (there_new _ _ _ rfl _))
  clear hE6
  have eA : w6.cell? ⟨w5.heap.size, 0, none⟩ = some (.int .i64 4) := R6.out 0 _ rfl
  have eB : w6.cell? ⟨w5.heap.size, 26, none⟩ = some (.int .i64 4) := R6.out 26 _ rfl
  have eC : w6.cell? ⟨w5.heap.size, 27, none⟩ = some (.int .u32 ((r : Int) + 32)) := (R6.out 27 _ rfl).trans (by rw [HAx.out.1])
  obtain ⟨hits8, v8, E8, hc8, l3, l4, hk8⟩ := (HQ.out.below B6.out)
  have H8 := Lib.hid hc8
  have m0 := hc8.m.m0
  have s1 := hc8.m.sv.st.s1
  have d8 : w6.cell? ⟨wK.heap.size, 8, none⟩ = some (.int .u32 0) := (hc8.d.c 8 (by decide)).trans (by rw [updD_at])
  clear hc8 hk8
  have e32 : (r : Int) + 32 - 32 = r := by omega
  have hwr : IntKind.u32.wrap ((r : Int) + 32) = (r : Int) + 32 := by rw [IntKind.wrap_u32]; omega
  go_wp2_with (first
    | (go_at_call 23; (with_reducible refine (pread_at 1 _ 1 r (Lib.hid rfl) (Lib.hid rfl) HBn.out HR.out HL1 0 (Lib.hid (HW.out.p1 r HR.out)) _ H8.out.m.sv.st.pg).mono ?_); rintro e w9 ⟨rfl, rfl⟩))
  go_ret
  exact ⟨rfl, H8.out.bel⟩
theorem walk_CpuStores (a0 : Int) (a1 : Int) (a2 : Bool) (w : World) (w0 : (Lit.int .i64 a0).wf = true) (w1 : (Lit.int .u32 a1).wf = true) (hL : laidMetH Tryd.prog Rows.cpuStoresRow.laid w) :
    Calls Tryd.prog 5 #[.int .i64 a0, .int .u32 a1, .bool a2] w fun e w' => e = .returned (.bool true) ∧ Below w.heap.size w w' := by
  rw [MakeChecks.laidMetH_plain _ _ _ (by kernel_rfl)] at hL
  obtain ⟨vs, vr, hE⟩ := (errs2 hL ⟨_, by repeat (first | exact List.Mem.head _ | apply List.Mem.tail)⟩ ⟨_, by repeat (first | exact List.Mem.head _ | apply List.Mem.tail)⟩)
  have hC := code_of hL ⟨_, by repeat (first | exact List.Mem.head _ | apply List.Mem.tail)⟩ ⟨_, by repeat (first | exact List.Mem.head _ | apply List.Mem.tail)⟩ (by repeat (first | exact List.Mem.head _ | apply List.Mem.tail))
  cases a2
  · exact stores_rw a0 a1 (i64_fitC w0).1 (i64_fitC w0).2 (u32_fit w1).1 (u32_fit w1).2 vs vr _ _ w hE hC
  · exact stores_ro a0 a1 (i64_fitC w0).1 (i64_fitC w0).2 (u32_fit w1).1 (u32_fit w1).2 vs vr _ _ w hE hC
end Go.Proofs.YtjkbfhojjjkgnaaDoor
