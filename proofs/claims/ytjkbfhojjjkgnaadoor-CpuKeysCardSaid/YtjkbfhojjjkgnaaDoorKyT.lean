/-
  Un as one.
-/
import Derived.Test.YtjkbfhojjjkgnaaDoorP13
namespace Go.Proofs.YtjkbfhojjjkgnaaDoor
open Go.ChangeShapes Go.WideShapes Go.ChangeAt Go.RowKit
set_option linter.unusedVariables false
set_option linter.unusedSimpArgs false
theorem ok_kmove (p q : Nat) (hp : p < 16) (hq : q < 16) : okB 8 (p : Int) (q : Int) 0 0 = true := by
  unfold okB fitB
  simp [fA, fB, fC, fI, hiOf]
  omega
theorem ok_kget (p q : Nat) (hp : p < 8) (hq : q < 16) : okB 10 (p : Int) (q : Int) 0 0 = true := by
  unfold okB fitB
  simp [fA, fB, fC, fI, hiOf]
  omega
theorem ok_knum (p q : Nat) (hp : p < 16) (hq : q < 8) : okB 9 (p : Int) (q : Int) 0 0 = true := by
  unfold okB fitB
  simp [fA, fB, fC, fI, hiOf]
  omega
theorem vw_start {x y : Addr} {w : World} (h : CodeAt (errC x) (errC y) w) : VW x y w w := ⟨Below.refl _ _, h⟩
theorem same_key (k0 k1 k2 k3 k4 : Int) (w : World) : Calls Tryd.prog 24 #[(Value.agg #[.int .i64 k0, .int .i64 k1, .int .i64 k2, .int .i64 k3, .int .u32 k4]), (Value.agg #[.int .i64 k0, .int .i64 k1, .int .i64 k2, .int .i64 k3, .int .u32 k4])] w fun e w' => e = .returned (.bool true) ∧ Below w.heap.size w w' :=
  (samekey_any k0 k1 k2 k3 k4 k0 k1 k2 k3 k4 w).mono fun e w' ⟨h1, h2⟩ => ⟨by rw [h1]; simp [sameB], h2⟩
/-- The four instructions. -/
def kzs (p q : Nat) : List (List Int) := [[8, (p : Int), (q : Int), 0, 0], [10, 1, (p : Int), 0, 0], [9, (q : Int), 2, 0, 0], [10, 3, (q : Int), 0, 0]]
theorem kzs_ok (p q : Nat) (hp : p < 16) (hq : q < 16) : ∀ i, i < 4 → zok (kzs p q) i = true := fun i hi => by
  have h4 : i = 0 ∨ i = 1 ∨ i = 2 ∨ i = 3 := by omega
  rcases h4 with rfl | rfl | rfl | rfl
  · exact ok_kmove p q hp hq
  · exact ok_kget 1 p (by decide) hp
  · exact ok_knum q 2 hq (by decide)
  · exact ok_kget 3 q (by decide) hq
theorem CpAt.sets {w0 : World} {mb S : Nat} {a b : Shp} {N cb : Nat} {th : Nat → Bool} {vr_ : Nat → Int} {W : Nat → Nat → Value} {th2 : Nat → Bool} {vr2 : Nat → Int} {W2 : Nat → Nat → Int} {hits : Int} {v : Value} {E : List EW} {db : Nat} {f : Nat → Value} {w : World} (h : (CpAt w0 w mb S a b N cb th vr_ W th2 vr2 W2 hits v E db f)) (o : Nat) (xs : List Value) (ho : o + xs.length ≤ 107) : CpAt w0 (w.setCells db o xs) mb S a b N cb th vr_ W th2 vr2 W2 hits v E db (updL f o xs) := ⟨MemAt.putsD h.ap xs o w h.m, h.el, h.h0, h.d.sets o xs ho, h.ap⟩
/-- The words of right instructions, as numbers. -/
def wsOf (zs : List (List Int)) (n : Nat) : List Int := (List.range n).map (zw zs)
theorem wsOf_len (zs : List (List Int)) (n : Nat) : (wsOf zs n).length = n := by simp [wsOf]
theorem wsOf_at (zs : List (List Int)) (n k : Nat) (h : k < n) : (wsOf zs n).getD k 0 = zw zs k := by simp [wsOf, List.getD, h]
theorem wsOf_row (zs : List (List Int)) (n : Nat) : (wsOf zs n).map (Value.int .u32) = zws zs n := by simp [wsOf, zws]
theorem ru_words {w : World} {B n c : Nat} {a : Option Addr} {zs : List (List Int)} (h : w.ownsRow B 22 1 (.slice a n c) n (zws zs n)) : RU w a (wsOf zs n) := by
  rw [← wsOf_row] at h
  exact own_ru h (wsOf_len zs n)
theorem insAt4 (w : World) (p q : Nat) (T : TypeId) : InsAt (w.alloc (.cells #[.int .i64 8, .int .i64 p, .int .i64 q, .int .i64 0, .int .i64 0, .int .i64 10, .int .i64 1, .int .i64 p, .int .i64 0, .int .i64 0, .int .i64 9, .int .i64 q, .int .i64 2, .int .i64 0, .int .i64 0, .int .i64 10, .int .i64 3, .int .i64 q, .int .i64 0, .int .i64 0] T (0, 0))) ⟨w.heap.size, 0, none⟩ 4 (kzs p q) := by
  refine ⟨by simp, fun i hi => ?_⟩
  have h4 : i = 0 ∨ i = 1 ∨ i = 2 ∨ i = 3 := by omega
  rcases h4 with rfl | rfl | rfl | rfl <;> simp [Addr.add, kzs, zf, List.getD]
set_option maxRecDepth 100000 in
set_option maxHeartbeats 8000000 in
theorem keys_any (k0 k1 k2 k3 k4 : Int) (a1 a2 u : Int) (g1 : -9223372036854775808 ≤ a1) (g2 : a1 ≤ 9223372036854775807) (g3 : -9223372036854775808 ≤ a2) (g4 : a2 ≤ 9223372036854775807) (vs vr : Value) (xa ya : Addr) (w0 : World) (hE : ErrsAt vs vr w0) (hC : CodeAt (errC xa) (errC ya) w0) :
    Calls Tryd.prog 6 #[(Value.agg #[.int .i64 k0, .int .i64 k1, .int .i64 k2, .int .i64 k3, .int .u32 k4]), .int .i64 a1, .int .i64 a2, .int .u32 u] w0 fun e w' => e = .returned (.bool true) ∧ Below w0.heap.size w0 w' := by
  obtain ⟨p, hp, C1⟩ := number_natb a1 16 16 rfl (by decide) (by decide) g1 g2
  obtain ⟨q, hq, C2⟩ := number_natb a2 16 16 rfl (by decide) (by decide) g3 g4
  have HC1 := Lib.hid C1
  have HC2 := Lib.hid C2
  have HPQ := Lib.hid (And.intro hp hq)
  have HZs := Lib.hid (kzs_ok p q hp hq)
  have hE0 := Lib.hid hE
  have hC0 := Lib.hid hC
  clear C1 C2 hp hq g1 g2 g3 g4 hE hC
  go_enter Tryd.func6, Tryd.ntmps6
  go_upto_region 1 with fail
  generalize hA : World.alloc w0 _ = w
  have B0 : Hid (Below w0.heap.size w0 w ∧ w.heap.size = w0.heap.size + 1) := Lib.hid (by rw [← hA]; exact ⟨(Below.refl _ _).alloc (Nat.le_refl _) _, by simp⟩)
  have HKB : Hid (KeyC w w0.heap.size k0 k1 k2 k3 k4) := Lib.hid (by rw [← hA]; exact KeyC.new _ _ _ _ _ _ _)
  have HE := Lib.hid (hE0.out.below B0.out.1)
  have HC := Lib.hid (hC0.out.below B0.out.1)
  clear hA
  go_upto_region 7 with (first
    | (go_at_call 10; (with_reducible refine (cfirst_is vs vr _ HE.out).mono ?_); rintro e w1 ⟨rfl, hb⟩; have B1 := Lib.hid hb; clear hb)
    | (go_at_call 18; (with_reducible refine (HC1.out _).mono ?_); rintro e w2 ⟨rfl, rfl⟩)
    | (go_at_call 18; (with_reducible refine (HC2.out _).mono ?_); rintro e w2 ⟨rfl, rfl⟩)
    | (go_at_call 19; (with_reducible refine (words_ok ⟨w1.heap.size, 0, none⟩ 4 4 (kzs p q) xa ya _ (vw_start (HC.out.below (B1.out.alloc B1.out.size _))) (insAt4 w1 p q _) (by decide) HZs).mono ?_); rintro e w2 ⟨v', rfl, hown, hb⟩; have HO := Lib.hid hown; have B2 := Lib.hid ((B1.out.alloc B1.out.size _).trans (hb.mono (Nat.le_trans B1.out.size (by simp)))); clear hb hown))
  obtain ⟨al, c, rfl⟩ := own_shape' HO.out
  have HRU := Lib.hid (ru_words HO.out)
  clear HO
  obtain ⟨ws, HWs⟩ : ∃ ws, Hid (wsOf (kzs p q) 4 = ws) := ⟨_, Lib.hid rfl⟩
  have HWl : Hid (ws.length = 4) := Lib.hid (by rw [← HWs.out]; exact wsOf_len _ _)
  rw [HWs.out] at HRU
  go_upto_region 10 with (first
    | (go_at_call 20; (with_reducible refine (made17_is al 4 c ws (by decide) HWl vs vr _ (HE.out.below B2.out) HRU.out).mono ?_); rintro e w3 ⟨mb, S, a, b, N, cb, x, W, W2, rfl, hm, hw⟩; have HM := Lib.hid (hm.over B2.out); have HW := Lib.hid hw.out; clear hm hw))
  generalize hB : World.alloc w3 _ = wB
  have HMB : Hid (MemAt w wB mb S a b N cb 4 (upd (fun _ => false) 0 true) (fun _ => 0) W (upd (upd (fun _ => false) 0 true) 1 true) (fun _ => 0) W2 0 (.slice none 0 0) []) := Lib.hid (by rw [← hB]; exact HM.out.below ((Below.refl _ _).alloc (Nat.le_refl _) _))
  have HKM : Hid (KeyC wB w3.heap.size 2 0 0 0 1) := Lib.hid (by rw [← hB]; exact KeyC.new _ _ _ _ _ _ _)
  clear hB HM B1 B2 HRU
  have q0 := HKM.out.c0
  have q1 := HKM.out.c1
  have q2 := HKM.out.c2
  have q3 := HKM.out.c3
  have q4 := HKM.out.c4
  go_upto_region 11 with (refine wpList_store_mid (by rfl) _ _ _ (by rfl) wB.heap.size 0 domM (by rfl) (by rfl) (there_new wB _ _ zeroDom_size _) infoDom domM_one ?_)
  have HS := Lib.hid (CpAt.startM HMB.out)
  generalize hC2 : World.setCells (World.alloc wB _) _ _ _ = wC at HS ⊢
  clear hC2 q0 q1 q2 q3 q4
  have HKC := Lib.hid (HKB.out.below HS.out.bel)
  have q0 := HKC.out.c0
  have q1 := HKC.out.c1
  have q2 := HKC.out.c2
  have q3 := HKC.out.c3
  have q4 := HKC.out.c4
  have b0 : (0 : Int) ≤ q := by omega
  have b1 : (q : Int) < 16 := by have := HPQ.out; omega
  have a0 : (0 : Int) ≤ p := by omega
  have a1' : (p : Int) < 16 := by have := HPQ.out; omega
  have HTh := Lib.hid (dom_there HS.out.d (11 + q * 5) 5 (by have := HPQ.out; omega))
  go_upto_region 12 with (refine wpList_store_mid (by rfl) _ _ _ (by rfl) wB.heap.size (11 + q * 5) #[.int .i64 k0, .int .i64 k1, .int .i64 k2, .int .i64 k3, .int .u32 k4] (by rfl) (by rfl) HTh.out infoKey5 (by simp [Value.oneCell']) ?_; rw [show (#[.int .i64 k0, .int .i64 k1, .int .i64 k2, .int .i64 k3, .int .u32 k4] : Array Value).toList = k5 k0 k1 k2 k3 k4 from rfl])
  have HS1 := Lib.hid (HS.out.sets (11 + q * 5) (k5 k0 k1 k2 k3 k4) (by have := HPQ.out; simp [k5]; omega))
  generalize hD : World.setCells wC _ _ _ = wD at HS1 ⊢
  clear hD q0 q1 q2 q3 q4 HKC HTh
  have c2 := HS1.out.d.c 2 (by decide)
  have z2 := HS1.out.d.fr 2
  go_upto_region 13 with fail
  have HS2 := Lib.hid (HS1.out.set 2 (.int .u32 u) (by decide))
  generalize hD : World.setCell wD _ _ = wE at HS2 ⊢
  clear hD c2 z2
  have c1 := HS2.out.d.c 1 (by decide)
  have z1 := HS2.out.d.fr 1
  go_upto_region 14 with fail
  have HS3 := Lib.hid (HS2.out.set 1 (.int .u32 9) (by decide))
  generalize hD : World.setCell wE _ _ = wF at HS3 ⊢
  clear hD c1 z1
  have HF0 : Hid (Fm (updD (updD (updL fM (11 + q * 5) (k5 k0 k1 k2 k3 k4)) 2 (.int .u32 u)) 1 (.int .u32 9)) ((0 : Nat) : Int) ∧ KF (updD (updD (updL fM (11 + q * 5) (k5 k0 k1 k2 k3 k4)) 2 (.int .u32 u)) 1 (.int .u32 9)) q k0 k1 k2 k3 k4 ∧ updD (updD (updL fM (11 + q * 5) (k5 k0 k1 k2 k3 k4)) 2 (.int .u32 u)) 1 (.int .u32 9) 2 = .int .u32 u) := Lib.hid ⟨((Fm.start.key q (by have := HPQ.out; omega) _ _ _ _ _).reg _ _ (by decide)).reg _ _ (by decide), ((KF.new _ _ _ _ _ _ _).reg _ _ (by decide)).reg _ _ (by decide), rfl⟩
  generalize updD (updD (updL fM (11 + q * 5) (k5 k0 k1 k2 k3 k4)) 2 (.int .u32 u)) 1 (.int .u32 9) = f0 at HF0 HS3
  obtain ⟨u1, HU1⟩ : ∃ u1, Hid ((if k0 = 1 then k4 else 0) = u1) := ⟨_, Lib.hid rfl⟩
  obtain ⟨f1, hf1⟩ : ∃ f1, f1 = updL (updD f0 8 (.int .u32 (((0 : Nat) : Int) + 1))) (11 + p * 5) (k5 k0 k1 k2 k3 k4) := ⟨_, rfl⟩
  have HF1 : Hid (Fm f1 ((1 : Nat) : Int) ∧ KF f1 p k0 k1 k2 k3 k4 ∧ f1 2 = .int .u32 u) := Lib.hid (by rw [hf1]; exact ⟨(HF0.out.1.to _).key p (by have := HPQ.out; omega) _ _ _ _ _, KF.new _ _ _ _ _ _ _, (updL_reg _ _ _ _ _ _ _ _ (by decide)).trans ((updD_other _ _ _ _ (by decide)).trans HF0.out.2.2)⟩)
  obtain ⟨f2, hf2⟩ : ∃ f2, f2 = updD (updD f1 8 (.int .u32 (((1 : Nat) : Int) + 1))) 1 (.int .u32 u1) := ⟨_, rfl⟩
  have HF2 : Hid (Fm f2 ((2 : Nat) : Int) ∧ KF f2 p k0 k1 k2 k3 k4 ∧ f2 2 = .int .u32 u ∧ f2 1 = .int .u32 u1) := Lib.hid (by rw [hf2]; exact ⟨(HF1.out.1.to _).reg _ _ (by decide), (HF1.out.2.1.reg _ _ (by decide)).reg _ _ (by decide), (updD_other _ _ _ _ (by decide)).trans ((updD_other _ _ _ _ (by decide)).trans HF1.out.2.2), updD_at _ _ _⟩)
  obtain ⟨f3, hf3⟩ : ∃ f3, f3 = updL (updD f2 8 (.int .u32 (((2 : Nat) : Int) + 1))) (11 + q * 5) (k5 1 0 0 0 u) := ⟨_, rfl⟩
  have HF3 : Hid (Fm f3 ((3 : Nat) : Int) ∧ KF f3 q 1 0 0 0 u) := Lib.hid (by rw [hf3]; exact ⟨(HF2.out.1.to _).key q (by have := HPQ.out; omega) _ _ _ _ _, KF.new _ _ _ _ _ _ _⟩)
  obtain ⟨f4, hf4⟩ : ∃ f4, f4 = updD (updD f3 8 (.int .u32 (((3 : Nat) : Int) + 1))) 3 (.int .u32 u) := ⟨_, rfl⟩
  have HF4 : Hid (KF f4 q 1 0 0 0 u ∧ f4 3 = .int .u32 u) := Lib.hid (by rw [hf4]; exact ⟨(HF3.out.2.reg _ _ (by decide)).reg _ _ (by decide), updD_at _ _ _⟩)
  have HD1 : Hid (∀ w1 hits1 v1 E1, CpAt w w1 mb S a b N cb (upd (fun _ => false) 0 true) (fun _ => 0) W (upd (upd (fun _ => false) 0 true) 1 true) (fun _ => 0) W2 hits1 v1 E1 wB.heap.size (updD f0 8 (.int .u32 (((0 : Nat) : Int) + 1))) → Calls Tryd.prog 42 #[.pointer (some ⟨mb, 0, none⟩), .pointer (some ⟨wB.heap.size, 0, none⟩), (Value.agg #[.int .i64 8, .int .i64 (p : Int), .int .i64 (q : Int), .int .i64 0, .int .i64 0])] w1 fun e w' => e = .returned (.agg (evA 0 0 0)) ∧ CQ w w1 mb S a b N cb (upd (fun _ => false) 0 true) (fun _ => 0) W (upd (upd (fun _ => false) 0 true) 1 true) (fun _ => 0) W2 hits1 hits1 v1 E1 wB.heap.size f1 w') := Lib.hid (by rw [hf1]; exact fun w1 hits1 v1 E1 h => cdo_kmove _ _ p q (Lib.hid ⟨rfl, rfl⟩) HPQ.out.1 HPQ.out.2 k0 k1 k2 k3 k4 (Lib.hid (HF0.out.2.1.reg _ _ (by decide))) w1 h)
  have HD2 : Hid (∀ w1 hits1 v1 E1, CpAt w w1 mb S a b N cb (upd (fun _ => false) 0 true) (fun _ => 0) W (upd (upd (fun _ => false) 0 true) 1 true) (fun _ => 0) W2 hits1 v1 E1 wB.heap.size (updD f1 8 (.int .u32 (((1 : Nat) : Int) + 1))) → Calls Tryd.prog 42 #[.pointer (some ⟨mb, 0, none⟩), .pointer (some ⟨wB.heap.size, 0, none⟩), (Value.agg #[.int .i64 10, .int .i64 1, .int .i64 (p : Int), .int .i64 0, .int .i64 0])] w1 fun e w' => e = .returned (.agg (evA 0 0 0)) ∧ CQ w w1 mb S a b N cb (upd (fun _ => false) 0 true) (fun _ => 0) W (upd (upd (fun _ => false) 0 true) 1 true) (fun _ => 0) W2 hits1 hits1 v1 E1 wB.heap.size f2 w') := Lib.hid (by rw [hf2]; exact fun w1 hits1 v1 E1 h => cdo_kget _ _ 1 p (Lib.hid ⟨rfl, rfl⟩) (by decide) HPQ.out.1 k0 k1 k2 k3 k4 (Lib.hid (HF1.out.2.1.reg _ _ (by decide))) u1 HU1 w1 h)
  have HD3 : Hid (∀ w1 hits1 v1 E1, CpAt w w1 mb S a b N cb (upd (fun _ => false) 0 true) (fun _ => 0) W (upd (upd (fun _ => false) 0 true) 1 true) (fun _ => 0) W2 hits1 v1 E1 wB.heap.size (updD f2 8 (.int .u32 (((2 : Nat) : Int) + 1))) → Calls Tryd.prog 42 #[.pointer (some ⟨mb, 0, none⟩), .pointer (some ⟨wB.heap.size, 0, none⟩), (Value.agg #[.int .i64 9, .int .i64 (q : Int), .int .i64 2, .int .i64 0, .int .i64 0])] w1 fun e w' => e = .returned (.agg (evA 0 0 0)) ∧ CQ w w1 mb S a b N cb (upd (fun _ => false) 0 true) (fun _ => 0) W (upd (upd (fun _ => false) 0 true) 1 true) (fun _ => 0) W2 hits1 hits1 v1 E1 wB.heap.size f3 w') := Lib.hid (by rw [hf3]; exact fun w1 hits1 v1 E1 h => cdo_knum _ _ q 2 (Lib.hid ⟨rfl, rfl⟩) HPQ.out.2 (by decide) u ((updD_other _ _ _ _ (by decide)).trans HF2.out.2.2.1) w1 h)
  have HD4 : Hid (∀ w1 hits1 v1 E1, CpAt w w1 mb S a b N cb (upd (fun _ => false) 0 true) (fun _ => 0) W (upd (upd (fun _ => false) 0 true) 1 true) (fun _ => 0) W2 hits1 v1 E1 wB.heap.size (updD f3 8 (.int .u32 (((3 : Nat) : Int) + 1))) → Calls Tryd.prog 42 #[.pointer (some ⟨mb, 0, none⟩), .pointer (some ⟨wB.heap.size, 0, none⟩), (Value.agg #[.int .i64 10, .int .i64 3, .int .i64 (q : Int), .int .i64 0, .int .i64 0])] w1 fun e w' => e = .returned (.agg (evA 0 0 0)) ∧ CQ w w1 mb S a b N cb (upd (fun _ => false) 0 true) (fun _ => 0) W (upd (upd (fun _ => false) 0 true) 1 true) (fun _ => 0) W2 hits1 hits1 v1 E1 wB.heap.size f4 w') := Lib.hid (by rw [hf4]; exact fun w1 hits1 v1 E1 h => cdo_kget _ _ 3 q (Lib.hid ⟨rfl, rfl⟩) (by decide) HPQ.out.2 1 0 0 0 u (Lib.hid (HF3.out.2.reg _ _ (by decide))) u (Lib.hid rfl) w1 h)
  have HZ0 : Hid (ws.getD 0 0 = wordC 8 p q 0 0) := Lib.hid (by rw [← HWs.out]; exact wsOf_at _ 4 0 (by decide))
  have HZ1 : Hid (ws.getD 1 0 = wordC 10 1 p 0 0) := Lib.hid (by rw [← HWs.out]; exact wsOf_at _ 4 1 (by decide))
  have HZ2 : Hid (ws.getD 2 0 = wordC 9 q 2 0 0) := Lib.hid (by rw [← HWs.out]; exact wsOf_at _ 4 2 (by decide))
  have HZ3 : Hid (ws.getD 3 0 = wordC 10 3 q 0 0) := Lib.hid (by rw [← HWs.out]; exact wsOf_at _ 4 3 (by decide))
  have HOk : Hid (okB 8 p q 0 0 = true ∧ okB 10 1 p 0 0 = true ∧ okB 9 q 2 0 0 = true ∧ okB 10 3 q 0 0 = true) := Lib.hid ⟨ok_kmove p q HPQ.out.1 HPQ.out.2, ok_kget 1 p (by decide) HPQ.out.1, ok_knum q 2 HPQ.out.2 (by decide), ok_kget 3 q (by decide) HPQ.out.2⟩
  clear hf1 hf2 hf3 hf4
  go_upto_region 16 with (first
    | (go_at_call 21; (with_reducible refine (cstep17 HW 0 (by decide) (Lib.hid HF0.out.1) _ HZ0 8 p q 0 0 (Lib.hid HOk.out.1) (Lib.hid rfl) (Lib.hid (by decide)) xa ya HC.out (evA 0 0 0) 0 (by decide) (Lib.hid (evA_ok 0 0 0)) f1 HD1 _ HS3.out).mono ?_); rintro e w5 ⟨rfl, hits1, v1, E1, hc, l1, l2, hk⟩; have HG1 := Lib.hid hc; have HL1 := Lib.hid (And.intro l1 l2); clear hc l1 l2 hk)
    | (go_at_call 21; (with_reducible refine (cstep17 HW 1 (by decide) (Lib.hid HF1.out.1) _ HZ1 10 1 p 0 0 (Lib.hid HOk.out.2.1) (Lib.hid rfl) (Lib.hid (by have := HL1.out; omega)) xa ya HC.out (evA 0 0 0) 0 (by decide) (Lib.hid (evA_ok 0 0 0)) f2 HD2 _ HG1.out).mono ?_); rintro e w6 ⟨rfl, hits2, v2, E2, hc, l1, l2, hk⟩; have HG2 := Lib.hid hc; have HL2 := Lib.hid (And.intro l1 l2); clear hc l1 l2 hk))
  have HD6 : Hid (Below w6.heap.size w6 w6.drew) := Lib.hid (Below.refl w6.heap.size w6).drew
  have HKK : Hid (∀ w', Below w6.heap.size w6 w' → (World.cell? w' ⟨wB.heap.size, 11 + p * 5, none⟩ = some (.int .i64 k0) ∧ World.cell? w' ⟨wB.heap.size, 11 + p * 5 + 1, none⟩ = some (.int .i64 k1) ∧ World.cell? w' ⟨wB.heap.size, 11 + p * 5 + 2, none⟩ = some (.int .i64 k2) ∧ World.cell? w' ⟨wB.heap.size, 11 + p * 5 + 3, none⟩ = some (.int .i64 k3) ∧ World.cell? w' ⟨wB.heap.size, 11 + p * 5 + 4, none⟩ = some (.int .u32 k4)) ∧ World.cell? w' ⟨w0.heap.size, 0, none⟩ = some (.int .i64 k0) ∧ World.cell? w' ⟨w0.heap.size, 1, none⟩ = some (.int .i64 k1) ∧ World.cell? w' ⟨w0.heap.size, 2, none⟩ = some (.int .i64 k2) ∧ World.cell? w' ⟨w0.heap.size, 3, none⟩ = some (.int .i64 k3) ∧ World.cell? w' ⟨w0.heap.size, 4, none⟩ = some (.int .u32 k4)) := Lib.hid (fun w' hb => by
    have h1 := HG2.out.below hb
    have h2 := HKB.out.below h1.bel
    exact ⟨HF2.out.2.1.cells k0 k1 k2 k3 k4 h1.d HPQ.out.1, h2.c0, h2.c1, h2.c2, h2.c3, h2.c4⟩)
  refine wp_region_noPanic ?_
  refine wp_region_held_drew (S := fun w' => (World.cell? w' ⟨wB.heap.size, 11 + p * 5, none⟩ = some (.int .i64 k0) ∧ World.cell? w' ⟨wB.heap.size, 11 + p * 5 + 1, none⟩ = some (.int .i64 k1) ∧ World.cell? w' ⟨wB.heap.size, 11 + p * 5 + 2, none⟩ = some (.int .i64 k2) ∧ World.cell? w' ⟨wB.heap.size, 11 + p * 5 + 3, none⟩ = some (.int .i64 k3) ∧ World.cell? w' ⟨wB.heap.size, 11 + p * 5 + 4, none⟩ = some (.int .u32 k4)) ∧ World.cell? w' ⟨w0.heap.size, 0, none⟩ = some (.int .i64 k0) ∧ World.cell? w' ⟨w0.heap.size, 1, none⟩ = some (.int .i64 k1) ∧ World.cell? w' ⟨w0.heap.size, 2, none⟩ = some (.int .i64 k2) ∧ World.cell? w' ⟨w0.heap.size, 3, none⟩ = some (.int .i64 k3) ∧ World.cell? w' ⟨w0.heap.size, 4, none⟩ = some (.int .u32 k4)) (by kernel_rfl) (HKK.out _ HD6.out) (fun hHeld => ?_)
  refine wpAnyH_take (i := 0) (v := ?_) (by rfl) (by kernel_rfl) (by kernel_rfl) (by kernel_rfl) (fun _ _ _ h => h) (Or.inl ⟨by kernel_rfl, ?_⟩) (by assumption) ?_; rotate_left 1; (focus (intro w hSw; (try dsimp only at hSw); simp only [List.getElem_toArray, List.getElem_cons_succ, List.getElem_cons_zero]; all_goals go_simp; all_goals (try with_reducible rfl))); (try simp only [Act.put, List.getElem_toArray, List.getElem_cons_succ, List.getElem_cons_zero, List.setIfInBounds_toArray, List.set_cons_zero, List.set_cons_succ])
  refine wpAnyH_take (i := 1) (v := ?_) (by rfl) (by kernel_rfl) (by kernel_rfl) (by kernel_rfl) (fun _ _ _ h => h) (Or.inl ⟨by kernel_rfl, ?_⟩) (by assumption) ?_; rotate_left 1; (focus (intro w hSw; (try dsimp only at hSw); simp only [List.getElem_toArray, List.getElem_cons_succ, List.getElem_cons_zero]; all_goals go_simp; all_goals (try with_reducible rfl))); (try simp only [Act.put, List.getElem_toArray, List.getElem_cons_succ, List.getElem_cons_zero, List.setIfInBounds_toArray, List.set_cons_zero, List.set_cons_succ])
  refine wpAnyH_take (i := 2) (v := ?_) (by rfl) (by kernel_rfl) (by kernel_rfl) (by kernel_rfl) (fun _ _ _ h => h) (Or.inl ⟨by kernel_rfl, ?_⟩) (by assumption) ?_; rotate_left 1; (focus (intro w hSw; (try dsimp only at hSw); simp only [List.getElem_toArray, List.getElem_cons_succ, List.getElem_cons_zero]; all_goals go_simp; all_goals (try with_reducible rfl))); (try simp only [Act.put, List.getElem_toArray, List.getElem_cons_succ, List.getElem_cons_zero, List.setIfInBounds_toArray, List.set_cons_zero, List.set_cons_succ])
  refine wpAnyH_take (i := 3) (v := ?_) (by rfl) (by kernel_rfl) (by kernel_rfl) (by kernel_rfl) (fun _ _ _ h => h) (Or.inl ⟨by kernel_rfl, ?_⟩) (by assumption) ?_; rotate_left 1; (focus (intro w hSw; (try dsimp only at hSw); simp only [List.getElem_toArray, List.getElem_cons_succ, List.getElem_cons_zero]; all_goals go_simp; all_goals (try with_reducible rfl))); (try simp only [Act.put, List.getElem_toArray, List.getElem_cons_succ, List.getElem_cons_zero, List.setIfInBounds_toArray, List.set_cons_zero, List.set_cons_succ])
  refine wpAnyH_take (i := 4) (v := ?_) (by rfl) (by kernel_rfl) (by kernel_rfl) (by kernel_rfl) (fun _ _ _ h => h) (Or.inl ⟨by kernel_rfl, ?_⟩) (by assumption) ?_; rotate_left 1; (focus (intro w hSw; (try dsimp only at hSw); simp only [List.getElem_toArray, List.getElem_cons_succ, List.getElem_cons_zero]; all_goals go_simp; all_goals (try with_reducible rfl))); (try simp only [Act.put, List.getElem_toArray, List.getElem_cons_succ, List.getElem_cons_zero, List.setIfInBounds_toArray, List.set_cons_zero, List.set_cons_succ])
  refine wpAnyH_ready (rs := [5]) (by kernel_rfl) (by simp) ?_; refine AllReadyH.cons (by rfl) (fun K hK => ?_) AllReadyH.nil; rw [if_pos (by kernel_rfl)]; simp only [List.getElem_toArray, List.getElem_cons_succ, List.getElem_cons_zero]
  go_wp2_with (first
    | (go_at_call 24; (with_reducible refine (same_key k0 k1 k2 k3 k4 _).mono ?_); rintro e w7 ⟨rfl, hb⟩; have HB7 := Lib.hid (HD6.out.trans (hb.mono HD6.out.size)); clear hb))
  refine hK.out _ _ (HKK.out _ HB7.out) (fun hHeld => ?_)
  clear hK K
  (try simp only [Act.put, List.getElem_toArray, List.getElem_cons_succ, List.getElem_cons_zero, List.setIfInBounds_toArray, List.set_cons_zero, List.set_cons_succ])
  refine wpAnyH_take (i := 6) (v := ?_) (by rfl) (by kernel_rfl) (by kernel_rfl) (by kernel_rfl) (fun _ _ _ h => h) (Or.inl ⟨by kernel_rfl, ?_⟩) (by assumption) ?_; rotate_left 1; (focus (intro w hSw; (try dsimp only at hSw); simp only [List.getElem_toArray, List.getElem_cons_succ, List.getElem_cons_zero]; all_goals go_simp; all_goals (try with_reducible rfl))); (try simp only [Act.put, List.getElem_toArray, List.getElem_cons_succ, List.getElem_cons_zero, List.setIfInBounds_toArray, List.set_cons_zero, List.set_cons_succ])
  refine wpAnyH_done (by kernel_rfl) ?_ _
  refine NoPanic.normal ?_
  have HG3 := Lib.hid (HG2.out.below HB7.out)
  have d1 : w7.cell? ⟨wB.heap.size, 1, none⟩ = some (.int .u32 u1) := (HG3.out.d.c 1 (by decide)).trans (by rw [HF2.out.2.2.2])
  have q0 := (HKK.out _ HB7.out).2.1
  have q4 := (HKK.out _ HB7.out).2.2.2.2.2
  clear HKK HD6 HB7 HG2
  by_cases hk0 : k0 = 1
  · have e : k4 = u1 := by have := HU1.out; rw [if_pos hk0] at this; exact this
    have hb1 : (k0 == 1) = true := by simpa using hk0
    have hb2 : (u1 == k4) = true := by rw [e]; simp
    clear hk0 e
    go_upto_region 24 with (first
      | (go_at_call 21; (with_reducible refine (cstep17 HW 2 (by decide) (Lib.hid HF2.out.1) _ HZ2 9 q 2 0 0 (Lib.hid HOk.out.2.2.1) (Lib.hid rfl) (Lib.hid (by have := HL1.out; have := HL2.out; omega)) xa ya HC.out (evA 0 0 0) 0 (by decide) (Lib.hid (evA_ok 0 0 0)) f3 HD3 _ HG3.out).mono ?_); rintro e w8 ⟨rfl, hits3, v3, E3, hc, l1, l2, hk⟩; have HG4 := Lib.hid hc; have HL3 := Lib.hid (And.intro l1 l2); clear hc l1 l2 hk q0 q4 d1)
      | (go_at_call 21; (with_reducible refine (cstep17 HW 3 (by decide) (Lib.hid HF3.out.1) _ HZ3 10 3 q 0 0 (Lib.hid HOk.out.2.2.2) (Lib.hid rfl) (Lib.hid (by have := HL1.out; have := HL2.out; have := HL3.out; omega)) xa ya HC.out (evA 0 0 0) 0 (by decide) (Lib.hid (evA_ok 0 0 0)) f4 HD4 _ HG4.out).mono ?_); rintro e w9 ⟨rfl, hits4, v4, E4, hc, l1, l2, hk⟩; have HG5 := Lib.hid hc; clear hc l1 l2 hk))
    have d3 : w9.cell? ⟨wB.heap.size, 3, none⟩ = some (.int .u32 u) := (HG5.out.d.c 3 (by decide)).trans (by rw [HF4.out.2])
    have hkq := HF4.out.1.cells 1 0 0 0 u HG5.out.d HPQ.out.2
    obtain ⟨r0, r1, r2, r3, r4⟩ := hkq
    go_wp2_with fail
    go_ret
    exact ⟨rfl, B0.out.1.trans (HG5.out.bel.mono (by have := B0.out.2; omega))⟩
  · have e : 0 = u1 := by have := HU1.out; rw [if_neg hk0] at this; exact this
    have hb1 : (k0 == 1) = false := by simpa using hk0
    have hb2 : (u1 == 0) = true := by rw [← e]; rfl
    clear hk0 e
    go_upto_region 24 with (first
      | (go_at_call 21; (with_reducible refine (cstep17 HW 2 (by decide) (Lib.hid HF2.out.1) _ HZ2 9 q 2 0 0 (Lib.hid HOk.out.2.2.1) (Lib.hid rfl) (Lib.hid (by have := HL1.out; have := HL2.out; omega)) xa ya HC.out (evA 0 0 0) 0 (by decide) (Lib.hid (evA_ok 0 0 0)) f3 HD3 _ HG3.out).mono ?_); rintro e w8 ⟨rfl, hits3, v3, E3, hc, l1, l2, hk⟩; have HG4 := Lib.hid hc; have HL3 := Lib.hid (And.intro l1 l2); clear hc l1 l2 hk q0 q4 d1)
      | (go_at_call 21; (with_reducible refine (cstep17 HW 3 (by decide) (Lib.hid HF3.out.1) _ HZ3 10 3 q 0 0 (Lib.hid HOk.out.2.2.2) (Lib.hid rfl) (Lib.hid (by have := HL1.out; have := HL2.out; have := HL3.out; omega)) xa ya HC.out (evA 0 0 0) 0 (by decide) (Lib.hid (evA_ok 0 0 0)) f4 HD4 _ HG4.out).mono ?_); rintro e w9 ⟨rfl, hits4, v4, E4, hc, l1, l2, hk⟩; have HG5 := Lib.hid hc; clear hc l1 l2 hk))
    have d3 : w9.cell? ⟨wB.heap.size, 3, none⟩ = some (.int .u32 u) := (HG5.out.d.c 3 (by decide)).trans (by rw [HF4.out.2])
    have hkq := HF4.out.1.cells 1 0 0 0 u HG5.out.d HPQ.out.2
    obtain ⟨r0, r1, r2, r3, r4⟩ := hkq
    go_wp2_with fail
    go_ret
    exact ⟨rfl, B0.out.1.trans (HG5.out.bel.mono (by have := B0.out.2; omega))⟩
theorem walk_CpuKeys (x0_0 : Int) (x0_1 : Int) (x0_2 : Int) (x0_3 : Int) (x0_4 : Int) (a1 : Int) (a2 : Int) (a3 : Int) (w : World) (wx0_0 : (Lit.int .i64 x0_0).wf = true) (wx0_1 : (Lit.int .i64 x0_1).wf = true) (wx0_2 : (Lit.int .i64 x0_2).wf = true) (wx0_3 : (Lit.int .i64 x0_3).wf = true) (wx0_4 : (Lit.int .u32 x0_4).wf = true) (w1 : (Lit.int .i64 a1).wf = true) (w2 : (Lit.int .i64 a2).wf = true) (w3 : (Lit.int .u32 a3).wf = true) (hL : laidMetH Tryd.prog Rows.cpuKeysRow.laid w) :
    Calls Tryd.prog 6 #[.agg #[.int .i64 x0_0, .int .i64 x0_1, .int .i64 x0_2, .int .i64 x0_3, .int .u32 x0_4], .int .i64 a1, .int .i64 a2, .int .u32 a3] w fun e w' => e = .returned (.bool true) ∧ Below w.heap.size w w' := by
  rw [MakeChecks.laidMetH_plain _ _ _ (by kernel_rfl)] at hL
  obtain ⟨vs, vr, hE⟩ := (errs2 hL ⟨_, by repeat (first | exact List.Mem.head _ | apply List.Mem.tail)⟩ ⟨_, by repeat (first | exact List.Mem.head _ | apply List.Mem.tail)⟩)
  have hC := code_of hL ⟨_, by repeat (first | exact List.Mem.head _ | apply List.Mem.tail)⟩ ⟨_, by repeat (first | exact List.Mem.head _ | apply List.Mem.tail)⟩ (by repeat (first | exact List.Mem.head _ | apply List.Mem.tail))
  exact keys_any x0_0 x0_1 x0_2 x0_3 x0_4 a1 a2 a3 (i64_fitC w1).1 (i64_fitC w1).2 (i64_fitC w2).1 (i64_fitC w2).2 vs vr _ _ w hE hC
end Go.Proofs.YtjkbfhojjjkgnaaDoor
