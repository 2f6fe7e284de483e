/-
  Uo, Up as one.
-/
import Derived.Test.YtjkbfhojjjkgnaaDoorP13
import Derived.Test.YtjkbfhojjjkgnaaDoorSee
namespace Go.Proofs.YtjkbfhojjjkgnaaDoor
open Go.ChangeShapes Go.WideShapes Go.ChangeAt Go.RowKit
set_option linter.unusedVariables false
set_option linter.unusedSimpArgs false
theorem ok_li (p R : Nat) (hp : p < 8) (h : R < 4096) : okB 1 (p : Int) 0 0 (R : Int) = true := by
  unfold okB fitB
  simp [fA, fB, fC, fI, hiOf]
  omega
/-- The seven instructions. -/
def szs (n : Nat) : List (List Int) := [[1, 1, 0, 0, (n : Int)], [1, 2, 0, 0, 1], [5, 1, 0, 0, 6], [3, 1, 1, 2, 1], [3, 0, 0, 1, 0], [4, 0, 0, 0, 2], [13, 0, 0, 0, 0]]
theorem szs_ok (n : Nat) (hn : n < 40) : ∀ i, i < 7 → zok (szs n) i = true := fun i hi => by
  have h7 : i = 0 ∨ i = 1 ∨ i = 2 ∨ i = 3 ∨ i = 4 ∨ i = 5 ∨ i = 6 := by omega
  rcases h7 with rfl | rfl | rfl | rfl | rfl | rfl | rfl
  · exact ok_li 1 n (by decide) (by omega)
  · exact (by decide : okB 1 2 0 0 1 = true)
  · exact (by decide : okB 5 1 0 0 6 = true)
  · exact (by decide : okB 3 1 1 2 1 = true)
  · exact (by decide : okB 3 0 0 1 0 = true)
  · exact (by decide : okB 4 0 0 0 2 = true)
  · exact (by decide : okB 13 0 0 0 0 = true)
/-- What register 0 has after m rounds. -/
def sm (n : Nat) : Nat → Int
  | 0 => 0
  | m + 1 => sm n m + ((n : Int) - m - 1)
theorem sm_bd (n : Nat) (hn : n < 40) : ∀ m, m ≤ n → 0 ≤ sm n m ∧ sm n m ≤ 40 * (m : Int) := by
  intro m
  induction m with
  | zero => intro _; simp [sm]
  | succ m ih =>
    intro h
    have := ih (by omega)
    simp only [sm]
    omega
theorem sm_fin : ∀ n : Fin 40, sm n.val n.val = ((n.val : Int) * ((n.val : Int) - 1)).tdiv 2 := by decide +kernel
/-- Where the program is behind s steps. -/
def Pos (n s pc : Nat) (r0 r1 r2 : Int) : Prop :=
  (s = 0 ∧ pc = 0 ∧ r0 = 0) ∨ (s = 1 ∧ pc = 1 ∧ r0 = 0 ∧ r1 = n) ∨
  (∃ m, m ≤ n ∧ s = 2 + 4 * m ∧ pc = 2 ∧ r0 = sm n m ∧ r1 = (n : Int) - m ∧ r2 = 1) ∨
  (∃ m, m < n ∧ s = 3 + 4 * m ∧ pc = 3 ∧ r0 = sm n m ∧ r1 = (n : Int) - m ∧ r2 = 1) ∨
  (∃ m, m < n ∧ s = 4 + 4 * m ∧ pc = 4 ∧ r0 = sm n m ∧ r1 = (n : Int) - m - 1 ∧ r2 = 1) ∨
  (∃ m, m < n ∧ s = 5 + 4 * m ∧ pc = 5 ∧ r0 = sm n (m + 1) ∧ r1 = (n : Int) - m - 1 ∧ r2 = 1) ∨
  (s = 3 + 4 * n ∧ pc = 6 ∧ r0 = sm n n)
structure St3 (f : Nat → Value) (pc : Nat) (r0 r1 r2 : Int) : Prop where
  m : Fm f (pc : Int)
  a : f 0 = .int .u32 r0
  b : f 1 = .int .u32 r1
  c : f 2 = .int .u32 r2
theorem Pos.small {n s pc : Nat} {r0 r1 r2 : Int} (h : Pos n s pc r0 r1 r2) (hn : n < 40) : s < 400 ∧ s ≤ 3 + 4 * n := by
  rcases h with h | h | ⟨m, h⟩ | ⟨m, h⟩ | ⟨m, h⟩ | ⟨m, h⟩ | h <;> omega
theorem wsOf_at7 (n k : Nat) (ws : List Int) (hws : Hid ((List.range 7).map (zw (szs n)) = ws)) (hk : k < 7) : ws.getD k 0 = zw (szs n) k := by rw [← hws.out]; simp [List.getD, hk]
theorem sums_step {w0 : World} {mb S : Nat} {a b : Shp} {N cb : Nat} {W : Nat → Nat → Value} {W2 : Nat → Nat → Int} {hits : Int} {v : Value} {E : List EW} {db : Nat} {f : Nat → Value} {ws : List Int} (n s pc : Nat) (hn : n < 40) (hm : Hid (M17 a b W W2 ws)) (hws : Hid ((List.range 7).map (zw (szs n)) = ws)) (r0 r1 r2 : Int) (hp : Pos n s pc r0 r1 r2) (hs : St3 f pc r0 r1 r2) (hh : Hid (hits ≤ 1000000)) (xa ya : Addr) (hC : CodeAt (errC xa) (errC ya) w0) (w : World) (h : (CpAt w0 w mb S a b N cb (upd (fun _ => false) 0 true) (fun _ => 0) W (upd (upd (fun _ => false) 0 true) 1 true) (fun _ => 0) W2 hits v E db f)) :
    Calls Tryd.prog 21 #[.pointer (some ⟨mb, 0, none⟩), .pointer (some ⟨db, 0, none⟩)] w fun e w' => ∃ kd f', e = .returned (.agg (evA kd 0 0)) ∧ CQ w0 w mb S a b N cb (upd (fun _ => false) 0 true) (fun _ => 0) W (upd (upd (fun _ => false) 0 true) 1 true) (fun _ => 0) W2 hits (hits + 2) v E db f' w' ∧ ((kd = 0 ∧ ∃ pc' r0' r1' r2', Pos n (s + 1) pc' r0' r1' r2' ∧ St3 f' pc' r0' r1' r2') ∨ (kd = 3 ∧ s = 3 + 4 * n ∧ f' 8 = .int .u32 7 ∧ f' 0 = .int .u32 (sm n n))) := by
  rcases hp with ⟨rfl, rfl, rfl⟩ | ⟨rfl, rfl, rfl, rfl⟩ | ⟨m, hmn, rfl, rfl, rfl, rfl, rfl⟩ | ⟨m, hmn, rfl, rfl, rfl, rfl, rfl⟩ | ⟨m, hmn, rfl, rfl, rfl, rfl, rfl⟩ | ⟨m, hmn, rfl, rfl, rfl, rfl, rfl⟩ | ⟨rfl, rfl, rfl⟩
  · refine (cstep17 hm 0 (by decide) (Lib.hid hs.m) _ (Lib.hid (wsOf_at7 n 0 ws hws (by decide))) 1 1 0 0 n (Lib.hid (ok_li 1 n (by decide) (by omega))) (Lib.hid rfl) hh xa ya hC (evA 0 0 0) 0 (by decide) (Lib.hid (evA_ok 0 0 0)) _ (Lib.hid (fun w1 hits1 v1 E1 hc => cdo_li 1 1 (Lib.hid rfl) (by decide) n (by omega) (by omega) w1 hc)) w h).mono ?_
    rintro e w' ⟨rfl, hq⟩
    exact ⟨0, _, rfl, hq, .inl ⟨rfl, 1, 0, n, r2, .inr (.inl ⟨rfl, rfl, rfl, rfl⟩), (hs.m.to _).reg _ _ (by decide), (updD_other _ _ _ _ (by decide)).trans ((updD_other _ _ _ _ (by decide)).trans hs.a), updD_at _ _ _, (updD_other _ _ _ _ (by decide)).trans ((updD_other _ _ _ _ (by decide)).trans hs.c)⟩⟩
  · refine (cstep17 hm 1 (by decide) (Lib.hid hs.m) _ (Lib.hid (wsOf_at7 n 1 ws hws (by decide))) 1 2 0 0 1 (Lib.hid (by decide)) (Lib.hid rfl) hh xa ya hC (evA 0 0 0) 0 (by decide) (Lib.hid (evA_ok 0 0 0)) _ (Lib.hid (fun w1 hits1 v1 E1 hc => cdo_li 2 2 (Lib.hid rfl) (by decide) 1 (by omega) (by omega) w1 hc)) w h).mono ?_
    rintro e w' ⟨rfl, hq⟩
    exact ⟨0, _, rfl, hq, .inl ⟨rfl, 2, 0, n, 1, .inr (.inr (.inl ⟨0, by omega, rfl, rfl, rfl, by simp, rfl⟩)), (hs.m.to _).reg _ _ (by decide), (updD_other _ _ _ _ (by decide)).trans ((updD_other _ _ _ _ (by decide)).trans hs.a), (updD_other _ _ _ _ (by decide)).trans ((updD_other _ _ _ _ (by decide)).trans hs.b), updD_at _ _ _⟩⟩
  · by_cases hlt : m < n
    · refine (cstep17 hm 2 (by decide) (Lib.hid hs.m) _ (Lib.hid (wsOf_at7 n 2 ws hws (by decide))) 5 1 0 0 6 (Lib.hid (by decide)) (Lib.hid rfl) hh xa ya hC (evA 0 0 0) 0 (by decide) (Lib.hid (evA_ok 0 0 0)) _ (Lib.hid (fun w1 hits1 v1 E1 hc => cdo_jz1 1 1 (Lib.hid rfl) (by decide) 6 (by omega) (by omega) ((n : Int) - m) ((updD_other _ _ _ _ (by decide)).trans hs.b) (by simp; omega) w1 hc)) w h).mono ?_
      rintro e w' ⟨rfl, hq⟩
      exact ⟨0, _, rfl, hq, .inl ⟨rfl, 3, _, _, _, .inr (.inr (.inr (.inl ⟨m, hlt, by omega, rfl, rfl, rfl, rfl⟩))), hs.m.to _, (updD_other _ _ _ _ (by decide)).trans hs.a, (updD_other _ _ _ _ (by decide)).trans hs.b, (updD_other _ _ _ _ (by decide)).trans hs.c⟩⟩
    · obtain rfl : m = n := by omega
      refine (cstep17 hm 2 (by decide) (Lib.hid hs.m) _ (Lib.hid (wsOf_at7 m 2 ws hws (by decide))) 5 1 0 0 6 (Lib.hid (by decide)) (Lib.hid rfl) hh xa ya hC (evA 0 0 0) 0 (by decide) (Lib.hid (evA_ok 0 0 0)) _ (Lib.hid (fun w1 hits1 v1 E1 hc => cdo_jz0 1 1 (Lib.hid rfl) (by decide) 6 (by omega) (by omega) ((m : Int) - m) ((updD_other _ _ _ _ (by decide)).trans hs.b) (by simp) w1 hc)) w h).mono ?_
      rintro e w' ⟨rfl, hq⟩
      exact ⟨0, _, rfl, hq, .inl ⟨rfl, 6, _, _, _, .inr (.inr (.inr (.inr (.inr (.inr ⟨by omega, rfl, rfl⟩))))), (hs.m.to _).to _, (updD_other _ _ _ _ (by decide)).trans ((updD_other _ _ _ _ (by decide)).trans hs.a), (updD_other _ _ _ _ (by decide)).trans ((updD_other _ _ _ _ (by decide)).trans hs.b), (updD_other _ _ _ _ (by decide)).trans ((updD_other _ _ _ _ (by decide)).trans hs.c)⟩⟩
  · refine (cstep17 hm 3 (by decide) (Lib.hid hs.m) _ (Lib.hid (wsOf_at7 n 3 ws hws (by decide))) 3 1 1 2 1 (Lib.hid (by decide)) (Lib.hid rfl) hh xa ya hC (evA 0 0 0) 0 (by decide) (Lib.hid (evA_ok 0 0 0)) _ (Lib.hid (fun w1 hits1 v1 E1 hc => cdo_alu 1 2 1 1 2 (Lib.hid ⟨rfl, rfl⟩) (by decide) (by decide) (Lib.hid (by decide)) _ _ _ ((updD_other _ _ _ _ (by decide)).trans hs.b) ((updD_other _ _ _ _ (by decide)).trans hs.c) true (Lib.hid (wdo_sub _ _)) w1 hc)) w h).mono ?_
    rintro e w' ⟨rfl, hq⟩
    refine ⟨0, _, rfl, hq, .inl ⟨rfl, 4, _, (n : Int) - m - 1, _, .inr (.inr (.inr (.inr (.inl ⟨m, hmn, by omega, rfl, rfl, rfl, rfl⟩)))), (hs.m.to _).reg _ _ (by decide), (updD_other _ _ _ _ (by decide)).trans ((updD_other _ _ _ _ (by decide)).trans hs.a), (updD_at _ _ _).trans (by congr 1; omega), (updD_other _ _ _ _ (by decide)).trans ((updD_other _ _ _ _ (by decide)).trans hs.c)⟩⟩
  · refine (cstep17 hm 4 (by decide) (Lib.hid hs.m) _ (Lib.hid (wsOf_at7 n 4 ws hws (by decide))) 3 0 0 1 0 (Lib.hid (by decide)) (Lib.hid rfl) hh xa ya hC (evA 0 0 0) 0 (by decide) (Lib.hid (evA_ok 0 0 0)) _ (Lib.hid (fun w1 hits1 v1 E1 hc => cdo_alu 0 1 0 0 1 (Lib.hid ⟨rfl, rfl⟩) (by decide) (by decide) (Lib.hid (by decide)) _ _ _ ((updD_other _ _ _ _ (by decide)).trans hs.a) ((updD_other _ _ _ _ (by decide)).trans hs.b) true (Lib.hid (wdo_add _ _)) w1 hc)) w h).mono ?_
    rintro e w' ⟨rfl, hq⟩
    have hb := sm_bd n hn m (by omega)
    refine ⟨0, _, rfl, hq, .inl ⟨rfl, 5, sm n (m + 1), _, _, .inr (.inr (.inr (.inr (.inr (.inl ⟨m, hmn, by omega, rfl, rfl, rfl, rfl⟩))))), (hs.m.to _).reg _ _ (by decide), (updD_at _ _ _).trans (by congr 1; simp only [sm]; omega), (updD_other _ _ _ _ (by decide)).trans ((updD_other _ _ _ _ (by decide)).trans hs.b), (updD_other _ _ _ _ (by decide)).trans ((updD_other _ _ _ _ (by decide)).trans hs.c)⟩⟩
  · refine (cstep17 hm 5 (by decide) (Lib.hid hs.m) _ (Lib.hid (wsOf_at7 n 5 ws hws (by decide))) 4 0 0 0 2 (Lib.hid (by decide)) (Lib.hid rfl) hh xa ya hC (evA 0 0 0) 0 (by decide) (Lib.hid (evA_ok 0 0 0)) _ (Lib.hid (fun w1 hits1 v1 E1 hc => cdo_jmp 2 (by omega) (by omega) w1 hc)) w h).mono ?_
    rintro e w' ⟨rfl, hq⟩
    exact ⟨0, _, rfl, hq, .inl ⟨rfl, 2, _, _, _, .inr (.inr (.inl ⟨m + 1, by omega, by omega, rfl, rfl, by omega, rfl⟩)), (hs.m.to _).to _, (updD_other _ _ _ _ (by decide)).trans ((updD_other _ _ _ _ (by decide)).trans hs.a), (updD_other _ _ _ _ (by decide)).trans ((updD_other _ _ _ _ (by decide)).trans hs.b), (updD_other _ _ _ _ (by decide)).trans ((updD_other _ _ _ _ (by decide)).trans hs.c)⟩⟩
  · refine (cstep17 hm 6 (by decide) (Lib.hid hs.m) _ (Lib.hid (wsOf_at7 n 6 ws hws (by decide))) 13 0 0 0 0 (Lib.hid (by decide)) (Lib.hid rfl) hh xa ya hC (evA 3 0 0) 3 (by decide) (Lib.hid (evA_ok 3 0 0)) _ (Lib.hid (fun w1 hits1 v1 E1 hc => cdo_halt w1 hc)) w h).mono ?_
    rintro e w' ⟨rfl, hq⟩
    exact ⟨3, _, rfl, hq, .inr ⟨rfl, rfl, updD_at _ _ _, (updD_other _ _ _ _ (by decide)).trans hs.a⟩⟩
end Go.Proofs.YtjkbfhojjjkgnaaDoor
namespace Go.Proofs.YtjkbfhojjjkgnaaDoor
open Go.ChangeShapes Go.WideShapes Go.ChangeAt Go.RowKit
set_option linter.unusedVariables false
set_option linter.unusedSimpArgs false
theorem vw_start' {x y : Addr} {w : World} (h : CodeAt (errC x) (errC y) w) : VW x y w w := ⟨Below.refl _ _, h⟩
theorem ru_words' {w : World} {B n c : Nat} {a : Option Addr} {zs : List (List Int)} (h : w.ownsRow B 22 1 (.slice a n c) n (zws zs n)) : RU w a ((List.range n).map (zw zs)) := by
  have e : ((List.range n).map (zw zs)).map (Value.int .u32) = zws zs n := by simp [zws]
  rw [← e] at h
  exact own_ru h (by simp)
theorem insAt7 (w : World) (n : Nat) (T : TypeId) : InsAt (w.alloc (.cells #[.int .i64 1, .int .i64 1, .int .i64 0, .int .i64 0, .int .i64 n, .int .i64 1, .int .i64 2, .int .i64 0, .int .i64 0, .int .i64 1, .int .i64 5, .int .i64 1, .int .i64 0, .int .i64 0, .int .i64 6, .int .i64 3, .int .i64 1, .int .i64 1, .int .i64 2, .int .i64 1, .int .i64 3, .int .i64 0, .int .i64 0, .int .i64 1, .int .i64 0, .int .i64 4, .int .i64 0, .int .i64 0, .int .i64 0, .int .i64 2, .int .i64 13, .int .i64 0, .int .i64 0, .int .i64 0, .int .i64 0] T (0, 0))) ⟨w.heap.size, 0, none⟩ 7 (szs n) := by
  refine ⟨by simp, fun i hi => ?_⟩
  have h7 : i = 0 ∨ i = 1 ∨ i = 2 ∨ i = 3 ∨ i = 4 ∨ i = 5 ∨ i = 6 := by omega
  rcases h7 with rfl | rfl | rfl | rfl | rfl | rfl | rfl <;> simp [Addr.add, szs, zf, List.getD]
theorem is_fine (w : World) : Calls Tryd.prog 22 #[.nilIface, .int .i64 0] w fun e w' => e = .returned (.bool true) ∧ Below w.heap.size w w' := by
  have h := is_any .nilIface 0 0 0 false w (FaultIs.nil w)
  have hb : faultB 0 0 0 0 false false = true := by simp [faultB]
  rwa [hb] at h
theorem sq_bd : ∀ n : Fin 40, 0 ≤ (n.val : Int) * ((n.val : Int) - 1) ∧ (n.val : Int) * ((n.val : Int) - 1) ≤ 1560 ∧ 0 ≤ ((n.val : Int) * ((n.val : Int) - 1)).tdiv 2 ∧ ((n.val : Int) * ((n.val : Int) - 1)).tdiv 2 ≤ 1560 := by decide +kernel
theorem st3_start : St3 fM 0 0 0 0 := ⟨Fm.start, rfl, rfl, rfl⟩
theorem pos_start (n : Nat) : Pos n 0 0 0 0 0 := .inl ⟨rfl, rfl, rfl⟩
set_option maxRecDepth 100000 in
set_option maxHeartbeats 2000000 in
theorem sums_any (a0 : Int) (g1 : -9223372036854775808 ≤ a0) (g2 : a0 ≤ 9223372036854775807) (vs vr : Value) (xa ya : Addr) (w : World) (hE : ErrsAt vs vr w) (hC : CodeAt (errC xa) (errC ya) w) :
    Calls Tryd.prog 4 #[.int .i64 a0] w fun e w' => e = .returned (.bool true) ∧ Below w.heap.size w w' := by
  obtain ⟨n, hn, C1⟩ := number_natb a0 40 40 rfl (by decide) (by decide) g1 g2
  have HC1 := Lib.hid C1
  have HN := Lib.hid hn
  have HZs := Lib.hid (szs_ok n hn)
  have HE := Lib.hid hE
  have HC := Lib.hid hC
  clear C1 hn g1 g2 hE hC
  go_enter Tryd.func4, Tryd.ntmps4
  go_upto_region 6 with (first
    | (go_at_call 10; (with_reducible refine (cfirst_is vs vr _ HE.out).mono ?_); rintro e w1 ⟨rfl, hb⟩; have B1 := Lib.hid hb; clear hb)
    | (go_at_call 18; (with_reducible refine (HC1.out _).mono ?_); rintro e w2 ⟨rfl, rfl⟩)
    | (go_at_call 19; (with_reducible refine (words_ok ⟨w1.heap.size, 0, none⟩ 7 7 (szs n) xa ya _ (vw_start' (HC.out.below (B1.out.alloc B1.out.size _))) (insAt7 w1 n _) (by decide) HZs).mono ?_); rintro e w2 ⟨v', rfl, hown, hb⟩; have HO := Lib.hid hown; have B2 := Lib.hid ((B1.out.alloc B1.out.size _).trans (hb.mono (Nat.le_trans B1.out.size (by simp)))); clear hb hown))
  obtain ⟨al, c, rfl⟩ := own_shape' HO.out
  have HRU := Lib.hid (ru_words' HO.out)
  clear HO
  obtain ⟨ws, HWs⟩ : ∃ ws, Hid ((List.range 7).map (zw (szs n)) = ws) := ⟨_, Lib.hid rfl⟩
  have HWl : Hid (ws.length = 7) := Lib.hid (by rw [← HWs.out]; simp)
  rw [HWs.out] at HRU
  go_upto_region 9 with (first
    | (go_at_call 20; (with_reducible refine (made17_is al 7 c ws (by decide) HWl vs vr _ (HE.out.below B2.out) HRU.out).mono ?_); rintro e w3 ⟨mb, S, a, b, N, cb, x, W, W2, rfl, hm, hw⟩; have HM := Lib.hid (hm.over B2.out); have HW := Lib.hid hw.out; clear hm hw))
  generalize hB : World.alloc w3 _ = wB
  have HMB : Hid (MemAt w wB mb S a b N cb 4 (upd (fun _ => false) 0 true) (fun _ => 0) W (upd (upd (fun _ => false) 0 true) 1 true) (fun _ => 0) W2 0 (.slice none 0 0) []) := Lib.hid (by rw [← hB]; exact HM.out.below ((Below.refl _ _).alloc (Nat.le_refl _) _))
  have HKM : Hid (KeyC wB w3.heap.size 2 0 0 0 1) := Lib.hid (by rw [← hB]; exact KeyC.new _ _ _ _ _ _ _)
  clear hB HM B1 B2 HRU
  have q0 := HKM.out.c0
  have q1 := HKM.out.c1
  have q2 := HKM.out.c2
  have q3 := HKM.out.c3
  have q4 := HKM.out.c4
  go_upto_region 10 with (refine wpList_store_mid (by rfl) _ _ _ (by rfl) wB.heap.size 0 domM (by rfl) (by rfl) (there_new wB _ _ zeroDom_size _) infoDom domM_one ?_)
  have HS := Lib.hid (CpAt.startM HMB.out)
  generalize hC2 : World.setCells (World.alloc wB _) _ _ _ = wC at HS ⊢
  clear hC2 q0 q1 q2 q3 q4
  go_wp2_with fail
  go_loopw [10, 11] (fun ta tb wr => ∃ (s pc : Nat) (r0 r1 r2 : Int) (f : Nat → Value) (hits : Int) (v : Value) (E : List EW), ta = .int .i64 s ∧ tb = .int .i64 s ∧ Pos n s pc r0 r1 r2 ∧ St3 f pc r0 r1 r2 ∧ CpAt w wr mb S a b N cb (upd (fun _ => false) 0 true) (fun _ => 0) W (upd (upd (fun _ => false) 0 true) 1 true) (fun _ => 0) W2 hits v E wB.heap.size f ∧ hits ≤ 2 * (s : Int)) (fun _ b _ => 400 - (intOf b).toNat)
  case atStart => exact ⟨0, 0, 0, 0, 0, fM, 0, (.slice none 0 0), [], rfl, rfl, pos_start n, st3_start, HS.out, by decide⟩
  case round =>
    obtain ⟨s, pc, r0, r1, r2, f, hits, v, E, rfl, rfl, hp, hst, hcp, hh⟩ := hrel
    have hs4 := hp.small HN.out
    have HP := Lib.hid hp
    have HST := Lib.hid hst
    have HCP := Lib.hid hcp
    have HH := Lib.hid hh
    have HHi : Hid (hits ≤ 1000000) := Lib.hid (by omega)
    have s0 : (0 : Int) ≤ s := by omega
    have s1 : (s : Int) < 400 := by omega
    have HS4 := Lib.hid hs4
    clear hp hst hcp hh hs4
    go_upto_region 15 with (first
      | (go_at_call 21; (with_reducible refine (sums_step n s pc HN.out HW HWs r0 r1 r2 HP.out HST.out HHi xa ya HC.out _ HCP.out).mono ?_); rintro e w5 ⟨kd, f', rfl, hq, hcase⟩; have HQ := Lib.hid hq; have HCase := Lib.hid hcase; clear hq hcase)
      | (refine wpList_store_mid (by rfl) _ _ _ (by rfl) w5.heap.size 0 (evA kd 0 0) (by rfl) (by rfl) (there_new _ _ _ (by rfl) _) infoEv (evA_one _ _ _) ?_))
    generalize hE6 : World.setCells (World.alloc w5 _) _ _ _ = w6
    have R6 : Hid (w6.rangeAt w5.heap.size 0 (evA kd 0 0).toList) := Lib.hid (by rw [← hE6]; exact (evA_ok kd 0 0).stored (there_new _ _ _ rfl _))
    have HQ6 := Lib.hid (HQ.out.below (by rw [← hE6]; exact below_cells ((Below.refl _ _).alloc (Nat.le_refl _) _) (Nat.le_refl _) _ _ : Below w5.heap.size w5 w6))
    have e0 := (evA_ok kd 0 0).cell R6.out
    clear hE6
    go_upto_region 16 with fail
    rcases HCase.out with ⟨rfl, pc', r0', r1', r2', hp', hst'⟩ | ⟨rfl, hs, h8, h0⟩
    · have HP' := Lib.hid hp'
      have HST' := Lib.hid hst'
      clear hp' hst' HCase
      go_wp2_with fail
      go_roundw
      case rel =>
        obtain ⟨hits', v', E', hc, l1, l2, _⟩ := HQ6.out
        exact ⟨s + 1, pc', r0', r1', r2', f', hits', v', E', by go_num, by go_num, HP'.out, HST'.out, hc, by have := HH.out; omega⟩
      case measure => simp [intOf]; omega
    · have HSE := Lib.hid hs
      have d8 : w6.cell? ⟨wB.heap.size, 8, none⟩ = some (.int .u32 7) := (HQ6.out.dom.c 8 (by decide)).trans (by rw [h8])
      have d0 : w6.cell? ⟨wB.heap.size, 0, none⟩ = some (.int .u32 (sm n n)) := (HQ6.out.dom.c 0 (by decide)).trans (by rw [h0])
      clear hs h8 h0 HCase
      go_upto_region 19 with fail
      obtain ⟨X, hX⟩ : ∃ X, (n : Int) * ((n : Int) - 1) = X := ⟨_, rfl⟩
      obtain ⟨Y, hY⟩ : ∃ Y, X.tdiv 2 = Y := ⟨_, rfl⟩
      have hbd := sq_bd ⟨n, HN.out⟩
      have hfin := sm_fin ⟨n, HN.out⟩
      simp only at hbd hfin
      rw [hX, hY] at hbd hfin
      rw [hfin] at d0
      obtain ⟨x0, x1, y0, y1⟩ := hbd
      have n0 : (0 : Int) ≤ n := by omega
      have n1 : (n : Int) < 40 := by have := HN.out; omega
      have hb : ((s : Int) + 1 == 4 + 4 * (n : Int)) = true := by have := HSE.out; simp; omega
      have hwY : IntKind.u32.wrap Y = Y := by rw [IntKind.wrap_u32]; omega
      clear hfin
      go_wp2_with (first
        | (go_at_call 22; (with_reducible refine (is_fine _).mono ?_); rintro e w7 ⟨rfl, hb7⟩; have HB7 := Lib.hid hb7; clear hb7))
      go_ret
      exact ⟨rfl, HQ6.out.bel0.trans (HB7.out.mono HQ6.out.bel0.size)⟩
theorem walk_CpuSums (a0 : Int) (w : World) (w0 : (Lit.int .i64 a0).wf = true) (hL : laidMetH Tryd.prog Rows.cpuSumsRow.laid w) :
    Calls Tryd.prog 4 #[.int .i64 a0] w fun e w' => e = .returned (.bool true) ∧ Below w.heap.size w w' := by
  rw [MakeChecks.laidMetH_plain _ _ _ (by kernel_rfl)] at hL
  obtain ⟨vs, vr, hE⟩ := (errs2 hL ⟨_, by repeat (first | exact List.Mem.head _ | apply List.Mem.tail)⟩ ⟨_, by repeat (first | exact List.Mem.head _ | apply List.Mem.tail)⟩)
  have hC := code_of hL ⟨_, by repeat (first | exact List.Mem.head _ | apply List.Mem.tail)⟩ ⟨_, by repeat (first | exact List.Mem.head _ | apply List.Mem.tail)⟩ (by repeat (first | exact List.Mem.head _ | apply List.Mem.tail))
  exact sums_any a0 (i64_fitC w0).1 (i64_fitC w0).2 vs vr _ _ w hE hC
end Go.Proofs.YtjkbfhojjjkgnaaDoor
