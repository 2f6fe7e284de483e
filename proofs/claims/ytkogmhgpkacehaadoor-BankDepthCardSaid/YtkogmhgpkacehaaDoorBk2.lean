/-
  package bank: chain, Within, Parent, Used, Limit, open, Root, Sub.
-/
import Derived.Test.YtkogmhgpkacehaaDoorBk
namespace Go.Proofs.YtkogmhgpkacehaaDoor
open Go.ChangeShapes Go.WideShapes Go.ChangeAt Go.RowKit
set_option linter.unusedVariables false
/-- The banks from number x up. -/
def chL (pr : Nat → Int) (x : Int) : List Int := chF pr 300 x
/-- Parents stand below. -/
def PrOk (nb : Nat) (pr : Nat → Int) : Prop := ∀ i, i < nb → -1 ≤ pr i ∧ pr i < (i : Int)
theorem chL_neg (pr : Nat → Int) (x : Int) (h : x < 0) : chL pr x = [] := chF_neg pr 300 x h
theorem chL_cons {nb : Nat} {pr : Nat → Int} (hp : PrOk nb pr) (q : Nat) (hq : q < nb) (hb : nb ≤ 256) : chL pr (q : Int) = (q : Int) :: chL pr (pr q) := by
  have h := hp q hq
  have e1 : ∀ f : Nat, chF pr (f + 1) (q : Int) = (q : Int) :: chF pr f (pr q) := fun f => by
    rw [chF, if_neg (by omega), Int.toNat_natCast]
  have e2 := e1 299
  unfold chL
  rw [show (300 : Nat) = 299 + 1 from rfl, e2, chF_fuel pr q (fun i hi => hp i (by omega)) 299 (299 + 1) (pr q) (by omega) (by omega) (by omega)]
theorem chL_bound {nb : Nat} {pr : Nat → Int} (hp : PrOk nb pr) (hb : nb ≤ 256) : ∀ (q : Nat) (y : Int), y < q → q ≤ nb → (chL pr y).length ≤ q ∧ ∀ z, z ∈ chL pr y → 0 ≤ z ∧ z ≤ y := by
  intro q
  induction q with
  | zero => intro y hy _; rw [chL_neg pr y (by omega)]; exact ⟨Nat.le_refl _, fun z hz => by cases hz⟩
  | succ q ih =>
    intro y hy hq
    by_cases h0 : y < 0
    · rw [chL_neg pr y h0]; exact ⟨by simp, fun z hz => by cases hz⟩
    · obtain ⟨k, rfl⟩ : ∃ k : Nat, y = k := ⟨y.toNat, by omega⟩
      have h := hp k (by omega)
      rw [chL_cons hp k (by omega) hb]
      have h2 := ih (pr k) (by omega) (by omega)
      refine ⟨by simp; exact h2.1, fun z hz => ?_⟩
      rcases List.mem_cons.1 hz with rfl | hz
      · omega
      · have := h2.2 z hz; omega
theorem infoIntB : (Tryd.prog.info? 3).map (fun i => (i.zero, i.size, i.bytes)) = some (some (.int .i64 0), 1, 8) := by kernel_rfl
set_option maxRecDepth 100000 in
set_option maxHeartbeats 1000000 in
theorem bchain_is {base P p B A G1 G2 G3 n c mb db : Nat} {th : Nat → Bool} {vr pr us lm o1 v1 o2 v2 o3 v3 : Nat → Int} (y0 : Int) (nb : Nat) (hy0 : -1 ≤ y0) (hy1 : y0 < nb) (hnb : nb ≤ n) (hth : Hid (∀ i, i < nb → th i = true)) (hpr : Hid (PrOk nb pr)) (w : World) (h : (BkAt w base P p B A G1 G2 G3 n c mb db th vr pr us lm o1 v1 o2 v2 o3 v3)) :
    Calls Tryd.prog 155 #[.pointer (some ⟨P, 0, none⟩), .int .i64 y0] w fun e w' => ∃ v, e = .returned v ∧ w'.ownsRow w.heap.size 3 1 v (chL pr y0).length ((chL pr y0).map (Value.int .i64)) ∧ Below w.heap.size w w' := by
  have H := Lib.hid h
  have hn := h.ar.le
  obtain ⟨i0, hi, hz0, hz1, hz2⟩ := info_parts infoIntB
  have HI := Lib.hid (⟨hi, hz0, hz1, hz2⟩ : Tryd.prog.info? 3 = some i0 ∧ i0.zero = some (.int .i64 0) ∧ i0.size = 1 ∧ i0.bytes = 8)
  obtain ⟨LL, HLL⟩ : ∃ LL, Hid (chL pr y0 = LL) := ⟨_, Lib.hid rfl⟩
  have hLn : LL.length ≤ nb := by rw [← HLL.out]; exact (chL_bound hpr.out (by omega) nb y0 (by omega) (Nat.le_refl _)).1
  rw [HLL.out]
  clear h hi hz0 hz1 hz2
  go_enter Tryd.func155, Tryd.ntmps155
  go_wp2_with fail
  go_loopw [1, 5] (fun x v wr => ∃ (y : Int) (xs : List Int), x = .int .i64 y ∧ -1 ≤ y ∧ y < nb ∧ Hid (xs ++ chL pr y = LL) ∧ wr.ownsRow w.heap.size 3 1 v xs.length (xs.map (Value.int .i64)) ∧ Below w.heap.size w wr) (fun x _ _ => (intOf x + 1).toNat)
  case atStart => exact ⟨y0, [], rfl, by omega, by omega, Lib.hid (by simpa using HLL.out), World.ownsRow_nil _ _ _ _, Below.refl _ _⟩
  case round =>
    obtain ⟨y, xs, rfl, hy0, hy1, HE, hown, hbel⟩ := hrel
    have HW := Lib.hid hown
    have HL := Lib.hid hbel
    have HM := Lib.hid (H.out.below hbel)
    have f0 := HM.out.f0
    have f3 := HM.out.f3
    have hxs : xs.length ≤ nb := by have := HE.out; rw [← this] at hLn; simp at hLn; omega
    clear hown hbel
    by_cases hlt : 0 ≤ y
    · obtain ⟨q, rfl⟩ : ∃ q : Nat, y = q := ⟨y.toNat, by omega⟩
      have hqj : q < nb := by omega
      obtain ⟨r, HR⟩ : ∃ r, Hid (pr q = r) := ⟨_, Lib.hid rfl⟩
      have hr := hpr.out q hqj
      rw [HR.out] at hr
      obtain ⟨hr0, hr1⟩ := hr
      have c0 := HM.out.ac0 q (by omega)
      rw [HR.out] at c0
      have HT := Lib.hid (hth.out q hqj)
      have HE2 : Hid ((xs ++ [(q : Int)]) ++ chL pr r = LL) := Lib.hid (by
        rw [← HE.out, ← HR.out, chL_cons hpr.out q hqj (by omega)]
        simp)
      obtain ⟨nl, HNL⟩ : ∃ nl, Hid (xs.length = nl) := ⟨_, Lib.hid rfl⟩
      have hnl : nl ≤ 256 := by have := HNL.out; omega
      rw [HNL.out] at HW
      have k0 : (0 : Int) ≤ q := by omega
      have k1 : (q : Int) < n := by omega
      clear HE
      go_wp2_with (first
        | (go_at_call 25; (with_reducible refine (athere_in q (by omega) true HT _ HM.out.ar).mono ?_); rintro e w1 ⟨rfl, rfl⟩)
        | (at_builtin; refine wpList_append_own _ rfl _ _ 94 rfl w.heap.size 3 i0 (.int .i64 0) 1 8 Tryd.underlying94 HI.out.1 HI.out.2.1 HI.out.2.2.1 HI.out.2.2.2 rfl (by decide) _ _ _ rfl (HW.out.alloc _) ⟨wr.heap.size, 0, none⟩ 1 1 [.int .i64 q] rfl rfl (cell_one_new _ _ _) (ints_oneCell .i64 [(q : Int)]) (by unfold maxLen; omega) (by omega) (by have := HL.out.size; simp; omega) ?_; intro v' w2 hown' hgrow' _; have HB2 : Hid (Below w.heap.size w w2) := Lib.hid ((HL.out.alloc HL.out.size _).grown hgrow' (by have := HL.out.size; simp; omega) (fun g hg => (HW.out.lt g hg).1)); have HO2 : Hid (w2.ownsRow w.heap.size 3 1 v' (nl + 1) ((xs ++ [(q : Int)]).map (Value.int .i64))) := Lib.hid (by rw [List.map_append]; exact hown'); have HM2 := Lib.hid (H.out.below HB2.out); have f0' := HM2.out.f0; have f3' := HM2.out.f3; have c0' := HM2.out.ac0 q (by omega); rw [HR.out] at c0'; clear hown' hgrow' f0 f3 c0))
      go_roundw
      case rel => exact ⟨r, xs ++ [(q : Int)], rfl, by omega, by omega, HE2, by rw [show (xs ++ [(q : Int)]).length = nl + 1 by have := HNL.out; simp; omega]; exact HO2.out, HB2.out⟩
      case measure => simp [intOf]; omega
    · have HE3 : Hid (xs = LL) := Lib.hid (by have h := HE.out; rw [chL_neg _ _ (by omega)] at h; simpa using h)
      go_wp2_with (first
        | (go_at_call 25; (with_reducible refine (athere_out _ (by omega) _ HM.out.ar).mono ?_); rintro e w1 ⟨rfl, rfl⟩))
      go_ret
      exact ⟨_, rfl, by rw [← HE3.out]; exact HW.out, HL.out⟩
/-- A row of numbers, some or none: its address. -/
theorem own_ints {w : World} {B : Nat} {v : Value} {L : List Int} (h : w.ownsRow B 3 1 v L.length (L.map (Value.int .i64))) : ∃ a c, v = .slice a L.length c ∧ (0 < L.length → ∃ g, a = some ⟨g, 0, none⟩ ∧ RN w g L.length L ∧ B ≤ g ∧ g < w.heap.size) := by
  rcases h.2 with ⟨rfl, h0⟩ | ⟨g, cap, cur, rfl, hB, hg, rest⟩
  · exact ⟨none, 0, by rw [h0], fun h => by omega⟩
  · refine ⟨some ⟨g, 0, none⟩, cap, rfl, fun _ => ⟨g, rfl, fun i hi => ?_, hB, (h.lt g rfl).2⟩⟩
    rw [h.cellAt i (by omega)]
    simp [List.getD, hi]
theorem mem_getD (L : List Int) (x : Int) : x ∈ L ↔ ∃ i, i < L.length ∧ L.getD i 0 = x := by
  rw [List.mem_iff_getElem]
  constructor
  · rintro ⟨i, hi, e⟩; exact ⟨i, hi, by simp [List.getD, hi, e]⟩
  · rintro ⟨i, hi, e⟩; refine ⟨i, hi, ?_⟩; simpa [List.getD, hi] using e
end Go.Proofs.YtkogmhgpkacehaaDoor
