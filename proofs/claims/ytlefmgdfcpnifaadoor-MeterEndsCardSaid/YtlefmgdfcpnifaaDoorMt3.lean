/-
  package meter: the chain of any meter whose parents stand below it in number.
-/
import Derived.Test.YtlefmgdfcpnifaaDoorMtC
namespace Go.Proofs.YtlefmgdfcpnifaaDoor
open Go.ChangeShapes Go.WideShapes Go.ChangeAt Go.RowKit
set_option linter.unusedVariables false
/-- The chain of x: at most f of it. -/
def chF (pr : Nat → Int) : Nat → Int → List Int
  | 0, _ => []
  | f + 1, x => if x < 0 then [] else x :: chF pr f (pr x.toNat)
theorem chF_neg (pr : Nat → Int) (f : Nat) (x : Int) (h : x < 0) : chF pr f x = [] := by
  cases f with
  | zero => rfl
  | succ f => simp [chF, h]
theorem chF_fuel (pr : Nat → Int) (j : Nat) (hpr : ∀ i, i ≤ j → -1 ≤ pr i ∧ pr i < i) : ∀ (f g : Nat) (x : Int), x ≤ j → x < f → x < g → chF pr f x = chF pr g x := by
  intro f
  induction f with
  | zero => intro g x _ h _; rw [chF_neg _ _ _ (by omega), chF_neg _ _ _ (by omega)]
  | succ f ih =>
    intro g x hx h1 h2
    cases g with
    | zero => rw [chF_neg _ _ _ (by omega), chF_neg _ _ _ (by omega)]
    | succ g =>
      unfold chF
      by_cases h0 : x < 0
      · rw [if_pos h0, if_pos h0]
      · rw [if_neg h0, if_neg h0]
        have h3 := hpr x.toNat (by omega)
        rw [ih g (pr x.toNat) (by omega) (by omega) (by omega)]
set_option maxRecDepth 100000 in
set_option maxHeartbeats 1000000 in
theorem chain_gen {base P p B G n c : Nat} {th : Nat → Bool} {vr pr tk : Nat → Int} (j : Nat) (hj : j < n) (hth : Hid (∀ i, i ≤ j → th i = true)) (hpr : Hid (∀ i, i ≤ j → -1 ≤ pr i ∧ pr i < (i : Int))) (w : World) (h : MtAt w base P p B G n c th vr pr tk) :
    Calls Tryd.prog 67 #[.pointer (some ⟨P, 0, none⟩), .int .i64 j] w fun e w' => ∃ v, e = .returned v ∧ w'.ownsRow w.heap.size 3 1 v (chF pr (j + 1) j).length ((chF pr (j + 1) j).map (Value.int .i64)) ∧ Below w.heap.size w w' := by
  have H := Lib.hid h
  have hn := h.ar.le
  obtain ⟨i0, hi, hz0, hz1, hz2⟩ := info_parts infoIntM
  have HI := Lib.hid (⟨hi, hz0, hz1, hz2⟩ : Tryd.prog.info? 3 = some i0 ∧ i0.zero = some (.int .i64 0) ∧ i0.size = 1 ∧ i0.bytes = 8)
  obtain ⟨LL, HLL⟩ : ∃ LL, Hid (chF pr (j + 1) j = LL) := ⟨_, Lib.hid rfl⟩
  rw [HLL.out]
  clear h hi hz0 hz1 hz2
  go_enter Tryd.func67, Tryd.ntmps67
  go_wp2_with fail
  go_loopw [1, 5] (fun x v wr => ∃ (y : Int) (xs : List Int), x = .int .i64 y ∧ -1 ≤ y ∧ y ≤ j ∧ xs.length + (y + 1).toNat ≤ j + 1 ∧ Hid (xs ++ chF pr (j + 1) y = LL) ∧ wr.ownsRow w.heap.size 3 1 v xs.length (xs.map (Value.int .i64)) ∧ Below w.heap.size w wr) (fun x _ _ => (intOf x + 1).toNat)
  case atStart => exact ⟨j, [], rfl, by omega, by omega, by simp, Lib.hid (by simpa using HLL.out), World.ownsRow_nil _ _ _ _, Below.refl _ _⟩
  case round =>
    obtain ⟨y, xs, rfl, hy0, hy1, hlen, HE, hown, hbel⟩ := hrel
    have HW := Lib.hid hown
    have HL := Lib.hid hbel
    have HM := Lib.hid (H.out.below hbel)
    have f0 := HM.out.f0
    have f1 := HM.out.f1
    clear hown hbel
    by_cases hlt : 0 ≤ y
    · obtain ⟨q, rfl⟩ : ∃ q : Nat, y = q := ⟨y.toNat, by omega⟩
      have hqj : q ≤ j := by omega
      obtain ⟨r, HR⟩ : ∃ r, Hid (pr q = r) := ⟨_, Lib.hid rfl⟩
      have hr := hpr.out q hqj
      rw [HR.out] at hr
      obtain ⟨hr0, hr1⟩ := hr
      have c0 := HM.out.at0 q (by omega)
      rw [HR.out] at c0
      have HT := Lib.hid (hth.out q hqj)
      have HE2 : Hid ((xs ++ [(q : Int)]) ++ chF pr (j + 1) r = LL) := Lib.hid (by
        rw [← HE.out, ← HR.out]
        have e1 : chF pr (j + 1) (q : Int) = (q : Int) :: chF pr j (pr q) := by simp [chF]
        rw [e1, chF_fuel pr j hpr.out j (j + 1) (pr q) (by rw [HR.out]; omega) (by rw [HR.out]; omega) (by rw [HR.out]; omega)]
        simp)
      obtain ⟨nl, HNL⟩ : ∃ nl, Hid (xs.length = nl) := ⟨_, Lib.hid rfl⟩
      have hnl : nl ≤ j + 1 := by have := HNL.out; omega
      have hlen2 : nl + 1 + (r + 1).toNat ≤ j + 1 := by have := HNL.out; omega
      rw [HNL.out] at HW
      have k0 : (0 : Int) ≤ q := by omega
      have k1 : (q : Int) < n := by omega
      clear hlen HE
      go_wp2_with (first
        | (go_at_call 23; (with_reducible refine (athere_in q (by omega) true HT _ HM.out.ar).mono ?_); rintro e w1 ⟨rfl, rfl⟩)
        | (at_builtin; refine wpList_append_own _ rfl _ _ 22 rfl w.heap.size 3 i0 (.int .i64 0) 1 8 Tryd.underlying22 HI.out.1 HI.out.2.1 HI.out.2.2.1 HI.out.2.2.2 rfl (by decide) _ _ _ rfl (HW.out.alloc _) ⟨wr.heap.size, 0, none⟩ 1 1 [.int .i64 q] rfl rfl (cell_one_new _ _ _) (ints_oneCell .i64 [(q : Int)]) (by unfold maxLen; omega) (by omega) (by have := HL.out.size; simp; omega) ?_; intro v' w2 hown' hgrow' _; have HB2 : Hid (Below w.heap.size w w2) := Lib.hid ((HL.out.alloc HL.out.size _).grown hgrow' (by have := HL.out.size; simp; omega) (fun g hg => (HW.out.lt g hg).1)); have HO2 : Hid (w2.ownsRow w.heap.size 3 1 v' (nl + 1) ((xs ++ [(q : Int)]).map (Value.int .i64))) := Lib.hid (by rw [List.map_append]; exact hown'); have HM2 := Lib.hid (H.out.below HB2.out); have f0' := HM2.out.f0; have f1' := HM2.out.f1; have c0' := HM2.out.at0 q (by omega); rw [HR.out] at c0'; clear hown' hgrow' f0 f1 c0))
      go_roundw
      case rel => exact ⟨r, xs ++ [(q : Int)], rfl, by omega, by omega, by have := HNL.out; simp; omega, HE2, by rw [show (xs ++ [(q : Int)]).length = nl + 1 by have := HNL.out; simp; omega]; exact HO2.out, HB2.out⟩
      case measure => simp [intOf]; omega
    · have HE3 : Hid (xs = LL) := Lib.hid (by have h := HE.out; rw [chF_neg _ _ _ (by omega)] at h; simpa using h)
      go_wp2_with (first
        | (go_at_call 23; (with_reducible refine (athere_out _ (by omega) _ HM.out.ar).mono ?_); rintro e w1 ⟨rfl, rfl⟩))
      go_ret
      exact ⟨_, rfl, by rw [← HE3.out]; exact HW.out, HL.out⟩
end Go.Proofs.YtlefmgdfcpnifaaDoor
