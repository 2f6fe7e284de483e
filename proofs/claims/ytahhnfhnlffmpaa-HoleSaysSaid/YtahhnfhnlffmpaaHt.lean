/-
  HoleSays: the reference's Holes; SameKeys; light; other.
-/
import Derived.Test.YtahhnfhnlffmpaaHq
namespace Go.Proofs.Ytahhnfhnlffmpaa
open Go.ChangeShapes Go.WideShapes Go.ChangeAt Go.RowKit Go.Maps
set_option linter.unusedVariables false
set_option maxRecDepth 100000 in
set_option maxHeartbeats 4000000 in
theorem rholes_is (a : Option Addr) (D : FD) (n cap : Nat) (hn : Hid (n = D.n)) (sn : Nat → Nat → Bool) (R : Nat → Bool) (hR : Hid (RIs D sn R)) (hok : Hid (FOk D sn)) (pa : Option Addr) (ct cp : Nat) (key : Nat → Nat → Int) (sn2 : Nat → Bool) (h8 : ct ≤ 8)
    (hRS : Hid (∀ j, j < ct → RSens (key j 0) (key j 1) (key j 2) (key j 3) (key j 4) (sn2 j))) (h9 : Hid (∀ j, j < ct → NineOk D (sn2 j) (key j))) (p : Nat → Bool) (hp : Hid (∀ j, j < ct → holeB D R (sn2 j) (key j 0) (key j 1) (key j 2) = p j)) (w : World) (hF : FacAt w a D) (hK : KysAt w pa ct key) :
    Calls Try.prog 10 #[.slice pa ct cp, .slice a n cap] w fun e w' => ∃ v, e = .returned v ∧ KRow w' w.heap.size v (pickTo p ct) key ∧ Below w.heap.size w w' := by
  have HF := Lib.hid hF
  have HKy := Lib.hid hK
  obtain ⟨ik, hj1, hj2, hj3, hj4⟩ := info_parts hinfoK
  have HIK := Lib.hid (⟨hj1, hj2, hj3, hj4⟩ : Try.prog.info? 24 = some ik ∧ ik.zero = some (.agg #[.int .i64 0, .int .i64 0, .int .i64 0, .int .i64 0, .int .u32 0]) ∧ ik.size = 5 ∧ ik.bytes = 40)
  clear hj1 hj2 hj3 hj4 hF hK
  go_enter Try.func10, Try.ntmps10
  go_wp2_with fail
  go_loopw [6, 5] (fun z v wr => ∃ q : Nat, q ≤ ct ∧ z = .int .i64 q ∧ KRow wr w.heap.size v (pickTo p q) key ∧ Below w.heap.size w wr) (fun z _ _ => ct - (intOf z).toNat)
  case atStart => exact ⟨0, by omega, rfl, World.ownsRow_nil _ _ _ _, Below.refl _ _⟩
  case round =>
    obtain ⟨q, hq, rfl, hrow, hb⟩ := hrel
    have HRow := Lib.hid hrow
    have HB := Lib.hid hb
    clear hrow hb
    by_cases hlt : q < ct
    · obtain ⟨pd, rfl, hbl, hin, hw1, hw2⟩ := HKy.out q hlt
      have HIn0 := Lib.hid hin
      have HBL := Lib.hid hbl
      have hin2 := hin.below HB.out hbl
      have HT : Hid (holeB D R (sn2 q) (key q 0) (key q 1) (key q 2) = p q) := Lib.hid (hp.out q hlt)
      have HSn : Hid (RSens (key q 0) (key q 1) (key q 2) (key q 3) (key q 4) (sn2 q)) := Lib.hid (hRS.out q hlt)
      have H9 : Hid (NineOk D (sn2 q) (kf5 (key q 0) (key q 1) (key q 2) (key q 3) (key q 4))) := Lib.hid (h9.out q hlt)
      obtain ⟨tt, Htt⟩ : ∃ tt, Hid (p q = tt) := ⟨_, Lib.hid rfl⟩
      have HKC : Hid (kcells key q = [.int .i64 (key q 0), .int .i64 (key q 1), .int .i64 (key q 2), .int .i64 (key q 3), .int .u32 (key q 4)]) := Lib.hid rfl
      obtain ⟨k0, Hk0⟩ : ∃ k0, Hid (key q 0 = k0) := ⟨_, Lib.hid rfl⟩
      obtain ⟨k1, Hk1⟩ : ∃ k1, Hid (key q 1 = k1) := ⟨_, Lib.hid rfl⟩
      obtain ⟨k2, Hk2⟩ : ∃ k2, Hid (key q 2 = k2) := ⟨_, Lib.hid rfl⟩
      obtain ⟨k3, Hk3⟩ : ∃ k3, Hid (key q 3 = k3) := ⟨_, Lib.hid rfl⟩
      obtain ⟨k4, Hk4⟩ : ∃ k4, Hid (key q 4 = k4) := ⟨_, Lib.hid rfl⟩
      rw [Hk0.out, Hk1.out, Hk2.out, Hk3.out, Hk4.out] at hin2 HSn HKC HIn0 H9
      rw [Hk0.out, Hk1.out, Hk2.out, Htt.out] at HT
      obtain ⟨i0, i1, i2, i3, i4⟩ := hin2
      have q0 : (0 : Int) ≤ q := by omega
      have q1 : (q : Int) < ct := by omega
      clear hw1 hw2 hin hbl
      have hpl := pickTo_len p q
      obtain ⟨ln, hln⟩ : ∃ ln, (pickTo p q).length = ln := ⟨_, rfl⟩
      have H6 : Hid (ln + 1 ≤ maxLen ∧ (ln + 1) * 40 ≤ 140737488355328) := Lib.hid ⟨by unfold maxLen; omega, by omega⟩
      have HRow2 : Hid (wr.ownsRow w.heap.size 24 5 u5 ln (keyRow key (pickTo p q))) := Lib.hid (by have h := HRow.out; unfold KRow at h; rwa [hln] at h)
      have HLN := Lib.hid hln
      clear hpl hln
      cases tt with
      | false =>
        go_wp2_with (first
          | (go_at_call 12; (with_reducible refine (rhole_is k0 k1 k2 k3 k4 a D n cap hn sn R hR _ false HT HSn hok H9 _ (HF.out.below HB.out)).mono ?_); rintro e w3 ⟨rfl, hb⟩; have HB4 : Hid (Below wr.heap.size wr w3) := Lib.hid hb; clear hb))
        go_roundw
        case rel => exact ⟨q + 1, by omega, by go_num, by unfold pickTo; rw [Htt.out]; exact rowbelow HRow.out HB4.out, HB.out.trans (HB4.out.mono HB.out.size)⟩
        case measure => simp [intOf]; omega
      | true =>
        go_wp2_with (first
          | (go_at_call 12; (with_reducible refine (rhole_is k0 k1 k2 k3 k4 a D n cap hn sn R hR _ true HT HSn hok H9 _ (HF.out.below HB.out)).mono ?_); rintro e w3 ⟨rfl, hb⟩; have HB4 : Hid (Below wr.heap.size wr w3) := Lib.hid hb; have HR3 := Lib.hid (rowbelow HRow2.out HB4.out); have HBs : Hid (∀ o, w.heap.size ≤ (w3.alloc o).heap.size) := Lib.hid (fun o => by have := HB.out.size; have := hb.size; simp; omega); obtain ⟨j0, j1, j2, j3, j4⟩ := HIn0.out.below (HB.out.trans (hb.mono HB.out.size)) HBL.out; clear hb)
          | (at_builtin; refine wpList_append_own_at _ rfl _ _ 25 rfl w.heap.size 24 ik (.agg #[.int .i64 0, .int .i64 0, .int .i64 0, .int .i64 0, .int .u32 0]) 5 40 Try.underlying25 HIK.out.1 HIK.out.2.1 HIK.out.2.2.1 HIK.out.2.2.2 rfl (by decide) _ _ _ rfl (HR3.out.alloc _) ⟨w3.heap.size, 0, none⟩ 1 1 [.int .i64 k0, .int .i64 k1, .int .i64 k2, .int .i64 k3, .int .u32 k4] rfl rfl (five_at rfl _ _) (five_one _ _ _ _ _) H6.out.1 H6.out.2 (HBs.out _) ?_; intro v' w9 hown hgrow hnil hloc; have HOW := Lib.hid hown; have HGR := Lib.hid ((World.grownBy_alloc _ _ _).trans hgrow); clear hown hgrow hnil hloc))
        go_roundw
        case rel =>
          refine ⟨q + 1, by omega, by go_num, ?_, (HB.out.trans (HB4.out.mono HB.out.size)).grown HGR.out (Nat.le_trans HB.out.size HB4.out.size) (fun g hg => (HRow2.out.lt g hg).1)⟩
          unfold pickTo KRow
          rw [Htt.out, if_pos rfl, List.length_append, List.length_singleton, HLN.out, keyRow_snoc, HKC.out]
          exact HOW.out
        case measure => simp [intOf]; omega
    · obtain rfl : q = ct := by omega
      have hqq : decide (q < q) = false := by simp
      go_wp2_with fail
      go_ret
      exact ⟨_, rfl, HRow.out, HB.out⟩
theorem keepSK {W w w' : World} {gu gv q : Nat} {x0 x1 x2 x3 x4 : Int} (hu : gu < W.heap.size) (hv : gv < W.heap.size) (h : Below W.heap.size W w ∧ (w.cell? ⟨gu, q * 5, none⟩ = some (.int .i64 x0) ∧ w.cell? ⟨gu, q * 5 + 1, none⟩ = some (.int .i64 x1) ∧ w.cell? ⟨gu, q * 5 + 2, none⟩ = some (.int .i64 x2) ∧ w.cell? ⟨gu, q * 5 + 3, none⟩ = some (.int .i64 x3) ∧ w.cell? ⟨gu, q * 5 + 4, none⟩ = some (.int .u32 x4)) ∧ (w.cell? ⟨gv, q * 5, none⟩ = some (.int .i64 x0) ∧ w.cell? ⟨gv, q * 5 + 1, none⟩ = some (.int .i64 x1) ∧ w.cell? ⟨gv, q * 5 + 2, none⟩ = some (.int .i64 x2) ∧ w.cell? ⟨gv, q * 5 + 3, none⟩ = some (.int .i64 x3) ∧ w.cell? ⟨gv, q * 5 + 4, none⟩ = some (.int .u32 x4))) (hb : Below w.heap.size w w') : Below W.heap.size W w' ∧ (w'.cell? ⟨gu, q * 5, none⟩ = some (.int .i64 x0) ∧ w'.cell? ⟨gu, q * 5 + 1, none⟩ = some (.int .i64 x1) ∧ w'.cell? ⟨gu, q * 5 + 2, none⟩ = some (.int .i64 x2) ∧ w'.cell? ⟨gu, q * 5 + 3, none⟩ = some (.int .i64 x3) ∧ w'.cell? ⟨gu, q * 5 + 4, none⟩ = some (.int .u32 x4)) ∧ (w'.cell? ⟨gv, q * 5, none⟩ = some (.int .i64 x0) ∧ w'.cell? ⟨gv, q * 5 + 1, none⟩ = some (.int .i64 x1) ∧ w'.cell? ⟨gv, q * 5 + 2, none⟩ = some (.int .i64 x2) ∧ w'.cell? ⟨gv, q * 5 + 3, none⟩ = some (.int .i64 x3) ∧ w'.cell? ⟨gv, q * 5 + 4, none⟩ = some (.int .u32 x4)) :=
  ⟨h.1.trans (hb.mono h.1.size), InF.below (e := ⟨gu, q * 5, none⟩) h.2.1 hb (Nat.lt_of_lt_of_le hu h.1.size), InF.below (e := ⟨gv, q * 5, none⟩) h.2.2 hb (Nat.lt_of_lt_of_le hv h.1.size)⟩
theorem startSK {W : World} {gu gv q : Nat} {x0 x1 x2 x3 x4 : Int} (hu : gu < W.heap.size) (hv : gv < W.heap.size) (h1 : InF W ⟨gu, q * 5, none⟩ x0 x1 x2 x3 x4) (h2 : InF W ⟨gv, q * 5, none⟩ x0 x1 x2 x3 x4) : Below W.heap.size W W.drew ∧ (W.drew.cell? ⟨gu, q * 5, none⟩ = some (.int .i64 x0) ∧ W.drew.cell? ⟨gu, q * 5 + 1, none⟩ = some (.int .i64 x1) ∧ W.drew.cell? ⟨gu, q * 5 + 2, none⟩ = some (.int .i64 x2) ∧ W.drew.cell? ⟨gu, q * 5 + 3, none⟩ = some (.int .i64 x3) ∧ W.drew.cell? ⟨gu, q * 5 + 4, none⟩ = some (.int .u32 x4)) ∧ (W.drew.cell? ⟨gv, q * 5, none⟩ = some (.int .i64 x0) ∧ W.drew.cell? ⟨gv, q * 5 + 1, none⟩ = some (.int .i64 x1) ∧ W.drew.cell? ⟨gv, q * 5 + 2, none⟩ = some (.int .i64 x2) ∧ W.drew.cell? ⟨gv, q * 5 + 3, none⟩ = some (.int .i64 x3) ∧ W.drew.cell? ⟨gv, q * 5 + 4, none⟩ = some (.int .u32 x4)) :=
  ⟨(Below.refl _ _).drew, InF.below (e := ⟨gu, q * 5, none⟩) h1 (Below.refl _ _).drew hu, InF.below (e := ⟨gv, q * 5, none⟩) h2 (Below.refl _ _).drew hv⟩
set_option maxRecDepth 100000 in
set_option maxHeartbeats 4000000 in
theorem samekeys_yes (u v : Option Addr) (L cu cv : Nat) (x : Nat → Nat → Int) (w : World) (h : ∀ q, q < L → ∃ gu gv, u = some ⟨gu, 0, none⟩ ∧ v = some ⟨gv, 0, none⟩ ∧ gu < w.heap.size ∧ gv < w.heap.size ∧ InF w ⟨gu, q * 5, none⟩ (x q 0) (x q 1) (x q 2) (x q 3) (x q 4) ∧ InF w ⟨gv, q * 5, none⟩ (x q 0) (x q 1) (x q 2) (x q 3) (x q 4)) (h64 : L ≤ 64) :
    Calls Try.prog 13 #[.slice u L cu, .slice v L cv] w fun e w' => e = .returned (.bool true) ∧ Below w.heap.size w w' := by
  have H := Lib.hid h
  clear h
  go_enter Try.func13, Try.ntmps13
  have hLL : ((L : Int) != L) = false := by simp
  go_wp2_with fail
  go_loopw [5] (fun z wr => ∃ q : Nat, q ≤ L ∧ z = .int .i64 q ∧ Below w.heap.size w wr) (fun z _ => L - (intOf z).toNat)
  case atStart => exact ⟨0, by omega, rfl, Below.refl _ _⟩
  case round =>
    obtain ⟨q, hq, rfl, hb⟩ := hrel
    have HB := Lib.hid hb
    clear hb
    by_cases hlt : q < L
    · obtain ⟨gu, gv, rfl, rfl, hu, hv, h1, h2⟩ := H.out q hlt
      have q0 : (0 : Int) ≤ q := by omega
      have q1 : (q : Int) < L := by omega
      have h1' := h1.below HB.out hu
      have h2' := h2.below HB.out hv
      have HU : Hid (gu < wr.heap.size ∧ gv < wr.heap.size) := Lib.hid ⟨Nat.lt_of_lt_of_le hu HB.out.size, Nat.lt_of_lt_of_le hv HB.out.size⟩
      clear h1 h2 hu hv
      generalize x q 0 = x0 at h1' h2'
      generalize x q 1 = x1 at h1' h2'
      generalize x q 2 = x2 at h1' h2'
      generalize x q 3 = x3 at h1' h2'
      generalize x q 4 = x4 at h1' h2'
      have ST : Hid (Below wr.heap.size wr wr.drew ∧ (wr.drew.cell? ⟨gu, q * 5, none⟩ = some (.int .i64 x0) ∧ wr.drew.cell? ⟨gu, q * 5 + 1, none⟩ = some (.int .i64 x1) ∧ wr.drew.cell? ⟨gu, q * 5 + 2, none⟩ = some (.int .i64 x2) ∧ wr.drew.cell? ⟨gu, q * 5 + 3, none⟩ = some (.int .i64 x3) ∧ wr.drew.cell? ⟨gu, q * 5 + 4, none⟩ = some (.int .u32 x4)) ∧ (wr.drew.cell? ⟨gv, q * 5, none⟩ = some (.int .i64 x0) ∧ wr.drew.cell? ⟨gv, q * 5 + 1, none⟩ = some (.int .i64 x1) ∧ wr.drew.cell? ⟨gv, q * 5 + 2, none⟩ = some (.int .i64 x2) ∧ wr.drew.cell? ⟨gv, q * 5 + 3, none⟩ = some (.int .i64 x3) ∧ wr.drew.cell? ⟨gv, q * 5 + 4, none⟩ = some (.int .u32 x4))) := Lib.hid (startSK HU.out.1 HU.out.2 h1' h2')
      clear h1' h2'
      go_upto_region 6 with fail
      go_region_held3 (fun w' => Below wr.heap.size wr w' ∧ (w'.cell? ⟨gu, q * 5, none⟩ = some (.int .i64 x0) ∧ w'.cell? ⟨gu, q * 5 + 1, none⟩ = some (.int .i64 x1) ∧ w'.cell? ⟨gu, q * 5 + 2, none⟩ = some (.int .i64 x2) ∧ w'.cell? ⟨gu, q * 5 + 3, none⟩ = some (.int .i64 x3) ∧ w'.cell? ⟨gu, q * 5 + 4, none⟩ = some (.int .u32 x4)) ∧ (w'.cell? ⟨gv, q * 5, none⟩ = some (.int .i64 x0) ∧ w'.cell? ⟨gv, q * 5 + 1, none⟩ = some (.int .i64 x1) ∧ w'.cell? ⟨gv, q * 5 + 2, none⟩ = some (.int .i64 x2) ∧ w'.cell? ⟨gv, q * 5 + 3, none⟩ = some (.int .i64 x3) ∧ w'.cell? ⟨gv, q * 5 + 4, none⟩ = some (.int .u32 x4))) (first | exact ST.out | exact keepSK HU.out.1 HU.out.2 (by assumption) hb)
        (first | (go_at_call 17; (with_reducible refine (same_is x0 x1 x2 x3 x4 x0 x1 x2 x3 x4 true (Lib.hid (by simp [sameB])) _).mono ?_); rintro e w' ⟨rfl, hb⟩))
      have hS : Below wr.heap.size wr w' ∧ (w'.cell? ⟨gu, q * 5, none⟩ = some (.int .i64 x0) ∧ w'.cell? ⟨gu, q * 5 + 1, none⟩ = some (.int .i64 x1) ∧ w'.cell? ⟨gu, q * 5 + 2, none⟩ = some (.int .i64 x2) ∧ w'.cell? ⟨gu, q * 5 + 3, none⟩ = some (.int .i64 x3) ∧ w'.cell? ⟨gu, q * 5 + 4, none⟩ = some (.int .u32 x4)) ∧ (w'.cell? ⟨gv, q * 5, none⟩ = some (.int .i64 x0) ∧ w'.cell? ⟨gv, q * 5 + 1, none⟩ = some (.int .i64 x1) ∧ w'.cell? ⟨gv, q * 5 + 2, none⟩ = some (.int .i64 x2) ∧ w'.cell? ⟨gv, q * 5 + 3, none⟩ = some (.int .i64 x3) ∧ w'.cell? ⟨gv, q * 5 + 4, none⟩ = some (.int .u32 x4)) := by assumption
      obtain ⟨hB, -⟩ := hS
      have HB2 := Lib.hid hB
      clear hB
      go_wp2_with fail
      go_roundw
      case rel => exact ⟨q + 1, by omega, by go_num, HB.out.trans (HB2.out.mono HB.out.size)⟩
      case measure => simp [intOf]; omega
    · obtain rfl : q = L := by omega
      have hqq : decide (q < q) = false := by simp
      go_wp2_with fail
      go_ret
      exact ⟨rfl, HB.out⟩
end Go.Proofs.Ytahhnfhnlffmpaa
