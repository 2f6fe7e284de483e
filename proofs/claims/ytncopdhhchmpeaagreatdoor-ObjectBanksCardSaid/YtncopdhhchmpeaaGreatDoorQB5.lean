/-
  Et, Oi, BitN, Eu, Ev, Ew: what ObjectBanks reaches of them.
-/
import Derived.Test.YtncopdhhchmpeaaGreatDoorQB4
namespace Go.Proofs.YtncopdhhchmpeaaGreatDoor
open Go.ChangeShapes Go.WideShapes Go.ChangeAt Go.RowKit
set_option linter.unusedVariables false
set_option linter.unusedSimpArgs false
section
variable {w0 w w' : World} {L : BLoc} {X : SLoc} {sb a b : Nat} {lm : Int} {vs vr : Value} {A : Nat → Addr}
def gD20 : BSt := openedB st0 (-1) 20
theorem gd20_bd (hl : 0 ≤ lm) : BD 0 0 lm (openedB gD20 ((0 : Nat) : Int) lm) := ⟨rfl, rfl, rfl, rfl, rfl, rfl, rfl, fun i hi => by
  show upd (upd (fun _ => 0) 0 0) 1 0 i = 0
  unfold upd
  split
  · rfl
  · split <;> rfl, by show (fun _ => false) = thN 0; funext i; simp [thN], rfl, by show (fun _ => false) = thN 0; funext i; simp [thN], rfl, rfl, rfl, fun i hi => by omega, fun i hi => by omega, by decide⟩
theorem bask_sub (h : BQ w0 w L X sb gD20) (hE : ErrsAt vs vr w0) (hl0 : 0 ≤ lm) (hl1 : lm ≤ 7) (hn : L.n = 6) : Calls Tryz.prog 37 #[(Value.agg #[.int .i64 8, .int .i64 0, .int .i64 0, .int .i64 0, .int .u32 0]), .int .u32 2, .int .u32 lm, .pointer (some ⟨sb, 0, none⟩)] w fun e w' => e = .returned (.agg (noteK 8 1).toArray) ∧ SB w0 L X sb 0 0 lm w' ∧ UpT L.T w w' := by
  have hlt := h.lts
  refine askB_2 (noteK_len 8 1) (noteK_one 8 1) X.s L.T L.P 0 lm hl0 (by omega) 1 0 8 1 0 0 0 .nilIface w hlt.1 h.s vs vr (hE.below h.k.bel) h.b.c3 (fun W W' h1 hb => h1.low hb hlt) (fun W h1 => h1.p3) (by decide) (fun W hW => ?_) (fun W hW => ?_) (fun W h1 => ?_) (fun W h1 _ _ => otold_nil (noteK 8 1) (noteK_len 8 1) (noteK_one 8 1) W)
  · have h1 := h.below hW
    exact slive_bank 0 0 0 0 L.p L.B L.n L.c L.bB (thN 1) (fun _ => 0) true (Lib.hid (by rw [hn]; rfl)) W h1.b h1.k.kk.f0 h1.k.kk.ar
  · have h1 := h.below hW
    refine (bwsub_ok (D := gD20) 0 0 (Lib.hid rfl) lm hl0 (by omega) (by decide) 1 (Lib.hid rfl) (by rw [hn]; decide) (Lib.hid (by decide +kernel)) W h1.k).mono ?_
    rintro e w' ⟨he, hB, hu⟩
    exact ⟨he, ⟨_, h1.step hB hu, gd20_bd hl0⟩, hu⟩
  · obtain ⟨D, h2, h3⟩ := h1
    exact skey_bank 1 0 L.p W h2.b h2.k.kk.f0 (fun V hV => aver_in (n := L.n) (vr := fun _ => 0) 1 (by rw [hn]; decide) 0 (Lib.hid rfl) V (h2.below hV).k.kk.ar) (fun V hV => SB.live (⟨D, h2.below hV, h3⟩ : SB w0 L X sb 0 0 lm V) hn 1 (.inr rfl))
theorem bask_node (h : SB w0 L X sb a b lm w) (hE : ErrsAt vs vr w0) (hl : lm ≤ 7) (hab : (a : Int) + (b : Int) < lm) (hn : L.n = 6) (ha : L.a.n = 12) : Calls Tryz.prog 37 #[(Value.agg #[.int .i64 8, .int .i64 1, .int .i64 0, .int .i64 0, .int .u32 0]), .int .u32 0, .int .u32 0, .pointer (some ⟨sb, 0, none⟩)] w fun e w' => e = .returned (.agg (noteK 2 a).toArray) ∧ SB w0 L X sb (a + 1) b lm w' ∧ UpT L.T w w' := by
  have hlt := h.lts
  exact askB_0 (noteK_len 2 a) (noteK_one 2 a) X.s L.T L.P 1 0 (by decide) (by decide) a 0 2 a 0 0 0 .nilIface w hlt.1 h.s0 vs vr (hE.below h.bel) h.p3 (fun W W' h1 hb => h1.low hb hlt) (fun W h1 => h1.p3) (by decide) (fun W hW => (h.below hW).live hn 1 (.inr rfl)) (fun W hW => (h.below hW).node hl hab ha vs vr (hE.below (h.below hW).bel)) (fun W h1 => h1.nkey a (by omega) ha) (fun W h1 _ _ => otold_nil (noteK 2 a) (noteK_len 2 a) (noteK_one 2 a) W)
theorem bask_page (h : SB w0 L X sb a b lm w) (hE : ErrsAt vs vr w0) (hl : lm ≤ 7) (hab : (a : Int) + (b : Int) < lm) (hn : L.n = 6) (hb : L.b.n = 12) : Calls Tryz.prog 37 #[(Value.agg #[.int .i64 8, .int .i64 1, .int .i64 0, .int .i64 0, .int .u32 0]), .int .u32 1, .int .u32 0, .pointer (some ⟨sb, 0, none⟩)] w fun e w' => e = .returned (.agg (noteK 3 b).toArray) ∧ SB w0 L X sb a (b + 1) lm w' ∧ UpT L.T w w' := by
  have hlt := h.lts
  exact askB_1 (noteK_len 3 b) (noteK_one 3 b) X.s L.T L.P 1 0 (by decide) (by decide) b 0 3 b 0 0 0 .nilIface w hlt.1 h.s0 vs vr (hE.below h.bel) h.p3 (fun W W' h1 hb => h1.low hb hlt) (fun W h1 => h1.p3) (by decide) (fun W hW => (h.below hW).live hn 1 (.inr rfl)) (fun W hW => (h.below hW).page hl hab hb) (fun W h1 => h1.pkey b (by omega) hb) (fun W h1 _ _ => otold_nil (noteK 3 b) (noteK_len 3 b) (noteK_one 3 b) W)
theorem bask_nodeNo (h : SB w0 L X sb a b lm w) (hE : ErrsAt vs vr w0) (hE6 : E6 A w0) (hl : lm ≤ 7) (hab : lm ≤ (a : Int) + (b : Int)) (hn : L.n = 6) (ha : L.a.n = 12) : Calls Tryz.prog 37 #[(Value.agg #[.int .i64 8, .int .i64 1, .int .i64 0, .int .i64 0, .int .u32 0]), .int .u32 0, .int .u32 0, .pointer (some ⟨sb, 0, none⟩)] w fun e w' => e = .returned (.agg (noteW 6 0 0).toArray) ∧ SB w0 L X sb a b lm w' ∧ UpT L.T w w' := by
  have hlt := h.lts
  obtain ⟨q0, hq⟩ := h.nkey0 ha
  exact askB_0 (noteW_len 6 0 0) (noteW_one 6 0 0) X.s L.T L.P 1 0 (by decide) (by decide) 0 0 q0 0 0 0 0 (eV (A 4)) w hlt.1 h.s0 vs vr (hE.below h.bel) h.p3 (fun W W' h1 hb => h1.low hb hlt) (fun W h1 => h1.p3) (by decide) (fun W hW => (h.below hW).live hn 1 (.inr rfl)) (fun W hW => (h.below hW).nodeNo hl hab vs vr _ (hE.below (h.below hW).bel) ((hE6.below (h.below hW).bel).c _ (by decide))) (fun W h1 => hq W h1) (fun W h1 _ _ => otold_limit ([.int .u32 0, .int .u32 0, .int .u32 0, .int .u32 0, .int .i64 q0, .int .i64 0, .int .i64 0, .int .i64 0, .int .u32 0, .int .i64 0, .int .i64 0, .int .i64 0, .int .i64 0, .int .u32 0, .int .i64 0, .int .i64 0, .int .i64 0, .int .i64 0, .int .u32 0]) A W (hE6.below h1.bel))
theorem bask_pageNo (h : SB w0 L X sb a b lm w) (hE : ErrsAt vs vr w0) (hE6 : E6 A w0) (hl : lm ≤ 7) (hab : lm ≤ (a : Int) + (b : Int)) (hn : L.n = 6) (hb : L.b.n = 12) : Calls Tryz.prog 37 #[(Value.agg #[.int .i64 8, .int .i64 1, .int .i64 0, .int .i64 0, .int .u32 0]), .int .u32 1, .int .u32 0, .pointer (some ⟨sb, 0, none⟩)] w fun e w' => e = .returned (.agg (noteW 6 0 0).toArray) ∧ SB w0 L X sb a b lm w' ∧ UpT L.T w w' := by
  have hlt := h.lts
  obtain ⟨q0, hq⟩ := h.pkey0 hb
  exact askB_1 (noteW_len 6 0 0) (noteW_one 6 0 0) X.s L.T L.P 1 0 (by decide) (by decide) 0 0 q0 0 0 0 0 (eV (A 4)) w hlt.1 h.s0 vs vr (hE.below h.bel) h.p3 (fun W W' h1 hb => h1.low hb hlt) (fun W h1 => h1.p3) (by decide) (fun W hW => (h.below hW).live hn 1 (.inr rfl)) (fun W hW => (h.below hW).pageNo hl hab _ ((hE6.below (h.below hW).bel).c _ (by decide))) (fun W h1 => hq W h1) (fun W h1 _ _ => otold_limit ([.int .u32 0, .int .u32 0, .int .u32 0, .int .u32 0, .int .i64 q0, .int .i64 0, .int .i64 0, .int .i64 0, .int .u32 0, .int .i64 0, .int .i64 0, .int .i64 0, .int .i64 0, .int .u32 0, .int .i64 0, .int .i64 0, .int .i64 0, .int .i64 0, .int .u32 0]) A W (hE6.below h1.bel))
theorem bask_cnt (h : SB w0 L X sb a b lm w) (hE : ErrsAt vs vr w0) (hl0 : 0 ≤ lm) (hl : lm ≤ 7) (hn : L.n = 6) : Calls Tryz.prog 37 #[(Value.agg #[.int .i64 8, .int .i64 1, .int .i64 0, .int .i64 0, .int .u32 0]), .int .u32 5, .int .u32 0, .pointer (some ⟨sb, 0, none⟩)] w fun e w' => e = .returned (.agg (noteW 0 ((a : Int) + (b : Int)) lm).toArray) ∧ SB w0 L X sb a b lm w' ∧ UpT L.T w w' := by
  have hlt := h.lts
  have hab : a + b ≤ 10 := by obtain ⟨D, h2, h3⟩ := h; exact h3.ab
  refine askB (noteW_len 0 ((a : Int) + (b : Int)) lm) (noteW_one 0 ((a : Int) + (b : Int)) lm) X.s L.T 1 5 0 w hlt.1 h.s0 vs vr (hE.below h.bel) (fun W W' h1 hb => h1.low hb hlt) (by decide) (fun W hW => (h.below hW).live hn 1 (.inr rfl)) (fun cs hc W hW => ?_)
  refine (cbank_5 ((a : Int) + (b : Int)) lm (by omega) (by omega) hl0 (by omega) hc W (h.below hW).p3 (fun V hV => ?_) (fun V hV => ?_)).mono (fun e w' h1 => ⟨h1.1, ⟨h.below (hW.trans (h1.2.mono hW.size)), UpT.below (hW.trans (h1.2.mono hW.size))⟩, UpT.below h1.2⟩)
  · obtain ⟨D, h2, h3⟩ := h.below (hW.trans (hV.mono hW.size))
    exact bused_is 1 1 _ (Lib.hid rfl) (by rw [h3.nb]; decide) h2.k.nn (Lib.hid h3.u1) V h2.k.kk
  · obtain ⟨D, h2, h3⟩ := h.below (hW.trans (hV.mono hW.size))
    exact blimit_is 1 1 _ (Lib.hid rfl) (by rw [h3.nb]; decide) h2.k.nn (Lib.hid h3.l1) V h2.k.kk
theorem bask_root (h : EB w0 L X sb w) (hE : ErrsAt vs vr w0) (hn : L.n = 6) : Calls Tryz.prog 37 #[(Value.agg #[.int .i64 8, .int .i64 0, .int .i64 0, .int .i64 0, .int .u32 0]), .int .u32 5, .int .u32 0, .pointer (some ⟨sb, 0, none⟩)] w fun e w' => e = .returned (.agg (noteW 0 0 20).toArray) ∧ EB w0 L X sb w' ∧ UpT L.T w w' := by
  have hlt := h.lts
  refine askB (noteW_len 0 0 20) (noteW_one 0 0 20) X.s L.T 0 5 0 w hlt.1 h.s0 vs vr (hE.below h.bel) (fun W W' h1 hb => h1.low hb hlt) (by decide) (fun W hW => (h.below hW).live hn 0 true (.inl ⟨rfl, rfl⟩)) (fun cs hc W hW => ?_)
  refine (cbank_5 0 20 (by decide) (by decide) (by decide) (by decide) hc W (h.below hW).p3 (fun V hV => ?_) (fun V hV => ?_)).mono (fun e w' h1 => ⟨h1.1, ⟨h.below (hW.trans (h1.2.mono hW.size)), UpT.below (hW.trans (h1.2.mono hW.size))⟩, UpT.below h1.2⟩)
  · obtain ⟨D, h2⟩ := h.below (hW.trans (hV.mono hW.size))
    exact bused_gen 0 0 0 (Lib.hid rfl) (by rw [hn]; decide) (Lib.hid rfl) (Lib.hid h2.u0) V h2.k.kk
  · obtain ⟨D, h2⟩ := h.below (hW.trans (hV.mono hW.size))
    exact blimit_gen 0 0 20 (Lib.hid rfl) (by rw [hn]; decide) (Lib.hid rfl) (Lib.hid h2.l0) V h2.k.kk
theorem right_low (k i : Int) (hk : k = 2 ∨ k = 3) (hi0 : 0 ≤ i) (hi1 : i ≤ 10) : rightB k i 0 0 0 = true := by
  obtain ⟨n, rfl⟩ : ∃ n : Nat, i = n := ⟨i.toNat, by omega⟩
  have hn : n ≤ 10 := by omega
  match n, hn with
  | 0, _ | 1, _ | 2, _ | 3, _ | 4, _ | 5, _ | 6, _ | 7, _ | 8, _ | 9, _ | 10, _ => rcases hk with rfl | rfl <;> decide
theorem bask_gone (h : EB w0 L X sb w) (hE : ErrsAt vs vr w0) (k i : Int) (hk : k = 2 ∨ k = 3) (hi0 : 0 ≤ i) (hi1 : i ≤ 10) : Calls Tryz.prog 37 #[.agg #[.int .i64 k, .int .i64 i, .int .i64 0, .int .i64 0, .int .u32 0], .int .u32 0, .int .u32 0, .pointer (some ⟨sb, 0, none⟩)] w fun e w' => e = .returned (Value.agg #[.int .u32 1, .int .u32 0, .int .u32 0, .int .u32 0, .int .i64 0, .int .i64 0, .int .i64 0, .int .i64 0, .int .u32 0, .int .i64 0, .int .i64 0, .int .i64 0, .int .i64 0, .int .u32 0, .int .i64 0, .int .i64 0, .int .i64 0, .int .i64 0, .int .u32 0]) ∧ Below w.heap.size w w' :=
  askD k i 0 0 0 X.s 0 0 w h.s0 vs vr (hE.below h.bel) (right_low k i hk hi0 hi1) (fun W hW => (h.below hW).dead k i hk)
theorem bask_bank (h : EB w0 L X sb w) (hE : ErrsAt vs vr w0) (hn : L.n = 6) : Calls Tryz.prog 37 #[(Value.agg #[.int .i64 8, .int .i64 1, .int .i64 0, .int .i64 0, .int .u32 0]), .int .u32 5, .int .u32 0, .pointer (some ⟨sb, 0, none⟩)] w fun e w' => e = .returned (Value.agg #[.int .u32 1, .int .u32 0, .int .u32 0, .int .u32 0, .int .i64 0, .int .i64 0, .int .i64 0, .int .i64 0, .int .u32 0, .int .i64 0, .int .i64 0, .int .i64 0, .int .i64 0, .int .u32 0, .int .i64 0, .int .i64 0, .int .i64 0, .int .i64 0, .int .u32 0]) ∧ Below w.heap.size w w' :=
  askD 8 1 0 0 0 X.s 5 0 w h.s0 vs vr (hE.below h.bel) (by decide) (fun W hW => (h.below hW).live hn 1 false (.inr ⟨rfl, rfl⟩))
theorem bask_end (h : SB w0 L X sb a b lm w) (hE : ErrsAt vs vr w0) (hn : L.n = 6) (ha : L.a.n = 12) (hb : L.b.n = 12) : Calls Tryz.prog 37 #[(Value.agg #[.int .i64 8, .int .i64 1, .int .i64 0, .int .i64 0, .int .u32 0]), .int .u32 4, .int .u32 0, .pointer (some ⟨sb, 0, none⟩)] w fun e w' => e = .returned (.agg (noteW 0 ((a + b : Nat) : Int) 0).toArray) ∧ EB w0 L X sb w' ∧ UpT L.T w w' := by
  have hlt := h.lts
  obtain ⟨D, h2, h3⟩ := h
  have hab := h3.ab
  have h0 : SB w0 L X sb a b lm w := ⟨D, h2, h3⟩
  have hQ : ∀ w1 w2, (EB w0 L X sb w1 ∧ UpT L.T w w1) → Below w.heap.size w1 w2 → (EB w0 L X sb w2 ∧ UpT L.T w w2) := fun w1 w2 hq hb => ⟨hq.1.low hb hlt, hq.2.low hb (Nat.le_refl _)⟩
  refine askB (noteW_len 0 ((a + b : Nat) : Int) 0) (noteW_one 0 ((a + b : Nat) : Int) 0) X.s L.T 1 4 0 w hlt.1 h2.s vs vr (hE.below h2.k.bel) (fun W W' h1 hb => h1.low hb hlt) (by decide) (fun W hW => (h0.below hW).live hn 1 (.inr rfl)) (fun cs hc W hW => ?_)
  refine cbank_4 (Q := fun w' => EB w0 L X sb w' ∧ UpT L.T w w') (noteW_len 0 ((a + b : Nat) : Int) 0) (noteW_one 0 ((a + b : Nat) : Int) 0) hc W hW.size hQ (fun V hV => ?_)
  have hWV := hW.trans (hV.mono hW.size)
  have h4 := h2.below hWV
  have hk := h4.k.kk
  rw [h3.nb] at hk
  refine (oend_is (Q := fun w' => EB w0 L X sb w' ∧ UpT L.T w w') L.p L.n (fun i => decide (i < 2) && (chL D.pr (i : Int)).contains ((1 : Nat) : Int)) ((a + b : Nat) : Int) (by omega) (by omega) (by rw [hn]; decide) hc V hWV.size h4.b.c3 h4.k.kk.f0 hQ (fun Z hq => hq.1.p3) (fun Z hZ => ?_) (fun i hi Z hZ => ?_) (fun i hi ht Z hZ => ?_) (fun Z hZ => ?_)).mono (fun e w' h9 => h9)
  · exact acap_is Z (h4.below hZ).k.kk.ar
  · have h5 := h4.below hZ
    have hk5 := h5.k.kk
    rw [h3.nb] at hk5
    by_cases hi2 : i < 2
    · exact bwithin_is (i : Int) ((1 : Nat) : Int) _ (by omega) (by omega) (by rw [hn]; decide) (Lib.hid h3.pk) (Lib.hid (by rw [decide_eq_true hi2]; rfl)) Z hk5
    · rw [decide_eq_false hi2]
      exact bwithin_out i ((1 : Nat) : Int) (by omega) hi Z hk5
  · have h5 := h4.below hZ
    have hi2 : i < 2 := by
      simp only [Bool.and_eq_true, decide_eq_true_eq] at ht
      exact ht.1
    refine odoms_is (L := L) (D := D) i ?_ (Lib.hid (h3.kinds i)) hc Z h5.k.tw h5.b.c3 (fun U hU => bowned_is (D := D) i (by rw [h3.nb]; exact hi2) h3.ow U (h5.below hU).k)
    have l1 := oks_len D.nt D.o1 i L.a.n
    have l2 := oks_len D.pt D.o2 i L.b.n
    have l3 := oks_len D.dt D.o3 i L.dn
    have := h5.k.dn256
    unfold ownN
    omega
  · have hVZ := hWV.trans (hZ.mono hWV.size)
    refine ((h0.below hVZ).end_ ha hb hn).mono ?_
    rintro e w' ⟨he, hB, hu⟩
    exact ⟨he, ⟨hB, (UpT.below hVZ).trans hu⟩, ⟨hu.1, fun k x y => hu.2 k (Nat.le_trans hlt.1 x) y⟩⟩
end
end Go.Proofs.YtncopdhhchmpeaaGreatDoor
namespace Go.Proofs.YtncopdhhchmpeaaGreatDoor
open Go.ChangeShapes Go.WideShapes Go.ChangeAt Go.RowKit
set_option linter.unusedVariables false
set_option linter.unusedSimpArgs false
theorem answer_none (s : Nat) (vs vr : Value) (W : World) (hE : ErrsAt vs vr W) : Calls Tryz.prog 32 #[.pointer (some ⟨s, 0, none⟩), (Value.agg #[.int .i64 0, .int .i64 0, .int .i64 0, .int .i64 0, .int .u32 0]), .agg #[.int .u32 0, .int .u32 0, .int .u32 0, .int .u32 0, .int .i64 0, .int .i64 0, .int .i64 0, .int .i64 0, .int .u32 0, .int .i64 0, .int .i64 0, .int .i64 0, .int .i64 0, .int .u32 0, .int .i64 0, .int .i64 0, .int .i64 0, .int .i64 0, .int .u32 0]] W fun e w' => e = .returned (.tuple #[(Value.agg #[.int .u32 1, .int .u32 0, .int .u32 0, .int .u32 0, .int .i64 0, .int .i64 0, .int .i64 0, .int .i64 0, .int .u32 0, .int .i64 0, .int .i64 0, .int .i64 0, .int .i64 0, .int .u32 0, .int .i64 0, .int .i64 0, .int .i64 0, .int .i64 0, .int .u32 0]), .bool true]) ∧ Below W.heap.size W w' := by
  refine (oanswer (Q := fun w' => Below W.heap.size W w') (N := W.heap.size) (nt := [.int .u32 1, .int .u32 0, .int .u32 0, .int .u32 0, .int .i64 0, .int .i64 0, .int .i64 0, .int .i64 0, .int .u32 0, .int .i64 0, .int .i64 0, .int .i64 0, .int .i64 0, .int .u32 0, .int .i64 0, .int .i64 0, .int .i64 0, .int .i64 0, .int .u32 0]) rfl (by simp [Value.oneCell']) s 0 0 0 0 0 0 0 0 0 0 0 0 0 0 0 0 0 0 0 0 0 0 0 0 0 0 0 0 0 0 0 0 0 0 0 0 0 0 0 0 0 0 0 0 (by decide) (by decide) W (Nat.le_refl _) (fun w1 w2 h1 h2 => h1.trans h2) ?_ ?_ ?_ ?_ ?_).mono (fun e w' h9 => ⟨h9.1, h9.2.1⟩)
  · exact fun V hV => oseen_void s vs vr V (hE.below hV)
  · exact fun V hV => oseen_void s vs vr V (hE.below hV)
  · exact fun V hV => oseen_void s vs vr V (hE.below hV)
  · exact fun V hV => oseen_void s vs vr V (hE.below hV)
  · exact fun V hV => (oanswer_void (Lib.hid (c25_call s 0 0 0 0 0 0 0 0 0 0 0 0 0 0 0 0 0 0 0 0 0 0 0 0)) V).mono (fun e w' h9 => ⟨h9.1, hV.trans (h9.2.mono hV.size), UpT.below h9.2⟩)
/-- A note as a list of cells. -/
structure NtC (nt : List Value) (o a : Int) : Prop where
  len : nt.length = 19
  one : ∀ v, v ∈ nt → v.oneCell' = true
  c0 : nt[0]? = some (.int .u32 o)
  c1 : nt[1]? = some (.int .u32 a)
theorem answer_none2 : ∃ nt, NtC nt 1 0 ∧ ∀ (s : Nat) (vs vr : Value) (W : World), ErrsAt vs vr W → Calls Tryz.prog 32 #[.pointer (some ⟨s, 0, none⟩), (Value.agg #[.int .i64 0, .int .i64 0, .int .i64 0, .int .i64 0, .int .u32 0]), .agg #[.int .u32 0, .int .u32 0, .int .u32 0, .int .u32 0, .int .i64 0, .int .i64 0, .int .i64 0, .int .i64 0, .int .u32 0, .int .i64 0, .int .i64 0, .int .i64 0, .int .i64 0, .int .u32 0, .int .i64 0, .int .i64 0, .int .i64 0, .int .i64 0, .int .u32 0]] W fun e w' => e = .returned (.tuple #[.agg nt.toArray, .bool true]) ∧ Below W.heap.size W w' :=
  ⟨[.int .u32 1, .int .u32 0, .int .u32 0, .int .u32 0, .int .i64 0, .int .i64 0, .int .i64 0, .int .i64 0, .int .u32 0, .int .i64 0, .int .i64 0, .int .i64 0, .int .i64 0, .int .u32 0, .int .i64 0, .int .i64 0, .int .i64 0, .int .i64 0, .int .u32 0], ⟨rfl, by simp [Value.oneCell'], rfl, rfl⟩, answer_none⟩
set_option maxRecDepth 100000 in
set_option maxHeartbeats 2000000 in
theorem first22_is (vs vr : Value) (w : World) (hE : ErrsAt vs vr w) : Calls Tryz.prog 27 #[] w fun e w' => e = .returned (.bool true) ∧ Below w.heap.size w w' := by
  have HE := Lib.hid hE
  clear hE
  obtain ⟨nt, hN, hAn⟩ := answer_none2
  have HN := Lib.hid hN
  have HAn := Lib.hid hAn
  have hsz : nt.toArray.size = 19 := by simp [hN.len]
  clear hN hAn
  go_enter Tryz.func27, Tryz.ntmps27
  go_upto_region 4 with (first
    | (go_at_call 11; (with_reducible refine (script_ok _).mono ?_); rintro e w1 ⟨L, X, x, rfl, hs, -, hb⟩; have HB1 := Lib.hid hb; clear hs hb))
  have HA1 := Lib.hid (HAn.out X.s vs vr w1 (HE.out.below HB1.out))
  go_upto_region 5 with (first
    | (go_at_call 32; (with_reducible refine HA1.out.mono ?_); rintro e w2 ⟨rfl, hb⟩; have HB2 := Lib.hid (HB1.out.trans (hb.mono HB1.out.size)); clear hb)
    | (refine wpList_store_mid (by rfl) _ _ _ (by rfl) w2.heap.size 0 nt.toArray (by rfl) (by rfl) (by rw [hsz]; exact nthere_new _ _ 19 (by rfl) _) (by rw [hsz]; exact infoNote) (all_one HN.out.one) ?_))
  generalize hA : World.setCells _ w2.heap.size 0 _ = w3
  obtain ⟨Y, hY⟩ : ∃ Y, Y = w2.heap.size := ⟨_, rfl⟩
  have H3 : Hid (Below w.heap.size w w3 ∧ w3.rangeAt Y 0 nt) := Lib.hid (by rw [← hA, hY]; exact ⟨nbelow_cells (HB2.out.alloc HB2.out.size _) HB2.out.size _ _, World.rangeAt_setCells_same _ w2.heap.size 0 nt (by rw [HN.out.len]; exact nthere_new _ _ 19 (by rfl) _)⟩)
  rw [← hY]
  clear hA hY
  have q0 := CallC.cell H3.out.2 0 _ HN.out.c0
  go_wp2_with fail
  go_ret
  exact ⟨rfl, H3.out.1⟩
end Go.Proofs.YtncopdhhchmpeaaGreatDoor
namespace Go.Proofs.YtncopdhhchmpeaaGreatDoor
open Go.RowKit
theorem andN (x : Int) (m : Nat) (hm : m < 256) : bits BinOp.and IntKind.i64 x (m : Int) = (((BitVec.ofInt 64 x).toNat &&& m : Nat) : Int) := by
  show IntKind.i64.wrap ((BitVec.ofInt 64 x &&& BitVec.ofInt 64 (m : Int)).toNat : Int) = _
  rw [BitVec.toNat_and, BitVec.ofInt_natCast, BitVec.toNat_ofNat, Nat.mod_eq_of_lt (a := m) (by omega)]
  have : (BitVec.ofInt 64 x).toNat &&& m ≤ m := Nat.and_le_right
  rw [IntKind.wrap_i64]
  omega
end Go.Proofs.YtncopdhhchmpeaaGreatDoor
namespace Go.Proofs.YtncopdhhchmpeaaGreatDoor
open Go.ChangeShapes Go.WideShapes Go.ChangeAt Go.RowKit
set_option linter.unusedVariables false
set_option linter.unusedSimpArgs false
/-- A note, and what is seen of it. -/
structure NF (nt : List Value) (o k i : Int) : Prop where
  len : nt.length = 19
  one : ∀ v, v ∈ nt → v.oneCell' = true
  c0 : nt[0]? = some (.int .u32 o)
  c4 : nt[4]? = some (.int .i64 k)
  c5 : nt[5]? = some (.int .i64 i)
  c6 : nt[6]? = some (.int .i64 0)
  c7 : nt[7]? = some (.int .i64 0)
  c8 : nt[8]? = some (.int .u32 0)
theorem noteK_f (k i : Int) : NF (noteK k i) 0 k i := ⟨rfl, noteK_one k i, rfl, rfl, rfl, rfl, rfl, rfl⟩
theorem noteW_f (o : Int) : NF (noteW o 0 0) o 0 0 := ⟨rfl, noteW_one o 0 0, rfl, rfl, rfl, rfl, rfl, rfl⟩
/-- Keys that were taken. -/
def KeysOk (ys : List (Nat × Nat × Int)) : Prop := ∀ y, y ∈ ys → (y.1 = 2 ∨ y.1 = 3) ∧ y.2.1 ≤ 10 ∧ y.2.2 = 0
/-- The boxes and the row of ObjectBanks. -/
structure LRb (w : World) (L : BLoc) (X : SLoc) (kB bB base : Nat) (lv : Value) (m : Nat) (ys : List (Nat × Nat × Int)) : Prop where
  k : KeyC w kB 8 0 0 0 0
  b : w.rangeAt bB 0 (noteK 8 1)
  row : w.ownsRow base 42 5 lv m (keyL ys)
  len : ys.length = m
  ok : KeysOk ys
  lo : L.T ≤ kB ∧ L.T ≤ bB ∧ L.T ≤ base ∧ base ≤ w.heap.size
/-- All of it lies below N. -/
structure LNb (N : Nat) (kB bB : Nat) (lv : Value) : Prop where
  k : kB < N
  b : bB < N
  r : ∀ g, lv.ownBlock = some g → g < N
section
variable {w0 w w' : World} {L : BLoc} {X : SLoc} {sb a b kB bB base m : Nat} {lm : Int} {lv : Value} {ys : List (Nat × Nat × Int)} {vs vr : Value} {A : Nat → Addr}
theorem LRb.ln (h : LRb w L X kB bB base lv m ys) : LNb w.heap.size kB bB lv := ⟨h.k.lt, cell_lt (CallC.cell h.b 0 _ rfl), fun g hg => (h.row.lt g hg).2⟩
theorem LRb.low {N : Nat} (h : LRb w L X kB bB base lv m ys) (hb : Below N w w') (hN : LNb N kB bB lv) : LRb w' L X kB bB base lv m ys :=
  ⟨h.k.same' hb.size (hb.block _ hN.k), range_same h.b (hb.block _ hN.b), row_same' h.row (fun g hg => hb.block g (hN.r g hg)), h.len, h.ok, ⟨h.lo.1, h.lo.2.1, h.lo.2.2.1, Nat.le_trans h.lo.2.2.2 hb.size⟩⟩
theorem LRb.below (h : LRb w L X kB bB base lv m ys) (hb : Below w.heap.size w w') : LRb w' L X kB bB base lv m ys := h.low hb h.ln
theorem LRb.up (h : LRb w L X kB bB base lv m ys) (hu : UpT L.T w w') : LRb w' L X kB bB base lv m ys :=
  ⟨h.k.upt hu h.lo.1, range_same h.b (hu.2 _ h.lo.2.1 h.ln.b), row_same' h.row (fun g hg => hu.2 g (Nat.le_trans h.lo.2.2.1 (h.row.lt g hg).1) (h.row.lt g hg).2), h.len, h.ok, ⟨h.lo.1, h.lo.2.1, h.lo.2.2.1, Nat.le_trans h.lo.2.2.2 hu.1⟩⟩
theorem LNb.mono {N M : Nat} (h : LNb N kB bB lv) (hl : N ≤ M) : LNb M kB bB lv := ⟨Nat.lt_of_lt_of_le h.k hl, Nat.lt_of_lt_of_le h.b hl, fun g hg => Nat.lt_of_lt_of_le (h.r g hg) hl⟩
theorem LRb.at {a2 : Option Addr} {c2 : Nat} (h : LRb w L X kB bB base (.slice a2 m c2) m ys) (j : Nat) (hj : j < m) : ∃ (g k i : Nat), a2 = some ⟨g, 0, none⟩ ∧ (k = 2 ∨ k = 3) ∧ i ≤ 10 ∧ KeyJ w g j (k, i, 0) := by
  obtain ⟨a, c, hv, hr⟩ := key_row h.row
  obtain ⟨g, hg, -, -, hc⟩ := hr (by omega)
  have e : a2 = a := by injection hv
  obtain ⟨y, hy⟩ := at_some (l := ys) (j := j) (by rw [h.len]; exact hj)
  have hk := keyL_at _ _ _ hy
  obtain ⟨k, i, z⟩ := y
  obtain ⟨h1, h2, h3⟩ := h.ok _ (List.mem_of_getElem? hy)
  simp only at h1 h2 h3
  subst h3
  exact ⟨g, k, i, by rw [e, hg], h1, h2, ⟨(hc _ (by omega)).trans hk.1, (hc _ (by omega)).trans hk.2.1, (hc _ (by omega)).trans hk.2.2.1, (hc _ (by omega)).trans hk.2.2.2.1, (hc _ (by omega)).trans hk.2.2.2.2⟩⟩
/-- What a take answers. -/
theorem bask_take (t : Int) (ht : t = 0 ∨ t = 1) (hE : ErrsAt vs vr w0) (hl : lm ≤ 7) (hlt : (a : Int) + (b : Int) < lm) (hn : L.n = 6) (ha : L.a.n = 12) (hb : L.b.n = 12) :
    ∃ (nt : List Value) (a' b' i : Nat), NF nt 0 (2 + t) i ∧ i ≤ 7 ∧ a' + b' = a + b + 1 ∧ ∀ w, SB w0 L X sb a b lm w → Calls Tryz.prog 37 #[(Value.agg #[.int .i64 8, .int .i64 1, .int .i64 0, .int .i64 0, .int .u32 0]), .int .u32 t, .int .u32 0, .pointer (some ⟨sb, 0, none⟩)] w fun e w' => e = .returned (.agg nt.toArray) ∧ SB w0 L X sb a' b' lm w' ∧ UpT L.T w w' := by
  rcases ht with rfl | rfl
  · exact ⟨noteK 2 a, a + 1, b, a, noteK_f 2 a, by omega, by omega, fun w h => bask_node h hE hl hlt hn ha⟩
  · exact ⟨noteK 3 b, a, b + 1, b, noteK_f 3 b, by omega, by omega, fun w h => bask_page h hE hl hlt hn hb⟩
theorem bask_full (t : Int) (ht : t = 0 ∨ t = 1) (hE : ErrsAt vs vr w0) (hE6 : E6 A w0) (hl : lm ≤ 7) (hlt : lm ≤ (a : Int) + (b : Int)) (hn : L.n = 6) (ha : L.a.n = 12) (hb : L.b.n = 12) :
    ∀ w, SB w0 L X sb a b lm w → Calls Tryz.prog 37 #[(Value.agg #[.int .i64 8, .int .i64 1, .int .i64 0, .int .i64 0, .int .u32 0]), .int .u32 t, .int .u32 0, .pointer (some ⟨sb, 0, none⟩)] w fun e w' => e = .returned (.agg (noteW 6 0 0).toArray) ∧ SB w0 L X sb a b lm w' ∧ UpT L.T w w' := by
  rcases ht with rfl | rfl
  · exact fun w h => bask_nodeNo h hE hE6 hl hlt hn ha
  · exact fun w h => bask_pageNo h hE hE6 hl hlt hn hb
theorem and1_in (x : Int) : ∃ t : Int, (t = 0 ∨ t = 1) ∧ bits BinOp.and IntKind.i64 x 1 = t := by
  refine ⟨_, ?_, andN x 1 (by decide)⟩
  have : ((BitVec.ofInt 64 x).toNat &&& 1) ≤ 1 := Nat.and_le_right
  omega
theorem keyL_snoc (ys : List (Nat × Nat × Int)) (y : Nat × Nat × Int) : keyL (ys ++ [y]) = keyL ys ++ [.int .i64 (y.1 : Int), .int .i64 (y.2.1 : Int), .int .i64 y.2.2, .int .i64 0, .int .u32 0] := by simp [keyL]
end
end Go.Proofs.YtncopdhhchmpeaaGreatDoor
namespace Go.Proofs.YtncopdhhchmpeaaGreatDoor
open Go.ChangeShapes Go.WideShapes Go.ChangeAt Go.RowKit
set_option linter.unusedVariables false
set_option linter.unusedSimpArgs false
set_option maxRecDepth 100000 in
theorem banks_big (x0 : Int) (a : Option Addr) (len cap : Nat) (h : 10 < len) (vs vr : Value) (w : World) (hE : ErrsAt vs vr w) :
    Calls Tryz.prog 6 #[.int .u32 x0, .slice a len cap] w fun e w' => e = .returned (.bool true) ∧ Below w.heap.size w w' := by
  have d1 : decide ((10 : Int) < (len : Int)) = true := by simp; omega
  have HE := Lib.hid hE
  clear hE
  go_enter Tryz.func6, Tryz.ntmps6
  go_wp2_with (first | (go_at_call 27; (with_reducible refine (first22_is vs vr _ HE.out).mono ?_); rintro e w1 ⟨rfl, hb1⟩; have HB1 := Lib.hid hb1; clear hb1))
  go_ret
  exact ⟨rfl, HB1.out⟩
theorem bcells {w : World} {bB : Nat} (h : w.rangeAt bB 0 (noteK 8 1)) : World.cell? w ⟨bB, 4, none⟩ = some (.int .i64 8) ∧ World.cell? w ⟨bB, 5, none⟩ = some (.int .i64 1) ∧ World.cell? w ⟨bB, 6, none⟩ = some (.int .i64 0) ∧ World.cell? w ⟨bB, 7, none⟩ = some (.int .i64 0) ∧ World.cell? w ⟨bB, 8, none⟩ = some (.int .u32 0) :=
  ⟨CallC.cell h 4 _ rfl, CallC.cell h 5 _ rfl, CallC.cell h 6 _ rfl, CallC.cell h 7 _ rfl, CallC.cell h 8 _ rfl⟩
set_option maxRecDepth 100000 in
set_option maxHeartbeats 4000000 in
theorem banks_walk (x0 lm : Int) (a1 : Option Addr) (len cap : Nat) (zs : List Int) (hlm : Hid (Int.tmod x0 8 = lm)) (hl0 : 0 ≤ lm) (hl1 : lm ≤ 7) (hlen : len ≤ 10) (w : World) (ha0 : a1 = none → len = 0) (hN : Nums w a1 len zs) (vs vr : Value) (hE : ErrsAt vs vr w) (A : Nat → Addr) (hE6 : E6 A w) :
    Calls Tryz.prog 6 #[.int .u32 x0, .slice a1 len cap] w fun e w' => e = .returned (.bool true) ∧ Below w.heap.size w w' := by
  have HE := Lib.hid hE
  have HE6 := Lib.hid hE6
  have HNu := Lib.hid hN
  have HA0 := Lib.hid ha0
  have d1 : decide ((10 : Int) < (len : Int)) = false := decide_eq_false (by omega)
  clear hE hE6 hN ha0
  go_enter Tryz.func6, Tryz.ntmps6
  go_upto_region 6 with (first
    | (go_at_call 27; (with_reducible refine (first22_is vs vr _ HE.out).mono ?_); rintro e w1 ⟨rfl, hb1⟩; have HB1 := Lib.hid hb1; clear hb1))
  go_upto_region 7 with (first
    | (go_at_call 11; (with_reducible refine (script_ok _).mono ?_); rintro e w2 ⟨L, X, x, rfl, hs, hn, hb⟩; have HSy := Lib.hid hs.sj; have HN := Lib.hid hn.out; clear hs hn hb))
  generalize hA : World.alloc w2 _ = w3
  obtain ⟨sb, hsb⟩ : ∃ sb, sb = w2.heap.size := ⟨_, rfl⟩
  have H3 : Hid (BQ w1 w3 L X sb st0) := Lib.hid (by
    have hb : Below w2.heap.size w2 w3 := by rw [← hA]; exact (Below.refl _ _).alloc (Nat.le_refl _) _
    have h := HSy.out.below hb
    exact ⟨h.k, h.b, by rw [← hA, hsb]; simp, ⟨h.lo.1, by rw [hsb]; exact HSy.out.k.tw⟩⟩)
  rw [← hsb]
  clear hA hsb
  have HE1 := Lib.hid (HE.out.below HB1.out)
  have HE61 := Lib.hid (HE6.out.below HB1.out)
  have hLn := HN.out.2.2.2.2.1
  have hLa := HN.out.1
  have hLb := HN.out.2.1
  have sc := H3.out.s
  have sd := H3.out.b.c3
  go_upto_region 11 with (first
    | (go_at_call 12; (with_reducible refine (bwroot_ok (D := st0) 20 (by decide) (by decide) 0 (Lib.hid rfl) (by rw [hLn]; decide) _ H3.out.k).mono ?_); rintro e w4 ⟨rfl, hW, hu⟩; have H4 : Hid (BQ w1 w4 L X sb gD20) := Lib.hid (H3.out.step hW hu); clear hW hu))
  rw [hlm.out]
  clear sc sd
  have sc := H4.out.s
  have HKy : Hid (Calls Tryz.prog 16 #[.pointer (some ⟨X.s, 0, none⟩), .int .i64 8, .int .i64 0] w4 fun e w' => e = .returned (.agg #[.int .i64 8, .int .i64 0, .int .i64 0, .int .i64 0, .int .u32 0]) ∧ Below w4.heap.size w4 w') := Lib.hid (skey_bank 0 0 L.p w4 H4.out.b H4.out.k.kk.f0 (fun V hV => aver_in (n := L.n) (vr := fun _ => 0) 0 (by rw [hLn]; decide) 0 (Lib.hid rfl) V (H4.out.below hV).k.kk.ar) (fun V hV => slive_bank 0 0 0 0 L.p L.B L.n L.c L.bB (thN 1) (fun _ => 0) true (Lib.hid (by rw [hLn]; rfl)) V (H4.out.below hV).b (H4.out.below hV).k.kk.f0 (H4.out.below hV).k.kk.ar))
  go_upto_region 12 with (first
    | (go_at_call 16; (with_reducible refine HKy.out.mono ?_); rintro e w5 ⟨rfl, hb⟩; have H5 := Lib.hid (H4.out.below hb); clear hb))
  generalize hA : World.alloc w5 _ = w6
  obtain ⟨kB, hkB⟩ : ∃ kB, kB = w5.heap.size := ⟨_, rfl⟩
  have H6 : Hid (BQ w1 w6 L X sb gD20 ∧ KeyC w6 kB 8 0 0 0 0 ∧ L.T ≤ kB) := Lib.hid (by
    have hb : Below w5.heap.size w5 w6 := by rw [← hA]; exact (Below.refl _ _).alloc (Nat.le_refl _) _
    exact ⟨H5.out.below hb, by rw [← hA, hkB]; exact KeyC.new w5 8 0 0 0 0 _, by rw [hkB]; exact H5.out.k.tw⟩)
  rw [← hkB]
  clear hA hkB sc
  obtain ⟨q0, q1, q2, q3, q4⟩ := ofive H6.out.2.1
  go_upto_region 14 with (first
    | (go_at_call 37; (with_reducible refine (bask_sub (vs := vs) (vr := vr) H6.out.1 HE1.out hl0 hl1 hLn).mono ?_); rintro e w7 ⟨rfl, hs, hu⟩; have H7 : Hid (SB w1 L X sb 0 0 lm w7 ∧ KeyC w7 kB 8 0 0 0 0) := Lib.hid ⟨hs, H6.out.2.1.upt hu H6.out.2.2⟩; clear hs hu)
    | (refine wpList_store_mid (by rfl) _ _ _ (by rfl) w7.heap.size 0 (noteK 8 1).toArray (by rfl) (by rfl) (nthere_new _ _ 19 (by rfl) _) infoNote (all_one (noteK_one 8 1)) ?_))
  clear q0 q1 q2 q3 q4
  generalize hA : World.setCells _ w7.heap.size 0 _ = w8
  obtain ⟨bB, hbB⟩ : ∃ bB, bB = w7.heap.size := ⟨_, rfl⟩
  have H8 : Hid (SB w1 L X sb 0 0 lm w8 ∧ KeyC w8 kB 8 0 0 0 0 ∧ w8.rangeAt bB 0 (noteK 8 1) ∧ L.T ≤ bB) := Lib.hid (by
    have hb : Below w7.heap.size w7 w8 := by rw [← hA]; exact nbelow_cells ((Below.refl w7.heap.size w7).alloc (Nat.le_refl _) _) (Nat.le_refl _) _ _
    exact ⟨H7.out.1.below hb, H7.out.2.below hb, by rw [← hA, hbB]; exact World.rangeAt_setCells_same _ w7.heap.size 0 (noteK 8 1) (nthere_new _ _ 19 (by rfl) _), by rw [hbB]; exact H7.out.1.lts.1⟩)
  rw [← hbB]
  clear hA hbB
  have c0 := CallC.cell H8.out.2.2.1 0 _ (rfl : (noteK 8 1)[0]? = some (.int .u32 0))
  have c4 := CallC.cell H8.out.2.2.1 4 _ (rfl : (noteK 8 1)[4]? = some (.int .i64 8))
  have HR8 : Hid (LRb w8 L X kB bB w8.heap.size (.slice none 0 0) 0 []) := Lib.hid ⟨H8.out.2.1, H8.out.2.2.1, World.ownsRow_nil _ _ _ _, rfl, (fun y hy => by cases hy), ⟨H6.out.2.2, H8.out.2.2.2, H8.out.1.lts.1, Nat.le_refl _⟩⟩
  go_upto_region 16 with fail
  clear c0 c4
  go_wp2_with fail
  go_loopw [11, 12] (fun lv iv wr => ∃ (i a b m : Nat) (ys : List (Nat × Nat × Int)), i ≤ len ∧ iv = .int .i64 i ∧ SB w1 L X sb a b lm wr ∧ LRb wr L X kB bB w8.heap.size lv m ys ∧ m = a + b ∧ (m : Int) ≤ lm) (fun _ i _ => len - (intOf i).toNat)
  case atStart => exact ⟨0, 0, 0, 0, [], by omega, rfl, H8.out.1, HR8.out, rfl, hl0⟩
  case round =>
    obtain ⟨i, a, b, m, ys, hi, rfl, hS, hR, hm, hml⟩ := hrel
    have HS := Lib.hid hS
    have HR := Lib.hid hR
    have Hm := Lib.hid hm
    have hm7 : m ≤ 7 := by omega
    obtain ⟨a2, c2, hv, -⟩ := key_row hR.row
    subst hv
    clear hS hR hm
    by_cases hlt : i < len
    · obtain ⟨ad, rfl⟩ : ∃ ad, a1 = some ad := by
        cases a1 with
        | none => have := HA0.out rfl; omega
        | some x => exact ⟨x, rfl⟩
      obtain ⟨hadl, hcs⟩ := HNu.out ad rfl (by omega)
      obtain ⟨hz, -, -⟩ := hcs i hlt
      obtain ⟨z, hzz⟩ : ∃ z, Hid (zs.getD i 0 = z) := ⟨_, Lib.hid rfl⟩
      rw [hzz.out] at hz
      have hadb : (ad.add i).block = ad.block := add_block' ad i
      have HZ : Hid (∀ W, Below w1.heap.size w1 W → W.cell? (ad.add i) = some (.int .i64 z)) := Lib.hid (fun W hW => ((HB1.out.trans (hW.mono HB1.out.size)).cell (p := ad.add i) (by rw [hadb]; exact hadl)).trans hz)
      obtain ⟨t, ht, hbt⟩ := and1_in z
      obtain ⟨nt, o, k, ii, a', b', HNF, HAB, HAsk⟩ : ∃ (nt : List Value) (o k : Int) (ii a' b' : Nat), Hid (NF nt o k ii) ∧ Hid ((lm ≤ (m : Int) ∧ o = 6 ∧ a' = a ∧ b' = b) ∨ ((m : Int) < lm ∧ o = 0 ∧ k = 2 + t ∧ ii ≤ 7 ∧ a' + b' = a + b + 1)) ∧ Hid (∀ w, SB w1 L X sb a b lm w → Calls Tryz.prog 37 #[(Value.agg #[.int .i64 8, .int .i64 1, .int .i64 0, .int .i64 0, .int .u32 0]), .int .u32 t, .int .u32 0, .pointer (some ⟨sb, 0, none⟩)] w fun e w' => e = .returned (.agg nt.toArray) ∧ SB w1 L X sb a' b' lm w' ∧ UpT L.T w w') := by
        have hm2 := Hm.out
        by_cases hf : lm ≤ (m : Int)
        · exact ⟨noteW 6 0 0, 6, 0, 0, a, b, Lib.hid (noteW_f 6), Lib.hid (.inl ⟨hf, rfl, rfl, rfl⟩), Lib.hid (bask_full t ht HE1.out HE61.out hl1 (by omega) hLn hLa hLb)⟩
        · obtain ⟨nt, a', b', ii, h1, h2, h3, h4⟩ := bask_take (X := X) (sb := sb) (vs := vs) (vr := vr) t ht HE1.out hl1 (show (a : Int) + (b : Int) < lm by omega) hLn hLa hLb
          exact ⟨nt, 0, 2 + t, ii, a', b', Lib.hid h1, Lib.hid (.inr ⟨by omega, rfl, rfl, h2, h3⟩), Lib.hid h4⟩
      have hwt : IntKind.u32.wrap t = t := by rw [IntKind.wrap_u32]; omega
      have hsz : nt.toArray.size = 19 := by simp [HNF.out.len]
      have k0 : (0 : Int) ≤ i := by omega
      have k1 : (i : Int) < len := by omega
      have HLt := Lib.hid HS.out.lts
      have HLn := Lib.hid HR.out.ln
      clear hz hadl hcs
      go_upto_region 20 with fail
      go_cut [13] (fun v wx => ∃ AB, v = .pointer (some ⟨AB, 0, none⟩) ∧ SB w1 L X sb a' b' lm wx ∧ LRb wx L X kB bB w8.heap.size (.slice a2 m c2) m ys ∧ wx.rangeAt AB 0 nt ∧ L.T ≤ AB)
      case first =>
        obtain ⟨wD, hwD⟩ : ∃ wD, wD = wr.drew := ⟨_, rfl⟩
        have HBd : Hid (Below wr.heap.size wr wD) := Lib.hid (by rw [hwD]; exact (Below.refl _ _).drew)
        have HSD := Lib.hid (HS.out.below HBd.out)
        have HRD := Lib.hid (HR.out.below HBd.out)
        refine wp_region_noPanic ?_
        refine wp_region_held_drew (S := fun w' => ((World.cell? w' ⟨bB, 4, none⟩ = some (.int .i64 8) ∧ World.cell? w' ⟨bB, 5, none⟩ = some (.int .i64 1) ∧ World.cell? w' ⟨bB, 6, none⟩ = some (.int .i64 0) ∧ World.cell? w' ⟨bB, 7, none⟩ = some (.int .i64 0) ∧ World.cell? w' ⟨bB, 8, none⟩ = some (.int .u32 0)) ∧ World.cell? w' (ad.add i) = some (.int .i64 z))) (by kernel_rfl) (by rw [← hwD]; exact ⟨bcells HRD.out.b, HZ.out _ HSD.out.bel⟩) (fun hHeld => ?_)
        rw [← hwD] at hHeld ⊢
        clear hwD
        refine wpAnyH_take (i := 0) (v := ?_) (by rfl) (by kernel_rfl) (by kernel_rfl) (by kernel_rfl) (fun _ _ _ h => h) (Or.inl ⟨by kernel_rfl, ?_⟩) (by assumption) ?_; rotate_left 1; (focus (intro w hSw; (try dsimp only at hSw); simp only [List.getElem_toArray, List.getElem_cons_succ, List.getElem_cons_zero]; all_goals go_simp; all_goals (try with_reducible rfl))); (try simp only [Act.put, List.getElem_toArray, List.getElem_cons_succ, List.getElem_cons_zero, List.setIfInBounds_toArray, List.set_cons_zero, List.set_cons_succ])
        refine wpAnyH_take (i := 1) (v := ?_) (by rfl) (by kernel_rfl) (by kernel_rfl) (by kernel_rfl) (fun _ _ _ h => h) (Or.inl ⟨by kernel_rfl, ?_⟩) (by assumption) ?_; rotate_left 1; (focus (intro w hSw; (try dsimp only at hSw); simp only [List.getElem_toArray, List.getElem_cons_succ, List.getElem_cons_zero]; all_goals go_simp; all_goals (try with_reducible rfl))); (try simp only [Act.put, List.getElem_toArray, List.getElem_cons_succ, List.getElem_cons_zero, List.setIfInBounds_toArray, List.set_cons_zero, List.set_cons_succ])
        refine wpAnyH_take (i := 2) (v := ?_) (by rfl) (by kernel_rfl) (by kernel_rfl) (by kernel_rfl) (fun _ _ _ h => h) (Or.inl ⟨by kernel_rfl, ?_⟩) (by assumption) ?_; rotate_left 1; (focus (intro w hSw; (try dsimp only at hSw); simp only [List.getElem_toArray, List.getElem_cons_succ, List.getElem_cons_zero]; all_goals go_simp; all_goals (try with_reducible rfl))); (try simp only [Act.put, List.getElem_toArray, List.getElem_cons_succ, List.getElem_cons_zero, List.setIfInBounds_toArray, List.set_cons_zero, List.set_cons_succ])
        refine wpAnyH_take (i := 3) (v := ?_) (by rfl) (by kernel_rfl) (by kernel_rfl) (by kernel_rfl) (fun _ _ _ h => h) (Or.inl ⟨by kernel_rfl, ?_⟩) (by assumption) ?_; rotate_left 1; (focus (intro w hSw; (try dsimp only at hSw); simp only [List.getElem_toArray, List.getElem_cons_succ, List.getElem_cons_zero]; all_goals go_simp; all_goals (try with_reducible rfl))); (try simp only [Act.put, List.getElem_toArray, List.getElem_cons_succ, List.getElem_cons_zero, List.setIfInBounds_toArray, List.set_cons_zero, List.set_cons_succ])
        refine wpAnyH_take (i := 4) (v := ?_) (by rfl) (by kernel_rfl) (by kernel_rfl) (by kernel_rfl) (fun _ _ _ h => h) (Or.inl ⟨by kernel_rfl, ?_⟩) (by assumption) ?_; rotate_left 1; (focus (intro w hSw; (try dsimp only at hSw); simp only [List.getElem_toArray, List.getElem_cons_succ, List.getElem_cons_zero]; all_goals go_simp; all_goals (try with_reducible rfl))); (try simp only [Act.put, List.getElem_toArray, List.getElem_cons_succ, List.getElem_cons_zero, List.setIfInBounds_toArray, List.set_cons_zero, List.set_cons_succ])
        refine wpAnyH_take (i := 5) (v := ?_) (by rfl) (by kernel_rfl) (by kernel_rfl) (by kernel_rfl) (fun _ _ _ h => h) (Or.inl ⟨by kernel_rfl, ?_⟩) (by assumption) ?_; rotate_left 1; (focus (intro w hSw; (try dsimp only at hSw); simp only [List.getElem_toArray, List.getElem_cons_succ, List.getElem_cons_zero]; all_goals go_simp; all_goals (try with_reducible rfl))); (try simp only [Act.put, List.getElem_toArray, List.getElem_cons_succ, List.getElem_cons_zero, List.setIfInBounds_toArray, List.set_cons_zero, List.set_cons_succ])
        refine wpAnyH_take (i := 6) (v := ?_) (by rfl) (by kernel_rfl) (by kernel_rfl) (by kernel_rfl) (fun _ _ _ h => h) (Or.inl ⟨by kernel_rfl, ?_⟩) (by assumption) ?_; rotate_left 1; (focus (intro w hSw; (try dsimp only at hSw); simp only [List.getElem_toArray, List.getElem_cons_succ, List.getElem_cons_zero]; all_goals go_simp; all_goals (try with_reducible rfl))); (try simp only [Act.put, List.getElem_toArray, List.getElem_cons_succ, List.getElem_cons_zero, List.setIfInBounds_toArray, List.set_cons_zero, List.set_cons_succ])
        refine wpAnyH_take (i := 7) (v := ?_) (by rfl) (by kernel_rfl) (by kernel_rfl) (by kernel_rfl) (fun _ _ _ h => h) (Or.inl ⟨by kernel_rfl, ?_⟩) (by assumption) ?_; rotate_left 1; (focus (intro w hSw; (try dsimp only at hSw); simp only [List.getElem_toArray, List.getElem_cons_succ, List.getElem_cons_zero]; all_goals go_simp; all_goals (try with_reducible rfl))); (try simp only [Act.put, List.getElem_toArray, List.getElem_cons_succ, List.getElem_cons_zero, List.setIfInBounds_toArray, List.set_cons_zero, List.set_cons_succ])
        refine wpAnyH_take (i := 8) (v := ?_) (by rfl) (by kernel_rfl) (by kernel_rfl) (by kernel_rfl) (fun _ _ _ h => h) (Or.inl ⟨by kernel_rfl, ?_⟩) (by assumption) ?_; rotate_left 1; (focus (intro w hSw; (try dsimp only at hSw); simp only [List.getElem_toArray, List.getElem_cons_succ, List.getElem_cons_zero]; all_goals go_simp; all_goals (try with_reducible rfl))); (try simp only [Act.put, List.getElem_toArray, List.getElem_cons_succ, List.getElem_cons_zero, List.setIfInBounds_toArray, List.set_cons_zero, List.set_cons_succ])
        refine wpAnyH_take (i := 9) (v := ?_) (by rfl) (by kernel_rfl) (by kernel_rfl) (by kernel_rfl) (fun _ _ _ h => h) (Or.inl ⟨by kernel_rfl, ?_⟩) (by assumption) ?_; rotate_left 1; (focus (intro w hSw; (try dsimp only at hSw); simp only [List.getElem_toArray, List.getElem_cons_succ, List.getElem_cons_zero]; all_goals go_simp; all_goals (try with_reducible rfl))); (try simp only [Act.put, List.getElem_toArray, List.getElem_cons_succ, List.getElem_cons_zero, List.setIfInBounds_toArray, List.set_cons_zero, List.set_cons_succ])
        refine wpAnyH_ready (rs := [10, 11]) (by kernel_rfl) (by simp) ?_
        refine AllReadyH.cons (by rfl) (fun K hK => ?_) (AllReadyH.cons (by rfl) (fun K hK => ?_) AllReadyH.nil)
        · rw [if_pos (by kernel_rfl)]; simp only [List.getElem_toArray, List.getElem_cons_succ, List.getElem_cons_zero]
          go_wp2_with (first | (go_at_call 37; (with_reducible refine (HAsk.out _ HSD.out).mono ?_); rintro e w2 ⟨rfl, hs, hu⟩; have H2 : Hid (SB w1 L X sb a' b' lm w2 ∧ LRb w2 L X kB bB w8.heap.size (.slice a2 m c2) m ys) := Lib.hid ⟨hs, HRD.out.up hu⟩; clear hs hu))
          refine hK.out _ _ ⟨bcells H2.out.2.b, HZ.out _ H2.out.1.bel⟩ (fun hHeld => ?_)
          clear hK K
          (try simp only [Act.put, List.getElem_toArray, List.getElem_cons_succ, List.getElem_cons_zero, List.setIfInBounds_toArray, List.set_cons_zero, List.set_cons_succ])
          refine wpAnyH_ready (rs := [11]) (by kernel_rfl) (by simp) ?_; refine AllReadyH.cons (by rfl) (fun K hK => ?_) AllReadyH.nil; rw [if_pos (by kernel_rfl)]; simp only [List.getElem_toArray, List.getElem_cons_succ, List.getElem_cons_zero]
          go_wp2_with fail
          generalize hE' : World.alloc w2 _ = wE
          obtain ⟨AB, hAB⟩ : ∃ AB, AB = w2.heap.size := ⟨_, rfl⟩
          have HEa : Hid (Below w2.heap.size w2 wE ∧ World.there wE AB 0 19 ∧ w2.heap.size ≤ AB) := Lib.hid (by rw [← hE', hAB]; exact ⟨(Below.refl _ _).alloc (Nat.le_refl _) _, nthere_new _ _ 19 (by rfl) _, Nat.le_refl _⟩)
          rw [← hAB]
          clear hE' hAB
          refine hK.out _ _ ⟨bcells (H2.out.2.below HEa.out.1).b, HZ.out _ (H2.out.1.below HEa.out.1).bel⟩ (fun hHeld => ?_)
          clear hK K
          (try simp only [Act.put, List.getElem_toArray, List.getElem_cons_succ, List.getElem_cons_zero, List.setIfInBounds_toArray, List.set_cons_zero, List.set_cons_succ])
          refine wpAnyH_ready (rs := [12]) (by kernel_rfl) (by simp) ?_; refine AllReadyH.cons (by rfl) (fun K hK => ?_) AllReadyH.nil; rw [if_pos (by kernel_rfl)]; simp only [List.getElem_toArray, List.getElem_cons_succ, List.getElem_cons_zero]
          refine wp_store_mid 64 (Operand.tmp 13) (Operand.tmp 75) (by rfl) AB 0 nt.toArray (by rfl) (by rfl) (by rw [hsz]; exact HEa.out.2.1) (by rw [hsz]; exact infoNote) (all_one HNF.out.one) ?_
          generalize hF : World.setCells wE _ _ _ = wF
          have HF : Hid (Below w2.heap.size w2 wF ∧ wF.rangeAt AB 0 nt) := Lib.hid (by rw [← hF]; exact ⟨nbelow_cells HEa.out.1 HEa.out.2.2 _ _, World.rangeAt_setCells_same wE AB 0 nt (by rw [HNF.out.len]; exact HEa.out.2.1)⟩)
          clear hF
          refine hK.out _ _ ⟨bcells (H2.out.2.below HF.out.1).b, HZ.out _ (H2.out.1.below HF.out.1).bel⟩ (fun hHeld => ?_)
          clear hK K
          (try simp only [Act.put, List.getElem_toArray, List.getElem_cons_succ, List.getElem_cons_zero, List.setIfInBounds_toArray, List.set_cons_zero, List.set_cons_succ])
          refine wpAnyH_done (by kernel_rfl) ?_ _
          refine NoPanic.normal ?_
          go_wp2_with fail
          go_meet
          exact ⟨AB, rfl, H2.out.1.below HF.out.1, H2.out.2.below HF.out.1, HF.out.2, Nat.le_trans H2.out.1.lts.1 HEa.out.2.2⟩
        · rw [if_pos (by kernel_rfl)]; simp only [List.getElem_toArray, List.getElem_cons_succ, List.getElem_cons_zero]
          go_wp2_with fail
          generalize hE' : World.alloc wD _ = wE
          obtain ⟨AB, hAB⟩ : ∃ AB, AB = wD.heap.size := ⟨_, rfl⟩
          have HEa : Hid (Below wD.heap.size wD wE ∧ World.there wE AB 0 19 ∧ wD.heap.size ≤ AB ∧ AB < wE.heap.size) := Lib.hid (by rw [← hE', hAB]; exact ⟨(Below.refl _ _).alloc (Nat.le_refl _) _, nthere_new _ _ 19 (by rfl) _, Nat.le_refl _, by simp⟩)
          rw [← hAB]
          clear hE' hAB
          have HSE := Lib.hid (HSD.out.below HEa.out.1)
          have HRE := Lib.hid (HRD.out.below HEa.out.1)
          have HTA : Hid (L.T ≤ AB ∧ wr.heap.size ≤ AB) := Lib.hid ⟨Nat.le_trans HSD.out.lts.1 HEa.out.2.2.1, Nat.le_trans HBd.out.size HEa.out.2.2.1⟩
          refine hK.out _ _ ⟨bcells HRE.out.b, HZ.out _ HSE.out.bel⟩ (fun hHeld => ?_)
          clear hK K
          (try simp only [Act.put, List.getElem_toArray, List.getElem_cons_succ, List.getElem_cons_zero, List.setIfInBounds_toArray, List.set_cons_zero, List.set_cons_succ])
          refine wpAnyH_ready (rs := [10]) (by kernel_rfl) (by simp) ?_; refine AllReadyH.cons (by rfl) (fun K hK => ?_) AllReadyH.nil; rw [if_pos (by kernel_rfl)]; simp only [List.getElem_toArray, List.getElem_cons_succ, List.getElem_cons_zero]
          go_wp2_with (first | (go_at_call 37; (with_reducible refine (HAsk.out _ HSE.out).mono ?_); rintro e w2 ⟨rfl, hs, hu⟩; have H2 : Hid (SB w1 L X sb a' b' lm w2 ∧ LRb w2 L X kB bB w8.heap.size (.slice a2 m c2) m ys ∧ World.there w2 AB 0 19) := Lib.hid ⟨hs, HRE.out.up hu, nthere_same HEa.out.2.1 (hu.2 AB HTA.out.1 HEa.out.2.2.2)⟩; clear hs hu))
          refine hK.out _ _ ⟨bcells H2.out.2.1.b, HZ.out _ H2.out.1.bel⟩ (fun hHeld => ?_)
          clear hK K
          (try simp only [Act.put, List.getElem_toArray, List.getElem_cons_succ, List.getElem_cons_zero, List.setIfInBounds_toArray, List.set_cons_zero, List.set_cons_succ])
          refine wpAnyH_ready (rs := [12]) (by kernel_rfl) (by simp) ?_; refine AllReadyH.cons (by rfl) (fun K hK => ?_) AllReadyH.nil; rw [if_pos (by kernel_rfl)]; simp only [List.getElem_toArray, List.getElem_cons_succ, List.getElem_cons_zero]
          refine wp_store_mid 64 (Operand.tmp 13) (Operand.tmp 75) (by rfl) AB 0 nt.toArray (by rfl) (by rfl) (by rw [hsz]; exact H2.out.2.2) (by rw [hsz]; exact infoNote) (all_one HNF.out.one) ?_
          generalize hF : World.setCells w2 _ _ _ = wF
          have HF : Hid (Below wr.heap.size w2 wF ∧ wF.rangeAt AB 0 nt) := Lib.hid (by rw [← hF]; exact ⟨nbelow_cells (Below.refl _ _) HTA.out.2 _ _, World.rangeAt_setCells_same w2 AB 0 nt (by rw [HNF.out.len]; exact H2.out.2.2)⟩)
          clear hF
          have HSF := Lib.hid (H2.out.1.low HF.out.1 HLt.out)
          have HRF := Lib.hid (H2.out.2.1.low HF.out.1 HLn.out)
          refine hK.out _ _ ⟨bcells HRF.out.b, HZ.out _ HSF.out.bel⟩ (fun hHeld => ?_)
          clear hK K
          (try simp only [Act.put, List.getElem_toArray, List.getElem_cons_succ, List.getElem_cons_zero, List.setIfInBounds_toArray, List.set_cons_zero, List.set_cons_succ])
          refine wpAnyH_done (by kernel_rfl) ?_ _
          refine NoPanic.normal ?_
          go_wp2_with fail
          go_meet
          exact ⟨AB, rfl, HSF.out, HRF.out, HF.out.2, HTA.out.1⟩
      case rest =>
        obtain ⟨AB, rfl, hS, hR, hr, hTA⟩ := hcut
        have HS2 := Lib.hid hS
        have HR2 := Lib.hid hR
        have HA2 := Lib.hid (⟨hr, hTA⟩ : wc.rangeAt AB 0 nt ∧ L.T ≤ AB)
        clear hS hR hr hTA
        have q0 := CallC.cell HA2.out.1 0 _ HNF.out.c0
        have q4 := CallC.cell HA2.out.1 4 _ HNF.out.c4
        have hwm : IntKind.u32.wrap (m : Int) = (m : Int) := by rw [IntKind.wrap_u32]; omega
        rcases HAB.out with ⟨hf, ho, ha', hb'⟩ | ⟨hf, ho, hk, hi7, hab⟩
        · subst ho
          have df : decide (lm ≤ (m : Int)) = true := decide_eq_true hf
          have HS3 : Hid (SB w1 L X sb a b lm wc) := Lib.hid (by have h := HS2.out; rw [ha', hb'] at h; exact h)
          have Hab := Lib.hid (And.intro ha' hb')
          clear hf ha' hb'
          go_wp2_with fail
          go_roundw
          case rel => exact ⟨i + 1, a, b, m, ys, by omega, by go_num, HS3.out, HR2.out, Hm.out, hml⟩
          case measure => simp [intOf]; omega
        · subst ho
          have df : decide (lm ≤ (m : Int)) = false := decide_eq_false (by omega)
          have hk2 := Lib.hid hk
          have Hab := Lib.hid hab
          have hz := HZ.out _ HS2.out.bel
          have hw2 : IntKind.i64.wrap (2 + t) = 2 + t := by rw [IntKind.wrap_i64]; omega
          have hkk : (k != 2 + t) = false := by rw [hk]; simp
          clear hk hab
          obtain ⟨kn, hkn, hk23⟩ : ∃ kn : Nat, (kn : Int) = k ∧ (kn = 2 ∨ kn = 3) := by
            have h1 := hk2.out
            rcases ht with rfl | rfl
            · exact ⟨2, by omega, .inl rfl⟩
            · exact ⟨3, by omega, .inr rfl⟩
          go_upto_region 24 with fail
          obtain ⟨wb, hwb⟩ : ∃ wb, wb = wc := ⟨_, rfl⟩
          subst hwb
          go_cut [99] (fun v wx => v = .bool false ∧ Below wb.heap.size wb wx)
          case first =>
            go_quiet (fail)
            go_wp2_with fail
            go_meet
            exact ⟨rfl, below_drewN (Below.refl _ _) _⟩
          case rest =>
            obtain ⟨rfl, hb⟩ := hcut
            have HS4 := Lib.hid (HS2.out.below hb)
            have HR4 := Lib.hid (HR2.out.below hb)
            have HA4 := Lib.hid (range_below HA2.out.1 hb (cell_lt (CallC.cell HA2.out.1 0 _ HNF.out.c0)))
            clear hb q0 q4 hz
            have q4 := CallC.cell HA4.out 4 _ HNF.out.c4
            have q5 := CallC.cell HA4.out 5 _ HNF.out.c5
            have q6 := CallC.cell HA4.out 6 _ HNF.out.c6
            have q7 := CallC.cell HA4.out 7 _ HNF.out.c7
            have q8 := CallC.cell HA4.out 8 _ HNF.out.c8
            obtain ⟨i0, hi0, hz0, hz1, hz2⟩ := info_parts infoKeyO
            have HI := Lib.hid (⟨hi0, hz0, hz1, hz2⟩ : Tryz.prog.info? 42 = some i0 ∧ i0.zero = some (.agg #[.int .i64 0, .int .i64 0, .int .i64 0, .int .i64 0, .int .u32 0]) ∧ i0.size = 5 ∧ i0.bytes = 40)
            have HRo := Lib.hid (fun o => HR4.out.below ((Below.refl _ _).alloc (Nat.le_refl _) _ : Below wc.heap.size wc (wc.alloc o)))
            have hbw := HR4.out.lo.2.2.2
            clear hi0 hz0 hz1 hz2
            go_wp2_with (first
              | (at_builtin; refine wpList_append_own _ rfl _ _ 73 rfl w8.heap.size 42 i0 (.agg #[.int .i64 0, .int .i64 0, .int .i64 0, .int .i64 0, .int .u32 0]) 5 40 Tryz.underlying73 HI.out.1 HI.out.2.1 HI.out.2.2.1 HI.out.2.2.2 rfl (by decide) _ _ _ rfl (HRo.out _).row ⟨wc.heap.size, 0, none⟩ 1 1 [.int .i64 k, .int .i64 (ii : Int), .int .i64 0, .int .i64 0, .int .u32 0] rfl rfl ok5_at (ok5_one _ _ _ _ _) (by unfold maxLen; omega) (by omega) (by simp; omega) ?_; intro v' w5 hown hgrow _; have HO5 := Lib.hid hown; have HB5 : Hid (Below w8.heap.size wc w5) := Lib.hid (((Below.refl w8.heap.size wc).alloc hbw _).grown hgrow (by simp; omega) (fun g hg => (HR4.out.row.lt g hg).1)); clear hown hgrow))
            have HS5 := Lib.hid (HS4.out.low HB5.out H8.out.1.lts)
            have HR5 : Hid (LRb w5 L X kB bB w8.heap.size v' (m + 1) (ys ++ [(kn, ii, 0)])) := Lib.hid ⟨HR4.out.k.same' HB5.out.size (HB5.out.block _ H8.out.2.1.lt), range_same HR4.out.b (HB5.out.block _ (cell_lt (CallC.cell H8.out.2.2.1 0 _ rfl))), by rw [keyL_snoc]; simp only [hkn]; exact HO5.out, by simp [HR4.out.len], fun y hy => by
              rcases List.mem_append.1 hy with hy | hy
              · exact HR4.out.ok y hy
              · obtain rfl := List.mem_singleton.1 hy
                exact ⟨hk23, by show ii ≤ 10; omega, rfl⟩, ⟨HR4.out.lo.1, HR4.out.lo.2.1, HR4.out.lo.2.2.1, Nat.le_trans hbw HB5.out.size⟩⟩
            go_roundw
            case rel => exact ⟨i + 1, a', b', m + 1, ys ++ [(kn, ii, 0)], by omega, by go_num, HS5.out, HR5.out, by have := Hm.out; have := Hab.out; omega, by omega⟩
            case measure => simp [intOf]; omega
    · obtain rfl : i = len := by omega
      have hwm : IntKind.u32.wrap (m : Int) = (m : Int) := by rw [IntKind.wrap_u32]; omega
      have Hab : Hid ((a : Int) + (b : Int) = (m : Int) ∧ ((a + b : Nat) : Int) = (m : Int)) := Lib.hid (by have := Hm.out; omega)
      obtain ⟨b4, b5, b6, b7, b8⟩ := bcells HR.out.b
      have HNw : ∀ u l, (noteW 0 u l).toArray.size = 19 := fun u l => by simp [noteW_len]
      go_upto_region 28 with (first
        | (go_at_call 37; (with_reducible refine (bask_cnt (vs := vs) (vr := vr) HS.out HE1.out hl0 hl1 hLn).mono ?_); rintro e v1 ⟨rfl, hs, hu⟩; have HS1 : Hid (SB w1 L X sb a b lm v1 ∧ LRb v1 L X kB bB w8.heap.size (.slice a2 m c2) m ys) := Lib.hid ⟨hs, HR.out.up hu⟩; clear hs hu)
        | (refine wpList_store_mid (by rfl) _ _ _ (by rfl) v1.heap.size 0 (noteW 0 ((a : Int) + (b : Int)) lm).toArray (by rfl) (by rfl) (nthere_new _ _ 19 (by rfl) _) infoNote (all_one (noteW_one 0 ((a : Int) + (b : Int)) lm)) ?_))
      clear b4 b5 b6 b7 b8
      generalize hA : World.setCells _ v1.heap.size 0 _ = v2
      obtain ⟨cB, hcB⟩ : ∃ cB, cB = v1.heap.size := ⟨_, rfl⟩
      have HS2 : Hid (SB w1 L X sb a b lm v2 ∧ LRb v2 L X kB bB w8.heap.size (.slice a2 m c2) m ys ∧ v2.rangeAt cB 0 (noteW 0 ((a : Int) + (b : Int)) lm) ∧ L.T ≤ cB ∧ cB < v2.heap.size) := Lib.hid (by
        have hb : Below v1.heap.size v1 v2 := by rw [← hA]; exact nbelow_cells ((Below.refl v1.heap.size v1).alloc (Nat.le_refl _) _) (Nat.le_refl _) _ _
        have hr : v2.rangeAt cB 0 (noteW 0 ((a : Int) + (b : Int)) lm) := by rw [← hA, hcB]; exact World.rangeAt_setCells_same _ v1.heap.size 0 (noteW 0 ((a : Int) + (b : Int)) lm) (nthere_new _ _ 19 (by rfl) _)
        exact ⟨HS1.out.1.below hb, HS1.out.2.below hb, hr, by rw [hcB]; exact HS1.out.1.lts.1, cell_lt (CallC.cell hr 0 _ rfl)⟩)
      rw [← hcB]
      clear hA hcB
      obtain ⟨b4, b5, b6, b7, b8⟩ := bcells HS2.out.2.1.b
      go_upto_region 29 with (first
        | (go_at_call 37; (with_reducible refine (bask_end (vs := vs) (vr := vr) HS2.out.1 HE1.out hLn hLa hLb).mono ?_); rintro e v3 ⟨rfl, hs, hu⟩; have HS3 : Hid (EB w1 L X sb v3 ∧ LRb v3 L X kB bB w8.heap.size (.slice a2 m c2) m ys ∧ v3.rangeAt cB 0 (noteW 0 ((a : Int) + (b : Int)) lm)) := Lib.hid ⟨hs, HS2.out.2.1.up hu, range_same HS2.out.2.2.1 (hu.2 cB HS2.out.2.2.2.1 HS2.out.2.2.2.2)⟩; clear hs hu)
        | (refine wpList_store_mid (by rfl) _ _ _ (by rfl) v3.heap.size 0 (noteW 0 ((a + b : Nat) : Int) 0).toArray (by rfl) (by rfl) (nthere_new _ _ 19 (by rfl) _) infoNote (all_one (noteW_one 0 ((a + b : Nat) : Int) 0)) ?_))
      clear b4 b5 b6 b7 b8
      generalize hA : World.setCells _ v3.heap.size 0 _ = v4
      obtain ⟨dB, hdB⟩ : ∃ dB, dB = v3.heap.size := ⟨_, rfl⟩
      have HS4 : Hid (EB w1 L X sb v4 ∧ LRb v4 L X kB bB w8.heap.size (.slice a2 m c2) m ys ∧ v4.rangeAt cB 0 (noteW 0 ((a : Int) + (b : Int)) lm) ∧ v4.rangeAt dB 0 (noteW 0 ((a + b : Nat) : Int) 0) ∧ L.T ≤ dB ∧ dB < v4.heap.size) := Lib.hid (by
        have hb : Below v3.heap.size v3 v4 := by rw [← hA]; exact nbelow_cells ((Below.refl v3.heap.size v3).alloc (Nat.le_refl _) _) (Nat.le_refl _) _ _
        have hr : v4.rangeAt dB 0 (noteW 0 ((a + b : Nat) : Int) 0) := by rw [← hA, hdB]; exact World.rangeAt_setCells_same _ v3.heap.size 0 (noteW 0 ((a + b : Nat) : Int) 0) (nthere_new _ _ 19 (by rfl) _)
        exact ⟨HS3.out.1.below hb, HS3.out.2.1.below hb, range_below HS3.out.2.2 hb (cell_lt (CallC.cell HS3.out.2.2 0 _ rfl)), hr, by rw [hdB]; exact HS3.out.1.lts.1, cell_lt (CallC.cell hr 0 _ rfl)⟩)
      rw [← hdB]
      clear hA hdB
      obtain ⟨p0, p1, p2, p3, p4⟩ := ofive HS4.out.2.1.k
      go_upto_region 30 with (first
        | (go_at_call 37; (with_reducible refine (bask_root (vs := vs) (vr := vr) HS4.out.1 HE1.out hLn).mono ?_); rintro e v5 ⟨rfl, hs, hu⟩; have HS5 : Hid (EB w1 L X sb v5 ∧ LRb v5 L X kB bB w8.heap.size (.slice a2 m c2) m ys ∧ v5.rangeAt cB 0 (noteW 0 ((a : Int) + (b : Int)) lm) ∧ v5.rangeAt dB 0 (noteW 0 ((a + b : Nat) : Int) 0)) := Lib.hid ⟨hs, HS4.out.2.1.up hu, range_same HS4.out.2.2.1 (hu.2 cB HS2.out.2.2.2.1 (cell_lt (CallC.cell HS4.out.2.2.1 0 _ rfl))), range_same HS4.out.2.2.2.1 (hu.2 dB HS4.out.2.2.2.2.1 HS4.out.2.2.2.2.2)⟩; clear hs hu)
        | (refine wpList_store_mid (by rfl) _ _ _ (by rfl) v5.heap.size 0 (noteW 0 0 20).toArray (by rfl) (by rfl) (nthere_new _ _ 19 (by rfl) _) infoNote (all_one (noteW_one 0 0 20)) ?_))
      clear p0 p1 p2 p3 p4
      generalize hA : World.setCells _ v5.heap.size 0 _ = v6
      obtain ⟨eB, heB⟩ : ∃ eB, eB = v5.heap.size := ⟨_, rfl⟩
      have HS6 : Hid (EB w1 L X sb v6 ∧ LRb v6 L X kB bB w8.heap.size (.slice a2 m c2) m ys ∧ v6.rangeAt cB 0 (noteW 0 ((a : Int) + (b : Int)) lm) ∧ v6.rangeAt dB 0 (noteW 0 ((a + b : Nat) : Int) 0) ∧ v6.rangeAt eB 0 (noteW 0 0 20)) := Lib.hid (by
        have hb : Below v5.heap.size v5 v6 := by rw [← hA]; exact nbelow_cells ((Below.refl v5.heap.size v5).alloc (Nat.le_refl _) _) (Nat.le_refl _) _ _
        have hr : v6.rangeAt eB 0 (noteW 0 0 20) := by rw [← hA, heB]; exact World.rangeAt_setCells_same _ v5.heap.size 0 (noteW 0 0 20) (nthere_new _ _ 19 (by rfl) _)
        exact ⟨HS5.out.1.below hb, HS5.out.2.1.below hb, range_below HS5.out.2.2.1 hb (cell_lt (CallC.cell HS5.out.2.2.1 0 _ rfl)), range_below HS5.out.2.2.2 hb (cell_lt (CallC.cell HS5.out.2.2.2 0 _ rfl)), hr⟩)
      rw [← heB]
      clear hA heB
      have r1 := CallC.cell HS6.out.2.2.1 1 _ (rfl : (noteW 0 ((a : Int) + (b : Int)) lm)[1]? = some (.int .u32 ((a : Int) + (b : Int))))
      have r2 := CallC.cell HS6.out.2.2.1 2 _ (rfl : (noteW 0 ((a : Int) + (b : Int)) lm)[2]? = some (.int .u32 lm))
      have r3 := CallC.cell HS6.out.2.2.2.1 0 _ (rfl : (noteW 0 ((a + b : Nat) : Int) 0)[0]? = some (.int .u32 0))
      have r4 := CallC.cell HS6.out.2.2.2.1 1 _ (rfl : (noteW 0 ((a + b : Nat) : Int) 0)[1]? = some (.int .u32 ((a + b : Nat) : Int)))
      have r5 := CallC.cell HS6.out.2.2.2.2 1 _ (rfl : (noteW 0 0 20)[1]? = some (.int .u32 0))
      rw [Hab.out.1] at r1
      rw [Hab.out.2] at r4
      go_upto_region 32 with fail
      clear r1 r2 r3 r4 r5
      go_wp2_with fail
      go_loopw [17] (fun iv wr => ∃ j : Nat, j ≤ m ∧ iv = .int .i64 j ∧ EB w1 L X sb wr ∧ LRb wr L X kB bB w8.heap.size (.slice a2 m c2) m ys) (fun i _ => m - (intOf i).toNat)
      case atStart => exact ⟨0, by omega, rfl, HS6.out.1, HS6.out.2.1⟩
      case round =>
        obtain ⟨j, hj, rfl, hS, hR⟩ := hrel
        have HSj := Lib.hid hS
        have HRj := Lib.hid hR
        clear hS hR
        by_cases hlj : j < m
        · obtain ⟨g, k, i', hg, hk, hi', hc⟩ := HRj.out.at j hlj
          obtain ⟨q0, q1, q2, q3, q4⟩ := hc
          subst hg
          have e0 : (0 : Int) ≤ j := by omega
          have e1 : (j : Int) < m := by omega
          have HGo := Lib.hid (bask_gone (vs := vs) (vr := vr) HSj.out HE1.out (k : Int) (i' : Int) (by omega) (by omega) (by omega))
          have g0 : ∀ W, (Instr.field 64 (Value.agg #[.int .u32 1, .int .u32 0, .int .u32 0, .int .u32 0, .int .i64 0, .int .i64 0, .int .i64 0, .int .i64 0, .int .u32 0, .int .i64 0, .int .i64 0, .int .i64 0, .int .i64 0, .int .u32 0, .int .i64 0, .int .i64 0, .int .i64 0, .int .i64 0, .int .u32 0]) 0).run Tryz.prog W = .ok (.int .u32 1) W := by intro W; kernel_rfl
          go_wp2_with (first
            | (go_at_call 37; (with_reducible refine HGo.out.mono ?_); rintro e v7 ⟨rfl, hb⟩; have HS7 := Lib.hid (HSj.out.below hb); have HR7 := Lib.hid (HRj.out.below hb); clear hb q0 q1 q2 q3 q4))
          go_roundw
          case rel => exact ⟨j + 1, by omega, by go_num, HS7.out, HR7.out⟩
          case measure => simp [intOf]; omega
        · obtain rfl : j = m := by omega
          obtain ⟨b4, b5, b6, b7, b8⟩ := bcells HRj.out.b
          have HBa := Lib.hid (bask_bank (vs := vs) (vr := vr) HSj.out HE1.out hLn)
          have g0 : ∀ W, (Instr.field 64 (Value.agg #[.int .u32 1, .int .u32 0, .int .u32 0, .int .u32 0, .int .i64 0, .int .i64 0, .int .i64 0, .int .i64 0, .int .u32 0, .int .i64 0, .int .i64 0, .int .i64 0, .int .i64 0, .int .u32 0, .int .i64 0, .int .i64 0, .int .i64 0, .int .i64 0, .int .u32 0]) 0).run Tryz.prog W = .ok (.int .u32 1) W := by intro W; kernel_rfl
          go_wp2_with (first
            | (go_at_call 37; (with_reducible refine HBa.out.mono ?_); rintro e v8 ⟨rfl, hb⟩; have HS8 := Lib.hid (HSj.out.below hb); clear hb))
          go_ret
          exact ⟨rfl, HB1.out.trans (HS8.out.bel.mono HB1.out.size)⟩
end Go.Proofs.YtncopdhhchmpeaaGreatDoor
namespace Go.Proofs.YtncopdhhchmpeaaGreatDoor
open Go.ChangeShapes Go.WideShapes Go.ChangeAt Go.RowKit
set_option linter.unusedVariables false
set_option linter.unusedSimpArgs false
theorem e6_banks {w : World} (hL : laidMet Tryz.prog Rows.objectBanksRow.laid w) : E6 (atErr w) w := by
  refine errs_are hL (fun g hg => ?_)
  simp only [G6, List.mem_cons, List.not_mem_nil, or_false] at hg
  rcases hg with rfl | rfl | rfl | rfl | rfl | rfl
  · exact ⟨"turnkey/api.ErrRight", _, (by repeat (first | exact List.Mem.head _ | apply List.Mem.tail)), by kernel_rfl, by kernel_rfl⟩
  · exact ⟨"turnkey/api.ErrLimit", _, (by repeat (first | exact List.Mem.head _ | apply List.Mem.tail)), by kernel_rfl, by kernel_rfl⟩
  · exact ⟨"turnkey/api.ErrMany", _, (by repeat (first | exact List.Mem.head _ | apply List.Mem.tail)), by kernel_rfl, by kernel_rfl⟩
  · exact ⟨"turnkey/api.ErrFull", _, (by repeat (first | exact List.Mem.head _ | apply List.Mem.tail)), by kernel_rfl, by kernel_rfl⟩
  · exact ⟨"turnkey/api.ErrOwn", _, (by repeat (first | exact List.Mem.head _ | apply List.Mem.tail)), by kernel_rfl, by kernel_rfl⟩
  · exact ⟨"turnkey/api.ErrRange", _, (by repeat (first | exact List.Mem.head _ | apply List.Mem.tail)), by kernel_rfl, by kernel_rfl⟩
theorem walk_ObjectBanks (a0 : Int) (a1 : Option Addr) (len1 cap1 : Nat) (z1 : List Int) (w : World) (w0 : (Lit.int .u32 a0).wf = true) (w1 : IsRow .i64 w a1 len1 cap1 z1) (hL : laidMetH Tryz.prog Rows.objectBanksRow.laid w) :
    Calls Tryz.prog 6 #[.int .u32 a0, .slice a1 len1 cap1] w fun e w' => e = .returned (.bool true) ∧ Below w.heap.size w w' := by
  obtain ⟨vs, vr, hE⟩ := (errs2 hL ⟨_, by repeat (first | exact List.Mem.head _ | apply List.Mem.tail)⟩ ⟨_, by repeat (first | exact List.Mem.head _ | apply List.Mem.tail)⟩)
  have h6 := e6_banks hL
  clear hL
  have g0 := fit32 w0
  by_cases hl : 10 < len1
  · exact banks_big a0 a1 len1 cap1 hl vs vr w hE
  · have e := Int.tmod_eq_emod_of_nonneg (b := 8) g0.1
    refine banks_walk a0 (a0 % 8) a1 len1 cap1 z1 (Lib.hid e) (by omega) (by omega) (by omega) w ?_ ?_ vs vr hE _ h6
    · intro e
      rcases w1 with ⟨-, h, -, -⟩ | ⟨x, h, -⟩
      · omega
      · rw [e] at h; exact absurd h (by simp)
    · intro ad had h0
      rcases w1 with ⟨h, -, -, -⟩ | ⟨x, h, h1, h2, h3, h4, h5⟩
      · rw [had] at h; exact absurd h (by simp)
      · obtain rfl : x = ad := by rw [h] at had; exact Option.some.inj had
        refine ⟨?_, fun i hi => ?_⟩
        · have hc := h4 0 (by omega)
          rcases Nat.lt_or_ge x.block w.heap.size with h' | h'
          · exact h'
          · have : (x.add 0).block = x.block := add_block' x 0
            simp [World.cell?, this, Array.getElem?_eq_none h'] at hc
        · have hz : z1.getD i 0 ∈ z1 := by
            rw [show z1.getD i 0 = z1[i]'(by omega) by simp [List.getD, show i < z1.length by omega]]
            exact List.getElem_mem _
          exact ⟨h4 i (by omega), (i64_fit (h5 _ hz)).1, (i64_fit (h5 _ hz)).2⟩
end Go.Proofs.YtncopdhhchmpeaaGreatDoor
