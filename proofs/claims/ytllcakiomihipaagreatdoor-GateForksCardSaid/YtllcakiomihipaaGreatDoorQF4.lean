/-
  Gr, Gs, Gn, Gq, Gw, Gy, Gz, G1, G6: what GateForks reaches of them.
-/
import Derived.Test.YtllcakiomihipaaGreatDoorQF3
namespace Go.Proofs.YtllcakiomihipaaGreatDoor
open Go.ChangeShapes Go.WideShapes Go.ChangeAt Go.RowKit
set_option linter.unusedVariables false
set_option linter.unusedSimpArgs false
section
variable {w0 wb w w' W : World} {L : BLoc} {X : SLoc} {nd B : Nat} {A : List Nat} {F : Nat → Nat → Value} {l : List Int} {J NB : Nat} {rg : Nat → Int} {pc st ft : Int} {kk : Nat → Nat → Int} {wt : Int} {f f' : Nat → Value}
/-- A domain's words and keys, as it takes a note. -/
def tRg (rg : Nat → Int) (o a b c bd : Int) : Nat → Int := sR (sR (sR (sR (sR rg 0 o) 1 a) 2 b) 3 c) 4 bd
def tKk (kk : Nat → Nat → Int) (m0 m1 m2 m3 m4 : Int) (n0 n1 n2 n3 n4 : Int) (p0 p1 p2 p3 p4 : Int) (y0 y1 y2 y3 y4 : Int) : Nat → Nat → Int := sK (sK (sK (sK kk 12 m0 m1 m2 m3 m4) 13 n0 n1 n2 n3 n4) 14 p0 p1 p2 p3 p4) 15 y0 y1 y2 y3 y4
theorem tKk_right {kk : Nat → Nat → Int} (hR : ∀ q, q < 19 → KRight kk q) (m0 m1 m2 m3 m4 : Int) (n0 n1 n2 n3 n4 : Int) (p0 p1 p2 p3 p4 : Int) (y0 y1 y2 y3 y4 : Int) (hm : rightB m0 m1 m2 m3 m4 = true) (hn : rightB n0 n1 n2 n3 n4 = true) (hp : rightB p0 p1 p2 p3 p4 = true) (hy : rightB y0 y1 y2 y3 y4 = true) : ∀ q, q < 19 → KRight (tKk kk m0 m1 m2 m3 m4 n0 n1 n2 n3 n4 p0 p1 p2 p3 p4 y0 y1 y2 y3 y4) q :=
  sK_right (sK_right (sK_right (sK_right hR 12 _ _ _ _ _ hm) 13 _ _ _ _ _ hn) 14 _ _ _ _ _ hp) 15 _ _ _ _ _ hy
set_option maxRecDepth 100000 in
set_option maxHeartbeats 400000 in
theorem hand1_no (h : GB w0 wb w L X nd B A F l J (RW rg pc st ft kk wt)) (NB DB SB : Nat) (hB : NB ∈ A ∧ DB ∈ A ∧ SB ∈ A) (o a b c bd : Int) (m0 m1 m2 m3 m4 : Int) (n0 n1 n2 n3 n4 : Int) (p0 p1 p2 p3 p4 : Int) (hn : wb.rangeAt NB 0 ([.int .u32 o, .int .u32 a, .int .u32 b, .int .u32 c, .int .i64 m0, .int .i64 m1, .int .i64 m2, .int .i64 m3, .int .u32 m4, .int .i64 n0, .int .i64 n1, .int .i64 n2, .int .i64 n3, .int .u32 n4, .int .i64 p0, .int .i64 p1, .int .i64 p2, .int .i64 p3, .int .u32 p4] : List Value)) (hd : wb.cell? ⟨DB, 0, none⟩ = some (.int .u32 bd)) (hs : wb.cell? ⟨SB, 0, none⟩ = some (.slice none 0 0)) :
    Calls Tryz.prog 75 #[.pointer (some ⟨J, 0, none⟩), .pointer (some ⟨NB, 0, none⟩), .pointer (some ⟨DB, 0, none⟩), .pointer (some ⟨SB, 0, none⟩)] w fun e w' => (∃ v, e = .returned v) ∧ GB w0 wb w' L X nd B A F l J (RW (tRg rg o a b c bd) pc 3 ft (tKk kk m0 m1 m2 m3 m4 n0 n1 n2 n3 n4 p0 p1 p2 p3 p4 0 0 0 0 0) wt) := by
  have H := Lib.hid h
  have HN := Lib.hid (range_same hn (h.gk.eq NB hB.1))
  have c1 := (World.cell?_of_block (a := ⟨DB, 0, none⟩) (h.gk.eq DB hB.2.1)).trans hd
  have c2 := (World.cell?_of_block (a := ⟨SB, 0, none⟩) (h.gk.eq SB hB.2.2)).trans hs
  clear h hn hd hs
  go_enter Tryz.func75, Tryz.ntmps75
  go_upto_region 1 with (first
    | (refine wpList_load_mid (by rfl) _ _ (by rfl) NB 0 (by rfl) ([.int .u32 o, .int .u32 a, .int .u32 b, .int .u32 c, .int .i64 m0, .int .i64 m1, .int .i64 m2, .int .i64 m3, .int .u32 m4, .int .i64 n0, .int .i64 n1, .int .i64 n2, .int .i64 n3, .int .u32 n4, .int .i64 p0, .int .i64 p1, .int .i64 p2, .int .i64 p3, .int .u32 p4] : List Value) _ HN.out Tryz.underlying52 rfl infoNote ?_)
    | (go_at_call 62; (with_reducible refine (ctake_ok H.out o a b c bd m0 m1 m2 m3 m4 n0 n1 n2 n3 n4 p0 p1 p2 p3 p4).mono ?_); rintro e w1 ⟨⟨v, rfl⟩, hg⟩; have H1 := Lib.hid hg; clear hg c1 c2))
  have z9 := H1.out.free 9 (by decide)
  have j9 := H1.out.cell 9 (by decide)
  go_wp2_with fail
  go_end0
  exact ⟨⟨_, rfl⟩, by unfold tRg tKk; rw [← RW_st _ pc st ft _ wt 3]; exact H1.out.set 9 _⟩
set_option maxRecDepth 100000 in
set_option maxHeartbeats 400000 in
theorem change_hand_no (h : GS w0 w L X nd B A F l) (x : Int) (i : Nat) (hx : Hid (x = (i : Int))) (hi : i < nd) (rg : Nat → Int) (pc st ft : Int) (kk : Nat → Nat → Int) (wt : Int) (hF : Hid (F i = RW rg pc st ft kk wt)) (hR : Hid (∀ q, q < 19 → KRight kk q)) (t1 : 0 ≤ ft) (t2 : ft ≤ 6) (u1 : 0 ≤ wt) (u2 : wt ≤ 536870911) (vs vr : Value) (hE : ErrsAt vs vr w0) (NB DB SB : Nat) (hB : NB ∈ A ∧ DB ∈ A ∧ SB ∈ A) (o a b c bd : Int) (m0 m1 m2 m3 m4 : Int) (n0 n1 n2 n3 n4 : Int) (p0 p1 p2 p3 p4 : Int) (hn : w.rangeAt NB 0 ([.int .u32 o, .int .u32 a, .int .u32 b, .int .u32 c, .int .i64 m0, .int .i64 m1, .int .i64 m2, .int .i64 m3, .int .u32 m4, .int .i64 n0, .int .i64 n1, .int .i64 n2, .int .i64 n3, .int .u32 n4, .int .i64 p0, .int .i64 p1, .int .i64 p2, .int .i64 p3, .int .u32 p4] : List Value)) (hd : w.cell? ⟨DB, 0, none⟩ = some (.int .u32 bd)) (hs : w.cell? ⟨SB, 0, none⟩ = some (.slice none 0 0)) (HR2 : Hid (∀ q, q < 19 → KRight (tKk kk m0 m1 m2 m3 m4 n0 n1 n2 n3 n4 p0 p1 p2 p3 p4 0 0 0 0 0) q)) :
    Calls Tryz.prog 47 #[.pointer (some ⟨X.s, 0, none⟩), .int .i64 x, .func (.func 75) #[] #[.pointer (some ⟨NB, 0, none⟩), .pointer (some ⟨DB, 0, none⟩), .pointer (some ⟨SB, 0, none⟩)]] w fun e w' => (∃ v, e = .returned v) ∧ GS w0 w' L X nd B A (setF F i (RW (tRg rg o a b c bd) pc 3 ft (tKk kk m0 m1 m2 m3 m4 n0 n1 n2 n3 n4 p0 p1 p2 p3 p4 0 0 0 0 0) wt)) l ∧ GK A w w' := by
  have H := Lib.hid h
  have HOne : Hid (∀ j, j < 107 → (RW rg pc st ft kk wt j).oneCell' = true) := Lib.hid (fun j _ => RW_one _ _ _ _ _ _ j)
  have HOneF : Hid (∀ j, j < 107 → (F i j).oneCell' = true) := Lib.hid (by rw [hF.out]; exact HOne.out)
  have HE := Lib.hid hE
  have c1 := h.c1
  have HP := Lib.hid (And.intro hB (And.intro hn (And.intro hd hs)))
  clear h hE hB hn hd hs
  go_enter Tryz.func47, Tryz.ntmps47
  go_upto_region 2 with (first
    | (go_at_call 10; (with_reducible refine ((H.out).get x i hx hi HOneF).mono ?_); rintro e w1 ⟨rfl, hb⟩; have HB1 := Lib.hid hb; clear hb)
    | (refine wpList_store_mid (by rfl) _ _ _ (by rfl) w1.heap.size 0 (rowL (F i)).toArray (by rfl) (by rfl) (by rw [rowL_size]; exact nthere_new _ _ 107 zsize _) (by rw [rowL_size]; exact infoDomS) (rowL_one (F i) HOneF.out) ?_))
  generalize hg : World.setCells _ w1.heap.size 0 _ = w2
  obtain ⟨J, hJ⟩ : ∃ J, J = w1.heap.size := ⟨_, rfl⟩
  have H2 : Hid (GB w0 w w2 L X nd B A F l J (RW rg pc st ft kk wt) ∧ Below w.heap.size w w2) := Lib.hid (by rw [← hg, hJ, ← hF.out]; exact ⟨GB.made H.out HB1.out (F i) _ zsize _, nbelow_cells (HB1.out.alloc HB1.out.size _) HB1.out.size _ _⟩)
  rw [← hJ]
  clear hg hJ c1
  have HS := Lib.hid (hand1_no H2.out.1 NB DB SB HP.out.1 o a b c bd m0 m1 m2 m3 m4 n0 n1 n2 n3 n4 p0 p1 p2 p3 p4 HP.out.2.1 HP.out.2.2.1 HP.out.2.2.2)
  go_upto_region 3 with (first | (go_at_call 75; (with_reducible refine HS.out.mono ?_); rintro e w3 ⟨⟨v, rfl⟩, hg⟩; have H3 := Lib.hid hg; clear hg))
  have HSC : Hid (∀ W, Below w3.heap.size w3 W → (World.cell? W ⟨X.s, 1, none⟩ = some (.pointer (some ⟨L.dP, 0, none⟩)) ∧ World.rangeAt W J 0 (rowL (RW (tRg rg o a b c bd) pc 3 ft (tKk kk m0 m1 m2 m3 m4 n0 n1 n2 n3 n4 p0 p1 p2 p3 p4 0 0 0 0 0) wt)))) := (Lib.hid (fun W hW => ⟨((H3.out).below hW).gs.c1, ((H3.out).below hW).r⟩)); obtain ⟨wD, hwD⟩ : ∃ wD, wD = w3.drew := ⟨_, rfl⟩; have HBd : Hid (Below w3.heap.size w3 wD) := (Lib.hid (by rw [hwD]; exact (Below.refl _ _).drew)); refine wp_region_noPanic ?_; refine wp_region_held_drew (S := fun W => (World.cell? W ⟨X.s, 1, none⟩ = some (.pointer (some ⟨L.dP, 0, none⟩)) ∧ World.rangeAt W J 0 (rowL (RW (tRg rg o a b c bd) pc 3 ft (tKk kk m0 m1 m2 m3 m4 n0 n1 n2 n3 n4 p0 p1 p2 p3 p4 0 0 0 0 0) wt)))) (by kernel_rfl) (by rw [← hwD]; exact HSC.out _ HBd.out) (fun hHeld => ?_); rw [← hwD] at hHeld ⊢; clear hwD; refine wpAnyH_take (i := 0) (v := ?_) (by rfl) (by kernel_rfl) (by kernel_rfl) (by kernel_rfl) (fun _ _ _ h => h) (Or.inl ⟨by kernel_rfl, ?_⟩) (by assumption) ?_; rotate_left 1; (focus (intro w hSw; (try dsimp only at hSw); simp only [List.getElem_toArray, List.getElem_cons_succ, List.getElem_cons_zero]; all_goals go_simp; all_goals (try with_reducible rfl))); (try simp only [Act.put, List.getElem_toArray, List.getElem_cons_succ, List.getElem_cons_zero, List.setIfInBounds_toArray, List.set_cons_zero, List.set_cons_succ]); refine wpAnyH_take (i := 1) (v := ?_) (by rfl) (by kernel_rfl) (by kernel_rfl) (by kernel_rfl) (fun _ _ _ h => h) (Or.inl ⟨by kernel_rfl, ?_⟩) (by assumption) ?_; rotate_left 1; (focus (intro w hSw; (try dsimp only at hSw); simp only [List.getElem_toArray, List.getElem_cons_succ, List.getElem_cons_zero]; all_goals go_simp; all_goals (try with_reducible rfl))); (try simp only [Act.put, List.getElem_toArray, List.getElem_cons_succ, List.getElem_cons_zero, List.setIfInBounds_toArray, List.set_cons_zero, List.set_cons_succ]); refine wpAnyH_take (i := 2) (v := ?_) (by rfl) (by kernel_rfl) (by kernel_rfl) (by kernel_rfl) (fun _ _ _ h => h) (Or.inl ⟨by kernel_rfl, ?_⟩) (by assumption) ?_; rotate_left 1; (focus (intro w hSw; (try dsimp only at hSw); simp only [List.getElem_toArray, List.getElem_cons_succ, List.getElem_cons_zero]; all_goals go_simp; all_goals (try with_reducible rfl))); (try simp only [Act.put, List.getElem_toArray, List.getElem_cons_succ, List.getElem_cons_zero, List.setIfInBounds_toArray, List.set_cons_zero, List.set_cons_succ]); refine wpAnyH_take (i := 3) (v := ?_) (by rfl) (by kernel_rfl) (by kernel_rfl) (by kernel_rfl) (fun _ _ _ h => h) (Or.inl ⟨by kernel_rfl, ?_⟩) (by assumption) ?_; rotate_left 1; (focus (intro w hSw; (try dsimp only at hSw); simp only [List.getElem_toArray, List.getElem_cons_succ, List.getElem_cons_zero]; all_goals go_simp; all_goals (try with_reducible rfl))); (try simp only [Act.put, List.getElem_toArray, List.getElem_cons_succ, List.getElem_cons_zero, List.setIfInBounds_toArray, List.set_cons_zero, List.set_cons_succ]); refine wpAnyH_take (i := 4) (v := ?_) (by rfl) (by kernel_rfl) (by kernel_rfl) (by kernel_rfl) (fun _ _ _ h => h) (Or.inl ⟨by kernel_rfl, ?_⟩) (by assumption) ?_; rotate_left 1; (focus (intro w hSw; (try dsimp only at hSw); simp only [List.getElem_toArray, List.getElem_cons_succ, List.getElem_cons_zero]; all_goals go_simp; all_goals (try with_reducible rfl))); (try simp only [Act.put, List.getElem_toArray, List.getElem_cons_succ, List.getElem_cons_zero, List.setIfInBounds_toArray, List.set_cons_zero, List.set_cons_succ]); refine wpAnyH_take (i := 5) (v := .agg (rowL (RW (tRg rg o a b c bd) pc 3 ft (tKk kk m0 m1 m2 m3 m4 n0 n1 n2 n3 n4 p0 p1 p2 p3 p4 0 0 0 0 0) wt)).toArray) (by rfl) (by kernel_rfl) (by kernel_rfl) (by kernel_rfl) (fun _ _ _ h => h) (yieldsIf_load_mid (by kernel_rfl) 34 (.tmp 6) (by rfl) J 0 (by rfl) (rowL (RW (tRg rg o a b c bd) pc 3 ft (tKk kk m0 m1 m2 m3 m4 n0 n1 n2 n3 n4 p0 p1 p2 p3 p4 0 0 0 0 0) wt)) _ (fun w h => h.2) Tryz.underlying34 rfl (by rw [rowL_len]; exact infoDomS)) (by assumption) ?_; (try simp only [Act.put, List.getElem_toArray, List.getElem_cons_succ, List.getElem_cons_zero, List.setIfInBounds_toArray, List.set_cons_zero, List.set_cons_succ]); refine wpAnyH_ready (rs := [6]) (by kernel_rfl) (by simp) ?_; refine AllReadyH.cons (by rfl) (fun K hK => ?_) AllReadyH.nil; rw [if_pos (by kernel_rfl)]; simp only [List.getElem_toArray, List.getElem_cons_succ, List.getElem_cons_zero]; go_wp2_with (first | (go_at_call 11; (with_reducible refine (((H3.out.gs.below HBd.out).put x i hx hi (tRg rg o a b c bd) pc 3 ft (tKk kk m0 m1 m2 m3 m4 n0 n1 n2 n3 n4 p0 p1 p2 p3 p4 0 0 0 0 0) wt HR2 (by decide) (by decide) t1 t2 u1 u2 vs vr HE.out)).mono ?_); rintro e w4 ⟨rfl, hgs, hgk⟩; have H4 := Lib.hid hgs; have K4 := Lib.hid hgk; clear hgs hgk)); refine hK.out _ _ ⟨H4.out.c1, range_same ((H3.out).below HBd.out).r (K4.out.eq J (by simp))⟩ (fun hHeld => ?_); clear hK K; (try simp only [Act.put, List.getElem_toArray, List.getElem_cons_succ, List.getElem_cons_zero, List.setIfInBounds_toArray, List.set_cons_zero, List.set_cons_succ]); refine wpAnyH_done (by kernel_rfl) ?_ _; refine NoPanic.normal ?_
  go_wp2_with fail
  go_end0
  exact ⟨⟨_, rfl⟩, H4.out.tail, H3.out.gk.trans ((GS.keep HBd.out H3.out.gs).tail.trans K4.out.tail)⟩
set_option maxRecDepth 100000 in
set_option maxHeartbeats 400000 in
theorem hand_no (h : GS w0 w L X nd B A F l) (x : Int) (i : Nat) (hx : Hid (x = (i : Int))) (hi : i < nd) (rg : Nat → Int) (pc st ft : Int) (kk : Nat → Nat → Int) (wt : Int) (hF : Hid (F i = RW rg pc st ft kk wt)) (hR : Hid (∀ q, q < 19 → KRight kk q)) (t1 : 0 ≤ ft) (t2 : ft ≤ 6) (u1 : 0 ≤ wt) (u2 : wt ≤ 536870911) (vs vr : Value) (hE : ErrsAt vs vr w0) (hxq : V.wfI x) (hl : l.length ≤ 1000) (hB : B ≤ 1000) (o a b c bd : Int) (m0 m1 m2 m3 m4 : Int) (n0 n1 n2 n3 n4 : Int) (p0 p1 p2 p3 p4 : Int) (hm : rightB m0 m1 m2 m3 m4 = true) (hn : rightB n0 n1 n2 n3 n4 = true) (hp : rightB p0 p1 p2 p3 p4 = true) :
    Calls Tryz.prog 51 #[.pointer (some ⟨X.s, 0, none⟩), .int .i64 x, (Value.agg #[.int .u32 o, .int .u32 a, .int .u32 b, .int .u32 c, .int .i64 m0, .int .i64 m1, .int .i64 m2, .int .i64 m3, .int .u32 m4, .int .i64 n0, .int .i64 n1, .int .i64 n2, .int .i64 n3, .int .u32 n4, .int .i64 p0, .int .i64 p1, .int .i64 p2, .int .i64 p3, .int .u32 p4]), .int .u32 bd, .slice none 0 0] w fun e w' => (∃ v, e = .returned v) ∧ GS w0 w' L X nd (B + 1) A (setF F i (RW (tRg rg o a b c bd) pc 3 ft (tKk kk m0 m1 m2 m3 m4 n0 n1 n2 n3 n4 p0 p1 p2 p3 p4 0 0 0 0 0) wt)) (V.putAll l [x]) ∧ GK A w w' := by
  have H := Lib.hid h
  have HE := Lib.hid hE
  have HR2 := Lib.hid (tKk_right hR.out m0 m1 m2 m3 m4 n0 n1 n2 n3 n4 p0 p1 p2 p3 p4 0 0 0 0 0 hm hn hp (by decide))
  clear h hE
  have HA := Lib.hid (((H.out.more (w' := (w.alloc (.cells ([.int .u32 o, .int .u32 a, .int .u32 b, .int .u32 c, .int .i64 m0, .int .i64 m1, .int .i64 m2, .int .i64 m3, .int .u32 m4, .int .i64 n0, .int .i64 n1, .int .i64 n2, .int .i64 n3, .int .u32 n4, .int .i64 p0, .int .i64 p1, .int .i64 p2, .int .i64 p3, .int .u32 p4] : List Value).toArray 52))) ((Below.refl _ _).alloc (Nat.le_refl _) _) w.heap.size (Nat.le_refl _) (by simp)).more (w' := ((w.alloc (.cells ([.int .u32 o, .int .u32 a, .int .u32 b, .int .u32 c, .int .i64 m0, .int .i64 m1, .int .i64 m2, .int .i64 m3, .int .u32 m4, .int .i64 n0, .int .i64 n1, .int .i64 n2, .int .i64 n3, .int .u32 n4, .int .i64 p0, .int .i64 p1, .int .i64 p2, .int .i64 p3, .int .u32 p4] : List Value).toArray 52)).alloc (.cells #[.int .u32 bd] 26))) ((Below.refl _ _).alloc (Nat.le_refl _) _) (w.heap.size + 1) (by simp) (by simp)).more (w' := (((w.alloc (.cells ([.int .u32 o, .int .u32 a, .int .u32 b, .int .u32 c, .int .i64 m0, .int .i64 m1, .int .i64 m2, .int .i64 m3, .int .u32 m4, .int .i64 n0, .int .i64 n1, .int .i64 n2, .int .i64 n3, .int .u32 n4, .int .i64 p0, .int .i64 p1, .int .i64 p2, .int .i64 p3, .int .u32 p4] : List Value).toArray 52)).alloc (.cells #[.int .u32 bd] 26)).alloc (.cells #[.slice none 0 0] 138))) ((Below.refl _ _).alloc (Nat.le_refl _) _) (w.heap.size + 1 + 1) (by simp) (by simp))
  have b1 : Below w.heap.size w (w.alloc (.cells ([.int .u32 o, .int .u32 a, .int .u32 b, .int .u32 c, .int .i64 m0, .int .i64 m1, .int .i64 m2, .int .i64 m3, .int .u32 m4, .int .i64 n0, .int .i64 n1, .int .i64 n2, .int .i64 n3, .int .u32 n4, .int .i64 p0, .int .i64 p1, .int .i64 p2, .int .i64 p3, .int .u32 p4] : List Value).toArray 52)) := (Below.refl _ _).alloc (Nat.le_refl _) _
  have b2 : Below ((w.alloc (.cells ([.int .u32 o, .int .u32 a, .int .u32 b, .int .u32 c, .int .i64 m0, .int .i64 m1, .int .i64 m2, .int .i64 m3, .int .u32 m4, .int .i64 n0, .int .i64 n1, .int .i64 n2, .int .i64 n3, .int .u32 n4, .int .i64 p0, .int .i64 p1, .int .i64 p2, .int .i64 p3, .int .u32 p4] : List Value).toArray 52)).heap.size) (w.alloc (.cells ([.int .u32 o, .int .u32 a, .int .u32 b, .int .u32 c, .int .i64 m0, .int .i64 m1, .int .i64 m2, .int .i64 m3, .int .u32 m4, .int .i64 n0, .int .i64 n1, .int .i64 n2, .int .i64 n3, .int .u32 n4, .int .i64 p0, .int .i64 p1, .int .i64 p2, .int .i64 p3, .int .u32 p4] : List Value).toArray 52)) ((w.alloc (.cells ([.int .u32 o, .int .u32 a, .int .u32 b, .int .u32 c, .int .i64 m0, .int .i64 m1, .int .i64 m2, .int .i64 m3, .int .u32 m4, .int .i64 n0, .int .i64 n1, .int .i64 n2, .int .i64 n3, .int .u32 n4, .int .i64 p0, .int .i64 p1, .int .i64 p2, .int .i64 p3, .int .u32 p4] : List Value).toArray 52)).alloc (.cells #[.int .u32 bd] 26)) := (Below.refl _ _).alloc (Nat.le_refl _) _
  have b3 : Below (((w.alloc (.cells ([.int .u32 o, .int .u32 a, .int .u32 b, .int .u32 c, .int .i64 m0, .int .i64 m1, .int .i64 m2, .int .i64 m3, .int .u32 m4, .int .i64 n0, .int .i64 n1, .int .i64 n2, .int .i64 n3, .int .u32 n4, .int .i64 p0, .int .i64 p1, .int .i64 p2, .int .i64 p3, .int .u32 p4] : List Value).toArray 52)).alloc (.cells #[.int .u32 bd] 26)).heap.size) ((w.alloc (.cells ([.int .u32 o, .int .u32 a, .int .u32 b, .int .u32 c, .int .i64 m0, .int .i64 m1, .int .i64 m2, .int .i64 m3, .int .u32 m4, .int .i64 n0, .int .i64 n1, .int .i64 n2, .int .i64 n3, .int .u32 n4, .int .i64 p0, .int .i64 p1, .int .i64 p2, .int .i64 p3, .int .u32 p4] : List Value).toArray 52)).alloc (.cells #[.int .u32 bd] 26)) (((w.alloc (.cells ([.int .u32 o, .int .u32 a, .int .u32 b, .int .u32 c, .int .i64 m0, .int .i64 m1, .int .i64 m2, .int .i64 m3, .int .u32 m4, .int .i64 n0, .int .i64 n1, .int .i64 n2, .int .i64 n3, .int .u32 n4, .int .i64 p0, .int .i64 p1, .int .i64 p2, .int .i64 p3, .int .u32 p4] : List Value).toArray 52)).alloc (.cells #[.int .u32 bd] 26)).alloc (.cells #[.slice none 0 0] 138)) := (Below.refl _ _).alloc (Nat.le_refl _) _
  have HB : Hid (Below w.heap.size w (((w.alloc (.cells ([.int .u32 o, .int .u32 a, .int .u32 b, .int .u32 c, .int .i64 m0, .int .i64 m1, .int .i64 m2, .int .i64 m3, .int .u32 m4, .int .i64 n0, .int .i64 n1, .int .i64 n2, .int .i64 n3, .int .u32 n4, .int .i64 p0, .int .i64 p1, .int .i64 p2, .int .i64 p3, .int .u32 p4] : List Value).toArray 52)).alloc (.cells #[.int .u32 bd] 26)).alloc (.cells #[.slice none 0 0] 138))) := Lib.hid (b1.trans ((b2.trans (b3.mono b2.size)).mono b1.size))
  have r0 : World.rangeAt (((w.alloc (.cells ([.int .u32 o, .int .u32 a, .int .u32 b, .int .u32 c, .int .i64 m0, .int .i64 m1, .int .i64 m2, .int .i64 m3, .int .u32 m4, .int .i64 n0, .int .i64 n1, .int .i64 n2, .int .i64 n3, .int .u32 n4, .int .i64 p0, .int .i64 p1, .int .i64 p2, .int .i64 p3, .int .u32 p4] : List Value).toArray 52)).alloc (.cells #[.int .u32 bd] 26)).alloc (.cells #[.slice none 0 0] 138)) w.heap.size 0 ([.int .u32 o, .int .u32 a, .int .u32 b, .int .u32 c, .int .i64 m0, .int .i64 m1, .int .i64 m2, .int .i64 m3, .int .u32 m4, .int .i64 n0, .int .i64 n1, .int .i64 n2, .int .i64 n3, .int .u32 n4, .int .i64 p0, .int .i64 p1, .int .i64 p2, .int .i64 p3, .int .u32 p4] : List Value) := range_below (cbox w ([.int .u32 o, .int .u32 a, .int .u32 b, .int .u32 c, .int .i64 m0, .int .i64 m1, .int .i64 m2, .int .i64 m3, .int .u32 m4, .int .i64 n0, .int .i64 n1, .int .i64 n2, .int .i64 n3, .int .u32 n4, .int .i64 p0, .int .i64 p1, .int .i64 p2, .int .i64 p3, .int .u32 p4] : List Value) _) (b2.trans (b3.mono b2.size)) (by simp)
  have z1 : (w.alloc (.cells ([.int .u32 o, .int .u32 a, .int .u32 b, .int .u32 c, .int .i64 m0, .int .i64 m1, .int .i64 m2, .int .i64 m3, .int .u32 m4, .int .i64 n0, .int .i64 n1, .int .i64 n2, .int .i64 n3, .int .u32 n4, .int .i64 p0, .int .i64 p1, .int .i64 p2, .int .i64 p3, .int .u32 p4] : List Value).toArray 52)).heap.size = w.heap.size + 1 := by simp
  have z2 : ((w.alloc (.cells ([.int .u32 o, .int .u32 a, .int .u32 b, .int .u32 c, .int .i64 m0, .int .i64 m1, .int .i64 m2, .int .i64 m3, .int .u32 m4, .int .i64 n0, .int .i64 n1, .int .i64 n2, .int .i64 n3, .int .u32 n4, .int .i64 p0, .int .i64 p1, .int .i64 p2, .int .i64 p3, .int .u32 p4] : List Value).toArray 52)).alloc (.cells #[.int .u32 bd] 26)).heap.size = w.heap.size + 1 + 1 := by simp
  have e1 : World.cell? ((w.alloc (.cells ([.int .u32 o, .int .u32 a, .int .u32 b, .int .u32 c, .int .i64 m0, .int .i64 m1, .int .i64 m2, .int .i64 m3, .int .u32 m4, .int .i64 n0, .int .i64 n1, .int .i64 n2, .int .i64 n3, .int .u32 n4, .int .i64 p0, .int .i64 p1, .int .i64 p2, .int .i64 p3, .int .u32 p4] : List Value).toArray 52)).alloc (.cells #[.int .u32 bd] 26)) ⟨w.heap.size + 1, 0, none⟩ = some (.int .u32 bd) := by
    have h9 := cbox (w.alloc (.cells ([.int .u32 o, .int .u32 a, .int .u32 b, .int .u32 c, .int .i64 m0, .int .i64 m1, .int .i64 m2, .int .i64 m3, .int .u32 m4, .int .i64 n0, .int .i64 n1, .int .i64 n2, .int .i64 n3, .int .u32 n4, .int .i64 p0, .int .i64 p1, .int .i64 p2, .int .i64 p3, .int .u32 p4] : List Value).toArray 52)) [.int .u32 bd] 26 0 _ rfl
    rw [z1] at h9
    exact h9
  have d1 : World.cell? (((w.alloc (.cells ([.int .u32 o, .int .u32 a, .int .u32 b, .int .u32 c, .int .i64 m0, .int .i64 m1, .int .i64 m2, .int .i64 m3, .int .u32 m4, .int .i64 n0, .int .i64 n1, .int .i64 n2, .int .i64 n3, .int .u32 n4, .int .i64 p0, .int .i64 p1, .int .i64 p2, .int .i64 p3, .int .u32 p4] : List Value).toArray 52)).alloc (.cells #[.int .u32 bd] 26)).alloc (.cells #[.slice none 0 0] 138)) ⟨w.heap.size + 1, 0, none⟩ = some (.int .u32 bd) := (b3.cell (p := ⟨w.heap.size + 1, 0, none⟩) (by rw [z2]; exact Nat.lt_succ_self _)).trans e1
  have d2 : World.cell? (((w.alloc (.cells ([.int .u32 o, .int .u32 a, .int .u32 b, .int .u32 c, .int .i64 m0, .int .i64 m1, .int .i64 m2, .int .i64 m3, .int .u32 m4, .int .i64 n0, .int .i64 n1, .int .i64 n2, .int .i64 n3, .int .u32 n4, .int .i64 p0, .int .i64 p1, .int .i64 p2, .int .i64 p3, .int .u32 p4] : List Value).toArray 52)).alloc (.cells #[.int .u32 bd] 26)).alloc (.cells #[.slice none 0 0] 138)) ⟨w.heap.size + 1 + 1, 0, none⟩ = some (.slice none 0 0) := by
    have h9 := cbox ((w.alloc (.cells ([.int .u32 o, .int .u32 a, .int .u32 b, .int .u32 c, .int .i64 m0, .int .i64 m1, .int .i64 m2, .int .i64 m3, .int .u32 m4, .int .i64 n0, .int .i64 n1, .int .i64 n2, .int .i64 n3, .int .u32 n4, .int .i64 p0, .int .i64 p1, .int .i64 p2, .int .i64 p3, .int .u32 p4] : List Value).toArray 52)).alloc (.cells #[.int .u32 bd] 26)) [.slice none 0 0] 138 0 _ rfl
    rw [z2] at h9
    exact h9
  have HC := Lib.hid (change_hand_no HA.out x i hx hi rg pc st ft kk wt hF hR t1 t2 u1 u2 vs vr HE.out w.heap.size (w.heap.size + 1) (w.heap.size + 1 + 1) ⟨by simp, by simp, by simp⟩ o a b c bd m0 m1 m2 m3 m4 n0 n1 n2 n3 n4 p0 p1 p2 p3 p4 r0 d1 d2 HR2)
  clear b1 b2 b3 r0 d1 d2 e1 z1 z2
  go_enter Tryz.func51, Tryz.ntmps51
  go_wp2_with (first
    | (go_at_call 47; (with_reducible refine HC.out.mono ?_); rintro e w1 ⟨⟨v, rfl⟩, hg, hk⟩; have H1 := Lib.hid hg; have K1 := Lib.hid hk; clear hg hk; have c5 := H1.out.c5)
    | (go_at_call 63; (with_reducible refine (H1.out.qput x hxq hl hB).mono ?_); rintro e w2 ⟨⟨v2, rfl⟩, hg, hk⟩; have H2 := Lib.hid hg; have K2 := Lib.hid hk; clear hg hk))
  go_end0
  exact ⟨⟨_, rfl⟩, H2.out.tail.tail.tail, (GS.keep HB.out H.out).trans (K1.out.tail.tail.tail.trans K2.out.tail.tail.tail)⟩
end
end Go.Proofs.YtllcakiomihipaaGreatDoor
namespace Go.Proofs.YtllcakiomihipaaGreatDoor
open Go.ChangeShapes Go.WideShapes Go.ChangeAt Go.RowKit
set_option linter.unusedVariables false
set_option linter.unusedSimpArgs false
section
variable {w0 wb w w' W : World} {L : BLoc} {X : SLoc} {nd B : Nat} {A : List Nat} {F : Nat → Nat → Value} {l : List Int} {J NB : Nat} {rg : Nat → Int} {pc st ft : Int} {kk : Nat → Nat → Int} {wt : Int} {f f' : Nat → Value}
theorem off_len (l : List Int) (x : Int) : (V.offI l x).length ≤ l.length := by
  unfold V.offI
  exact List.length_filter_le _ _
theorem put_len (l : List Int) (x : Int) : (V.putAll l [x]).length ≤ l.length + 1 := by
  simp only [V.putAll, List.foldl_cons, List.foldl_nil]
  split <;> simp
set_option maxRecDepth 100000 in
set_option maxHeartbeats 400000 in
theorem pass5_fork (h : GS w0 w L X nd B A F l) (y : Int) (i : Nat) (hy : Hid (y = (i : Int))) (hi : i < nd) (rg : Nat → Int) (pc st ft : Int) (kk : Nat → Nat → Int) (wt : Int) (hF : Hid (F i = RW rg pc st ft kk wt)) (hR : Hid (∀ q, q < 19 → KRight kk q)) (t1 : 0 ≤ ft) (t2 : ft ≤ 6) (u1 : 0 ≤ wt) (u2 : wt ≤ 536870911) (vs vr : Value) (hE : ErrsAt vs vr w0) (hyq : V.wfI y) (hl : l.length ≤ 999) (hB : B ≤ 999) (x : Int) (hxq2 : V.wfI x) (k2 k3 k4 : Int) (o a b c : Int) (m0 m1 m2 m3 m4 : Int) (n0 n1 n2 n3 n4 : Int) (p0 p1 p2 p3 p4 : Int) (hm : rightB m0 m1 m2 m3 m4 = true) (hn : rightB n0 n1 n2 n3 n4 = true) (hp : rightB p0 p1 p2 p3 p4 = true) :
    Calls Tryz.prog 36 #[.pointer (some ⟨X.s, 0, none⟩), .int .i64 x, .int .i64 2, (Value.agg #[.int .i64 5, .int .i64 y, .int .i64 k2, .int .i64 k3, .int .u32 k4]), (Value.agg #[.int .u32 o, .int .u32 a, .int .u32 b, .int .u32 c, .int .i64 m0, .int .i64 m1, .int .i64 m2, .int .i64 m3, .int .u32 m4, .int .i64 n0, .int .i64 n1, .int .i64 n2, .int .i64 n3, .int .u32 n4, .int .i64 p0, .int .i64 p1, .int .i64 p2, .int .i64 p3, .int .u32 p4])] w fun e w' => (∃ v, e = .returned v) ∧ GS w0 w' L X nd (B + 2) A (setF F i (RW (tRg rg o a b c k4) pc 3 ft (tKk kk m0 m1 m2 m3 m4 n0 n1 n2 n3 n4 p0 p1 p2 p3 p4 0 0 0 0 0) wt)) (V.putAll (V.putAll l [y]) [x]) ∧ GK A w w' := by
  have H := Lib.hid h
  have HE := Lib.hid hE
  have HL2 : Hid ((V.putAll l [y]).length ≤ 1000) := Lib.hid (by have := put_len l y; omega)
  have HB2 : Hid (B + 1 ≤ 1000) := Lib.hid (by omega)
  have HLB := Lib.hid (show l.length ≤ 1000 ∧ B ≤ 1000 by omega)
  clear h hE hl hB
  go_enter Tryz.func36, Tryz.ntmps36
  go_upto_region 1 with fail
  generalize hgA : World.alloc _ _ = wA
  obtain ⟨KB, NB, hKB, hNB⟩ : ∃ KB NB, KB = w.heap.size ∧ NB = w.heap.size + 1 := ⟨_, _, rfl, rfl⟩
  have b1 : Below w.heap.size w (w.alloc (.cells #[.int .i64 5, .int .i64 y, .int .i64 k2, .int .i64 k3, .int .u32 k4] 31)) := (Below.refl _ _).alloc (Nat.le_refl _) _
  have HA : Hid (GS w0 wA L X nd B (NB :: KB :: A) F l ∧ Below w.heap.size w wA ∧ wA.rangeAt NB 0 ([.int .u32 o, .int .u32 a, .int .u32 b, .int .u32 c, .int .i64 m0, .int .i64 m1, .int .i64 m2, .int .i64 m3, .int .u32 m4, .int .i64 n0, .int .i64 n1, .int .i64 n2, .int .i64 n3, .int .u32 n4, .int .i64 p0, .int .i64 p1, .int .i64 p2, .int .i64 p3, .int .u32 p4] : List Value) ∧ KeyC wA KB 5 y k2 k3 k4) := Lib.hid (by
    have r := cbox (w.alloc (.cells #[.int .i64 5, .int .i64 y, .int .i64 k2, .int .i64 k3, .int .u32 k4] 31)) ([.int .u32 o, .int .u32 a, .int .u32 b, .int .u32 c, .int .i64 m0, .int .i64 m1, .int .i64 m2, .int .i64 m3, .int .u32 m4, .int .i64 n0, .int .i64 n1, .int .i64 n2, .int .i64 n3, .int .u32 n4, .int .i64 p0, .int .i64 p1, .int .i64 p2, .int .i64 p3, .int .u32 p4] : List Value) 52
    rw [show (w.alloc (.cells #[.int .i64 5, .int .i64 y, .int .i64 k2, .int .i64 k3, .int .u32 k4] 31)).heap.size = w.heap.size + 1 by simp] at r
    rw [← hgA, hNB, hKB]
    exact ⟨(H.out.more b1 w.heap.size (Nat.le_refl _) (by simp)).more ((Below.refl _ _).alloc (Nat.le_refl _) _) (w.heap.size + 1) (by simp) (by simp), b1.alloc (by simp) _, r, (KeyC.new w 5 y k2 k3 k4 _).below ((Below.refl _ _).alloc (Nat.le_refl _) _)⟩)
  rw [← hNB, ← hKB]
  clear hgA hNB hKB b1
  have q0 := HA.out.2.2.2.c0
  have q1 := HA.out.2.2.2.c1
  have q4 := HA.out.2.2.2.c4
  have HT := Lib.hid (hand_no HA.out.1 y i hy hi rg pc st ft kk wt hF hR t1 t2 u1 u2 vs vr HE.out hyq HLB.out.1 HLB.out.2 o a b c k4 m0 m1 m2 m3 m4 n0 n1 n2 n3 n4 p0 p1 p2 p3 p4 hm hn hp)
  go_upto_region 8 with (first
    | (refine wpList_load_mid (by rfl) _ _ (by rfl) NB 0 (by rfl) ([.int .u32 o, .int .u32 a, .int .u32 b, .int .u32 c, .int .i64 m0, .int .i64 m1, .int .i64 m2, .int .i64 m3, .int .u32 m4, .int .i64 n0, .int .i64 n1, .int .i64 n2, .int .i64 n3, .int .u32 n4, .int .i64 p0, .int .i64 p1, .int .i64 p2, .int .i64 p3, .int .u32 p4] : List Value) _ HA.out.2.2.1 Tryz.underlying52 rfl infoNote ?_)
    | (go_at_call 51; (with_reducible refine HT.out.mono ?_); rintro e w7 ⟨⟨v, rfl⟩, hg, hk⟩; have H7 := Lib.hid hg.tail.tail; have K7 := Lib.hid hk; clear hg hk q0 q1 q4))
  go_wp2_with (first | (go_at_call 61; (with_reducible refine (leave_fork H7.out x hxq2 HL2.out HB2.out).mono ?_); rintro e w8 ⟨⟨v2, rfl⟩, hg, hk⟩; have H8 := Lib.hid hg; have K8 := Lib.hid hk; clear hg hk))
  go_end0
  exact ⟨⟨_, rfl⟩, H8.out, (GS.keep HA.out.2.1 H.out).trans (K7.out.tail.tail.trans K8.out)⟩
set_option maxRecDepth 100000 in
set_option maxHeartbeats 400000 in
theorem pass5_ret (h : GS w0 w L X nd B A F l) (y : Int) (i : Nat) (hy : Hid (y = (i : Int))) (hi : i < nd) (rg : Nat → Int) (pc st ft : Int) (kk : Nat → Nat → Int) (wt : Int) (hF : Hid (F i = RW rg pc st ft kk wt)) (hR : Hid (∀ q, q < 19 → KRight kk q)) (t1 : 0 ≤ ft) (t2 : ft ≤ 6) (u1 : 0 ≤ wt) (u2 : wt ≤ 536870911) (vs vr : Value) (hE : ErrsAt vs vr w0) (hyq : V.wfI y) (hl : l.length ≤ 1000) (hB : B ≤ 1000) (x : Int) (j : Nat) (hxj : Hid (x = (j : Int))) (hj : j < nd) (hij : j ≠ i) (rj : Nat → Int) (pj sj fj : Int) (kj : Nat → Nat → Int) (wj : Int) (hFj : Hid (F j = RW rj pj sj fj kj wj)) (hRj : Hid (∀ q, q < 19 → KRight kj q)) (v1 : 0 ≤ fj) (v2 : fj ≤ 6) (v3 : 0 ≤ wj) (v4 : wj ≤ 536870911) (k2 k3 k4 : Int) (o a b c : Int) (m0 m1 m2 m3 m4 : Int) (n0 n1 n2 n3 n4 : Int) (p0 p1 p2 p3 p4 : Int) (hm : rightB m0 m1 m2 m3 m4 = true) (hn : rightB n0 n1 n2 n3 n4 = true) (hp : rightB p0 p1 p2 p3 p4 = true) :
    Calls Tryz.prog 36 #[.pointer (some ⟨X.s, 0, none⟩), .int .i64 x, .int .i64 1, (Value.agg #[.int .i64 5, .int .i64 y, .int .i64 k2, .int .i64 k3, .int .u32 k4]), (Value.agg #[.int .u32 o, .int .u32 a, .int .u32 b, .int .u32 c, .int .i64 m0, .int .i64 m1, .int .i64 m2, .int .i64 m3, .int .u32 m4, .int .i64 n0, .int .i64 n1, .int .i64 n2, .int .i64 n3, .int .u32 n4, .int .i64 p0, .int .i64 p1, .int .i64 p2, .int .i64 p3, .int .u32 p4])] w fun e w' => (∃ v, e = .returned v) ∧ GS w0 w' L X nd (B + 1) A (setF (setF F i (RW (tRg rg o a b c k4) pc 3 ft (tKk kk m0 m1 m2 m3 m4 n0 n1 n2 n3 n4 p0 p1 p2 p3 p4 0 0 0 0 0) wt)) j (RW rj pj 1 fj kj wj)) (V.putAll l [y]) ∧ GK A w w' := by
  have H := Lib.hid h
  have HE := Lib.hid hE
  have HFj : Hid ((setF F i (RW (tRg rg o a b c k4) pc 3 ft (tKk kk m0 m1 m2 m3 m4 n0 n1 n2 n3 n4 p0 p1 p2 p3 p4 0 0 0 0 0) wt)) j = RW rj pj sj fj kj wj) := Lib.hid (by unfold setF; rw [if_neg hij]; exact hFj.out)
  have HLB := Lib.hid (show l.length ≤ 1000 ∧ B ≤ 1000 by omega)
  clear h hE hl hB
  go_enter Tryz.func36, Tryz.ntmps36
  go_upto_region 1 with fail
  generalize hgA : World.alloc _ _ = wA
  obtain ⟨KB, NB, hKB, hNB⟩ : ∃ KB NB, KB = w.heap.size ∧ NB = w.heap.size + 1 := ⟨_, _, rfl, rfl⟩
  have b1 : Below w.heap.size w (w.alloc (.cells #[.int .i64 5, .int .i64 y, .int .i64 k2, .int .i64 k3, .int .u32 k4] 31)) := (Below.refl _ _).alloc (Nat.le_refl _) _
  have HA : Hid (GS w0 wA L X nd B (NB :: KB :: A) F l ∧ Below w.heap.size w wA ∧ wA.rangeAt NB 0 ([.int .u32 o, .int .u32 a, .int .u32 b, .int .u32 c, .int .i64 m0, .int .i64 m1, .int .i64 m2, .int .i64 m3, .int .u32 m4, .int .i64 n0, .int .i64 n1, .int .i64 n2, .int .i64 n3, .int .u32 n4, .int .i64 p0, .int .i64 p1, .int .i64 p2, .int .i64 p3, .int .u32 p4] : List Value) ∧ KeyC wA KB 5 y k2 k3 k4) := Lib.hid (by
    have r := cbox (w.alloc (.cells #[.int .i64 5, .int .i64 y, .int .i64 k2, .int .i64 k3, .int .u32 k4] 31)) ([.int .u32 o, .int .u32 a, .int .u32 b, .int .u32 c, .int .i64 m0, .int .i64 m1, .int .i64 m2, .int .i64 m3, .int .u32 m4, .int .i64 n0, .int .i64 n1, .int .i64 n2, .int .i64 n3, .int .u32 n4, .int .i64 p0, .int .i64 p1, .int .i64 p2, .int .i64 p3, .int .u32 p4] : List Value) 52
    rw [show (w.alloc (.cells #[.int .i64 5, .int .i64 y, .int .i64 k2, .int .i64 k3, .int .u32 k4] 31)).heap.size = w.heap.size + 1 by simp] at r
    rw [← hgA, hNB, hKB]
    exact ⟨(H.out.more b1 w.heap.size (Nat.le_refl _) (by simp)).more ((Below.refl _ _).alloc (Nat.le_refl _) _) (w.heap.size + 1) (by simp) (by simp), b1.alloc (by simp) _, r, (KeyC.new w 5 y k2 k3 k4 _).below ((Below.refl _ _).alloc (Nat.le_refl _) _)⟩)
  rw [← hNB, ← hKB]
  clear hgA hNB hKB b1
  have q0 := HA.out.2.2.2.c0
  have q1 := HA.out.2.2.2.c1
  have q4 := HA.out.2.2.2.c4
  have HT := Lib.hid (hand_no HA.out.1 y i hy hi rg pc st ft kk wt hF hR t1 t2 u1 u2 vs vr HE.out hyq HLB.out.1 HLB.out.2 o a b c k4 m0 m1 m2 m3 m4 n0 n1 n2 n3 n4 p0 p1 p2 p3 p4 hm hn hp)
  go_upto_region 8 with (first
    | (refine wpList_load_mid (by rfl) _ _ (by rfl) NB 0 (by rfl) ([.int .u32 o, .int .u32 a, .int .u32 b, .int .u32 c, .int .i64 m0, .int .i64 m1, .int .i64 m2, .int .i64 m3, .int .u32 m4, .int .i64 n0, .int .i64 n1, .int .i64 n2, .int .i64 n3, .int .u32 n4, .int .i64 p0, .int .i64 p1, .int .i64 p2, .int .i64 p3, .int .u32 p4] : List Value) _ HA.out.2.2.1 Tryz.underlying52 rfl infoNote ?_)
    | (go_at_call 51; (with_reducible refine HT.out.mono ?_); rintro e w7 ⟨⟨v, rfl⟩, hg, hk⟩; have H7 := Lib.hid hg.tail.tail; have K7 := Lib.hid hk; clear hg hk q0 q1 q4))
  go_wp2_with (first | (go_at_call 61; (with_reducible refine (leave_ret H7.out x j hxj hj rj pj sj fj kj wj HFj hRj v1 v2 v3 v4 vs vr HE.out).mono ?_); rintro e w8 ⟨⟨v2, rfl⟩, hg, hk⟩; have H8 := Lib.hid hg; have K8 := Lib.hid hk; clear hg hk))
  go_end0
  exact ⟨⟨_, rfl⟩, H8.out, (GS.keep HA.out.2.1 H.out).trans (K7.out.tail.tail.trans K8.out)⟩
end
end Go.Proofs.YtllcakiomihipaaGreatDoor
namespace Go.Proofs.YtllcakiomihipaaGreatDoor
open Go.ChangeShapes Go.WideShapes Go.ChangeAt Go.RowKit
set_option linter.unusedVariables false
set_option linter.unusedSimpArgs false
section
variable {w0 w w' W : World} {L : BLoc} {X : SLoc} {nd B : Nat} {A : List Nat} {F : Nat → Nat → Value} {l : List Int}
theorem ginv_call (h : GS w0 w L X nd B A F l) (x : Int) (i : Nat) (hx : Hid (x = (i : Int))) (hi : i < nd) (rg : Nat → Int) (pc ft : Int) (kk : Nat → Nat → Int) (wt : Int) (hF : Hid (F i = RW rg pc 3 ft kk wt)) (hR : Hid (∀ q, q < 19 → KRight kk q)) (t1 : 0 ≤ ft) (t2 : ft ≤ 6) (u1 : 0 ≤ wt) (u2 : wt ≤ 536870911) (hxq : V.wfI x) (hl : l.length ≤ 1000) (hB : B ≤ 1000) (vs vr : Value) (hE : ErrsAt vs vr w0) (k0 k1 k2 k3 k4 : Int) (hS : ∀ W, GS w0 W L X nd B [] F (V.offI l x) → Calls Tryz.prog 21 #[.pointer (some ⟨X.s, 0, none⟩), (Value.agg #[.int .i64 k0, .int .i64 k1, .int .i64 k2, .int .i64 k3, .int .u32 k4])] W fun e w' => e = .returned (Value.agg #[.int .i64 k0, .int .i64 k1, .int .i64 k2, .int .i64 k3, .int .u32 k4]) ∧ Below W.heap.size W w') (oo aa : Int) (hAn : ∀ W, GS w0 W L X nd B [] F (V.offI l x) → Calls Tryz.prog 32 #[.pointer (some ⟨X.s, 0, none⟩), (Value.agg #[.int .i64 k0, .int .i64 k1, .int .i64 k2, .int .i64 k3, .int .u32 k4]), (Value.agg #[.int .u32 0, .int .u32 0, .int .u32 0, .int .u32 0, .int .i64 0, .int .i64 0, .int .i64 0, .int .i64 0, .int .u32 0, .int .i64 0, .int .i64 0, .int .i64 0, .int .i64 0, .int .u32 0, .int .i64 0, .int .i64 0, .int .i64 0, .int .i64 0, .int .u32 0])] W fun e w' => e = .returned (.tuple #[(Value.agg #[.int .u32 oo, .int .u32 aa, .int .u32 0, .int .u32 0, .int .i64 0, .int .i64 0, .int .i64 0, .int .i64 0, .int .u32 0, .int .i64 0, .int .i64 0, .int .i64 0, .int .i64 0, .int .u32 0, .int .i64 0, .int .i64 0, .int .i64 0, .int .i64 0, .int .u32 0]), .bool true]) ∧ Below W.heap.size W w') :
    Calls Tryz.prog 12 #[.pointer (some ⟨X.s, 0, none⟩), .int .i64 x, .int .i64 0, (Value.agg #[.int .i64 k0, .int .i64 k1, .int .i64 k2, .int .i64 k3, .int .u32 k4]), (Value.agg #[.int .u32 0, .int .u32 0, .int .u32 0, .int .u32 0, .int .i64 0, .int .i64 0, .int .i64 0, .int .i64 0, .int .u32 0, .int .i64 0, .int .i64 0, .int .i64 0, .int .i64 0, .int .u32 0, .int .i64 0, .int .i64 0, .int .i64 0, .int .i64 0, .int .u32 0])] w fun e w' => e = .returned (.tuple #[(Value.agg ([.int .i64 0, .int .i64 (-1), .int .u32 oo, .int .u32 aa, .int .u32 0, .int .u32 0, .int .i64 0, .int .i64 0, .int .i64 0, .int .i64 0, .int .u32 0, .int .i64 0, .int .i64 0, .int .i64 0, .int .i64 0, .int .u32 0, .int .i64 0, .int .i64 0, .int .i64 0, .int .i64 0, .int .u32 0] : List Value).toArray), .nilIface]) ∧ (∃ B' F' l', (B' = B + 1 ∧ (∃ rg' kk', (∀ q, q < 19 → KRight kk' q) ∧ F' = setF F i (RW rg' pc 3 ft kk' wt)) ∧ l' = V.putAll (V.offI l x) [x]) ∧ GS w0 w' L X nd B' A F' l') ∧ GK A w w' := by
  refine (inv_go h x i hx hi rg pc ft kk wt hF 0 (by decide) (by decide) hxq hl k0 k1 k2 k3 k4 0 0 0 0 0 0 0 0 0 0 0 0 0 0 0 0 0 0 0 0 0 0 0 0 (fun W hW => oseen_void X.s vs vr W (hW.errs hE)) 0 0 0 0 0 (fun W hW => oseen_void X.s vs vr W (hW.errs hE)) 0 0 0 0 0 (fun W hW => oseen_void X.s vs vr W (hW.errs hE)) k0 k1 k2 k3 k4 hS oo aa 0 0 0 0 0 0 0 0 0 0 0 0 0 0 0 0 0 hAn (fun B' F' l' => B' = B + 1 ∧ (∃ rg' kk', (∀ q, q < 19 → KRight kk' q) ∧ F' = setF F i (RW rg' pc 3 ft kk' wt)) ∧ l' = V.putAll (V.offI l x) [x]) (fun A' W hW => ?_))
  refine (take_call hW x i hx hi rg pc ft kk wt hF hR t1 t2 u1 u2 vs vr hE hxq (Nat.le_trans (off_len l x) hl) hB 0 0 0 0 0 0 0 0 0 0 0 0 0 0 0 oo aa 0 0 (by decide) (by decide) (by decide)).mono ?_
  rintro e w9 ⟨h1, ⟨rg', kk', h2, -, h3⟩, h4⟩
  exact ⟨h1, ⟨_, _, _, ⟨rfl, ⟨rg', kk', h2, rfl⟩, rfl⟩, h3⟩, h4⟩
end
end Go.Proofs.YtllcakiomihipaaGreatDoor
namespace Go.Proofs.YtllcakiomihipaaGreatDoor
open Go.ChangeShapes Go.WideShapes Go.ChangeAt Go.RowKit
set_option linter.unusedVariables false
set_option linter.unusedSimpArgs false
section
variable {w0 w w' W : World} {L : BLoc} {X : SLoc} {nd B : Nat} {A : List Nat} {F : Nat → Nat → Value} {l : List Int}
theorem resInfo : (Tryz.prog.info? 54).map (·.size) = some 21 := by kernel_rfl
set_option maxRecDepth 100000 in
set_option maxHeartbeats 400000 in
theorem gs_first (vs vr : Value) (w : World) (hE : ErrsAt vs vr w) : Calls Tryz.prog 7 #[] w fun e w' => e = .returned (.bool true) ∧ Below w.heap.size w w' := by
  have HE := Lib.hid hE
  clear hE
  go_enter Tryz.func7, Tryz.ntmps7
  go_upto_region 5 with (first
    | (go_at_call 9; (with_reducible refine (two_is vs vr _ HE.out).mono ?_); rintro e w1 ⟨L, X, rfl, hg⟩; have H1 := Lib.hid hg; have HI := Lib.hid (ginv_call hg 0 0 (Lib.hid rfl) (by decide) (fun _ => 0) 0 0 (fun _ _ => 0) 0 (Lib.hid rfl) (Lib.hid (fun _ _ => (show rightB 0 0 0 0 0 = true by decide))) (by decide) (by decide) (by decide) (by decide) (by unfold V.wfI; decide) (by decide) (by decide) vs vr HE.out 1 0 0 0 8 (fun W hW => oseen_live 1 0 0 0 8 W (fun V hV => nvalid_ok 1 0 0 0 8 (Lib.hid (by decide)) vs vr V ((hW.errs HE.out).below hV)) (fun V hV => slive_plain X.s 1 0 0 0 8 (by decide) V)) 0 8 (fun W hW => ga_number 8 (by decide) hW vs vr HE.out)); clear hg)
    | (go_at_call 12; (with_reducible refine HI.out.mono ?_); rintro e w2 ⟨rfl, ⟨B', F', l', ⟨rfl, -, rfl⟩, hg⟩, -⟩; have H2 := Lib.hid hg; clear hg)
    | (refine wpList_store_mid (by rfl) _ _ _ (by rfl) w2.heap.size 0 ([.int .i64 0, .int .i64 (-1), .int .u32 0, .int .u32 8, .int .u32 0, .int .u32 0, .int .i64 0, .int .i64 0, .int .i64 0, .int .i64 0, .int .u32 0, .int .i64 0, .int .i64 0, .int .i64 0, .int .i64 0, .int .u32 0, .int .i64 0, .int .i64 0, .int .i64 0, .int .i64 0, .int .u32 0] : List Value).toArray (by rfl) (by rfl) (nthere_new _ _ 21 (by rfl) _) resInfo (by simp [Value.oneCell']) ?_; generalize hg : World.setCells _ w2.heap.size 0 _ = w3))
  obtain ⟨RB, hRB⟩ : ∃ RB, RB = w2.heap.size := ⟨_, rfl⟩
  have H3 : Hid (GS w w3 L X 4 (0 + 1) [] _ _ ∧ w3.rangeAt RB 0 [.int .i64 0, .int .i64 (-1), .int .u32 0, .int .u32 8, .int .u32 0, .int .u32 0, .int .i64 0, .int .i64 0, .int .i64 0, .int .i64 0, .int .u32 0, .int .i64 0, .int .i64 0, .int .i64 0, .int .i64 0, .int .u32 0, .int .i64 0, .int .i64 0, .int .i64 0, .int .i64 0, .int .u32 0]) := Lib.hid (by rw [← hg, hRB]; exact ⟨H2.out.below (nbelow_cells ((Below.refl _ _).alloc (Nat.le_refl _) _) (Nat.le_refl _) _ _), World.rangeAt_setCells_same _ _ 0 [.int .i64 0, .int .i64 (-1), .int .u32 0, .int .u32 8, .int .u32 0, .int .u32 0, .int .i64 0, .int .i64 0, .int .i64 0, .int .i64 0, .int .u32 0, .int .i64 0, .int .i64 0, .int .i64 0, .int .i64 0, .int .u32 0, .int .i64 0, .int .i64 0, .int .i64 0, .int .i64 0, .int .u32 0] (nthere_new _ _ 21 (by rfl) _)⟩)
  rw [← hRB]
  clear hg hRB
  have p0 := CallC.cell H3.out.2 0 _ rfl
  have p3 := CallC.cell H3.out.2 3 _ rfl
  have c5 := H3.out.1.c5
  go_wp2_with (first
    | (go_at_call 17; (with_reducible refine (H3.out.1.has 0 (by unfold V.wfI; decide) true (Lib.hid (by decide))).mono ?_); rintro e w4 ⟨rfl, hb⟩; have HB4 := Lib.hid hb; clear hb))
  go_ret
  exact ⟨rfl, H3.out.1.bel.trans (HB4.out.mono H3.out.1.bel.size)⟩
end
end Go.Proofs.YtllcakiomihipaaGreatDoor
namespace Go.Proofs.YtllcakiomihipaaGreatDoor
open Go.ChangeShapes Go.WideShapes Go.ChangeAt Go.RowKit
set_option linter.unusedVariables false
set_option linter.unusedSimpArgs false
section
variable {w0 wb w w' W : World} {L : BLoc} {X : SLoc} {nd B : Nat} {A : List Nat} {F : Nat → Nat → Value} {l : List Int} {J NB : Nat}
set_option maxRecDepth 100000 in
set_option maxHeartbeats 4000000 in
theorem inv_pass5 (h : GS w0 w L X nd B A F l) (x : Int) (i : Nat) (hx : Hid (x = (i : Int))) (hi : i < nd) (rg : Nat → Int) (pc ft : Int) (kk : Nat → Nat → Int) (wt : Int) (hF : Hid (F i = RW rg pc 3 ft kk wt)) (how : Int) (h0 : 0 ≤ how) (h2 : how ≤ 2) (hxq : V.wfI x) (hl : l.length ≤ 1000) (k0 k1 k2 k3 k4 : Int) (m0 m1 m2 m3 m4 : Int) (n0 n1 n2 n3 n4 : Int) (p0 p1 p2 p3 p4 : Int) (o a b c : Int) (u0 u1 u2 u3 u4 : Int) (hSm : ∀ W, GS w0 W L X nd B [] F (V.offI l x) → Calls Tryz.prog 21 #[.pointer (some ⟨X.s, 0, none⟩), (Value.agg #[.int .i64 m0, .int .i64 m1, .int .i64 m2, .int .i64 m3, .int .u32 m4])] W fun e w' => e = .returned (Value.agg #[.int .i64 u0, .int .i64 u1, .int .i64 u2, .int .i64 u3, .int .u32 u4]) ∧ Below W.heap.size W w') (v0 v1 v2 v3 v4 : Int) (hSn : ∀ W, GS w0 W L X nd B [] F (V.offI l x) → Calls Tryz.prog 21 #[.pointer (some ⟨X.s, 0, none⟩), (Value.agg #[.int .i64 n0, .int .i64 n1, .int .i64 n2, .int .i64 n3, .int .u32 n4])] W fun e w' => e = .returned (Value.agg #[.int .i64 v0, .int .i64 v1, .int .i64 v2, .int .i64 v3, .int .u32 v4]) ∧ Below W.heap.size W w') (z0 z1 z2 z3 z4 : Int) (hSp : ∀ W, GS w0 W L X nd B [] F (V.offI l x) → Calls Tryz.prog 21 #[.pointer (some ⟨X.s, 0, none⟩), (Value.agg #[.int .i64 p0, .int .i64 p1, .int .i64 p2, .int .i64 p3, .int .u32 p4])] W fun e w' => e = .returned (Value.agg #[.int .i64 z0, .int .i64 z1, .int .i64 z2, .int .i64 z3, .int .u32 z4]) ∧ Below W.heap.size W w') (r0 r1 r2 r3 r4 : Int) (hS : ∀ W, GS w0 W L X nd B [] F (V.offI l x) → Calls Tryz.prog 21 #[.pointer (some ⟨X.s, 0, none⟩), (Value.agg #[.int .i64 k0, .int .i64 k1, .int .i64 k2, .int .i64 k3, .int .u32 k4])] W fun e w' => e = .returned (Value.agg #[.int .i64 r0, .int .i64 r1, .int .i64 r2, .int .i64 r3, .int .u32 r4]) ∧ Below W.heap.size W w') (h5 : r0 = 5) (hAn : ∀ W, GS w0 W L X nd B [] F (V.offI l x) → Calls Tryz.prog 32 #[.pointer (some ⟨X.s, 0, none⟩), (Value.agg #[.int .i64 r0, .int .i64 r1, .int .i64 r2, .int .i64 r3, .int .u32 r4]), (Value.agg #[.int .u32 o, .int .u32 a, .int .u32 b, .int .u32 c, .int .i64 u0, .int .i64 u1, .int .i64 u2, .int .i64 u3, .int .u32 u4, .int .i64 v0, .int .i64 v1, .int .i64 v2, .int .i64 v3, .int .u32 v4, .int .i64 z0, .int .i64 z1, .int .i64 z2, .int .i64 z3, .int .u32 z4])] W fun e w' => e = .returned (.tuple #[(Value.agg #[.int .u32 0, .int .u32 0, .int .u32 0, .int .u32 0, .int .i64 0, .int .i64 0, .int .i64 0, .int .i64 0, .int .u32 0, .int .i64 0, .int .i64 0, .int .i64 0, .int .i64 0, .int .u32 0, .int .i64 0, .int .i64 0, .int .i64 0, .int .i64 0, .int .u32 0]), .bool false]) ∧ Below W.heap.size W w') (hAv : ∀ W, GS w0 W L X nd B [] F (V.offI l x) → Calls Tryz.prog 34 #[.pointer (some ⟨X.s, 0, none⟩), .int .i64 r1] W fun e w' => e = .returned (.bool true) ∧ Below W.heap.size W w') (Q : Nat → (Nat → Nat → Value) → List Int → Prop) (hT : ∀ A' W, GS w0 W L X nd B A' F (V.offI l x) → Calls Tryz.prog 36 #[.pointer (some ⟨X.s, 0, none⟩), .int .i64 x, .int .i64 how, (Value.agg #[.int .i64 r0, .int .i64 r1, .int .i64 r2, .int .i64 r3, .int .u32 r4]), (Value.agg #[.int .u32 o, .int .u32 a, .int .u32 b, .int .u32 c, .int .i64 u0, .int .i64 u1, .int .i64 u2, .int .i64 u3, .int .u32 u4, .int .i64 v0, .int .i64 v1, .int .i64 v2, .int .i64 v3, .int .u32 v4, .int .i64 z0, .int .i64 z1, .int .i64 z2, .int .i64 z3, .int .u32 z4])] W fun e w' => (∃ v, e = .returned v) ∧ (∃ B' F' l', Q B' F' l' ∧ GS w0 w' L X nd B' A' F' l') ∧ GK A' W w') :
    Calls Tryz.prog 12 #[.pointer (some ⟨X.s, 0, none⟩), .int .i64 x, .int .i64 how, (Value.agg #[.int .i64 k0, .int .i64 k1, .int .i64 k2, .int .i64 k3, .int .u32 k4]), (Value.agg #[.int .u32 o, .int .u32 a, .int .u32 b, .int .u32 c, .int .i64 m0, .int .i64 m1, .int .i64 m2, .int .i64 m3, .int .u32 m4, .int .i64 n0, .int .i64 n1, .int .i64 n2, .int .i64 n3, .int .u32 n4, .int .i64 p0, .int .i64 p1, .int .i64 p2, .int .i64 p3, .int .u32 p4])] w fun e w' => e = .returned (.tuple #[.agg ([.int .i64 1, .int .i64 r1, .int .u32 0, .int .u32 0, .int .u32 0, .int .u32 0, .int .i64 0, .int .i64 0, .int .i64 0, .int .i64 0, .int .u32 0, .int .i64 0, .int .i64 0, .int .i64 0, .int .i64 0, .int .u32 0, .int .i64 0, .int .i64 0, .int .i64 0, .int .i64 0, .int .u32 0] : List Value).toArray, .nilIface]) ∧ (∃ B' F' l', Q B' F' l' ∧ GS w0 w' L X nd B' A F' l') ∧ GK A w w' := by
  have e5 : (r0 == 5) = true := by rw [h5]; rfl
  have HAn := Lib.hid hAn
  have HT := Lib.hid hT
  have HAv := Lib.hid hAv
  clear hAn hT h5 hAv
  have H := Lib.hid h
  have HOne : Hid (∀ j, j < 107 → (RW rg pc 3 ft kk wt j).oneCell' = true) := Lib.hid (fun j _ => RW_one _ _ _ _ _ _ j)
  have HOneF : Hid (∀ j, j < 107 → (F i j).oneCell' = true) := Lib.hid (by rw [hF.out]; exact HOne.out)
  have HS := Lib.hid hS
  have HM := Lib.hid hSm
  have HN2 := Lib.hid hSn
  have HP2 := Lib.hid hSp
  clear h hS hSm hSn hSp
  go_enter Tryz.func12, Tryz.ntmps12
  go_upto_region 1 with fail
  generalize hgA : World.alloc _ _ = wA; obtain ⟨KB, NB, RB, hKB, hNB, hRB⟩ : ∃ KB NB RB, KB = w.heap.size ∧ NB = w.heap.size + 1 ∧ RB = w.heap.size + 1 + 1 := ⟨_, _, _, rfl, rfl, rfl⟩; have HA : Hid (IV w0 w wA L X nd B A F l KB NB RB [.int .i64 k0, .int .i64 k1, .int .i64 k2, .int .i64 k3, .int .u32 k4] ([.int .u32 o, .int .u32 a, .int .u32 b, .int .u32 c, .int .i64 m0, .int .i64 m1, .int .i64 m2, .int .i64 m3, .int .u32 m4, .int .i64 n0, .int .i64 n1, .int .i64 n2, .int .i64 n3, .int .u32 n4, .int .i64 p0, .int .i64 p1, .int .i64 p2, .int .i64 p3, .int .u32 p4] : List Value) [.int .i64 0, .int .i64 0, .int .u32 0, .int .u32 0, .int .u32 0, .int .u32 0, .int .i64 0, .int .i64 0, .int .i64 0, .int .i64 0, .int .u32 0, .int .i64 0, .int .i64 0, .int .i64 0, .int .i64 0, .int .u32 0, .int .i64 0, .int .i64 0, .int .i64 0, .int .i64 0, .int .u32 0]) := (Lib.hid (by rw [← hgA, hKB, hNB, hRB]; exact IV.made H.out [.int .i64 k0, .int .i64 k1, .int .i64 k2, .int .i64 k3, .int .u32 k4] ([.int .u32 o, .int .u32 a, .int .u32 b, .int .u32 c, .int .i64 m0, .int .i64 m1, .int .i64 m2, .int .i64 m3, .int .u32 m4, .int .i64 n0, .int .i64 n1, .int .i64 n2, .int .i64 n3, .int .u32 n4, .int .i64 p0, .int .i64 p1, .int .i64 p2, .int .i64 p3, .int .u32 p4] : List Value) [.int .i64 0, .int .i64 0, .int .u32 0, .int .u32 0, .int .u32 0, .int .u32 0, .int .i64 0, .int .i64 0, .int .i64 0, .int .i64 0, .int .u32 0, .int .i64 0, .int .i64 0, .int .i64 0, .int .i64 0, .int .u32 0, .int .i64 0, .int .i64 0, .int .i64 0, .int .i64 0, .int .u32 0] _ _ _ rfl rfl rfl)); rw [← hRB, ← hNB, ← hKB]; clear hgA hKB hNB hRB
  have c1 := HA.out.gs.c1
  go_upto_region 2 with (first
    | (go_at_call 10; (with_reducible refine (HA.out.gs.get x i hx hi HOneF).mono ?_); rintro e w1 ⟨rfl, hb⟩; have H1 := Lib.hid (HA.out.below hb); clear hb)
    | (refine wpList_store_mid (by rfl) _ _ _ (by rfl) w1.heap.size 0 (rowL (F i)).toArray (by rfl) (by rfl) (by rw [rowL_size]; exact nthere_new _ _ 107 zsize _) (by rw [rowL_size]; exact infoDomS) (rowL_one (F i) HOneF.out) ?_))
  generalize hg : World.setCells _ w1.heap.size 0 _ = w2
  have H2 := Lib.hid (show IV w0 w w2 L X nd B A F l KB NB RB _ _ _ ∧ w2.rangeAt w1.heap.size 0 (rowL (RW rg pc 3 ft kk wt)) by rw [← hg, ← hF.out]; exact ⟨H1.out.below (nbelow_cells ((Below.refl _ _).alloc (Nat.le_refl _) _) (Nat.le_refl _) _ _), World.rangeAt_setCells_same _ _ 0 (rowL (F i)) (by rw [rowL_len]; exact nthere_new _ _ 107 zsize _)⟩)
  clear hg
  have j9 : w2.cell? ⟨w1.heap.size, 9, none⟩ = some (.int .i64 3) := rangeD H2.out.2 9 (by decide)
  have H2 := Lib.hid H2.out.1
  have c5 := H2.out.gs.c5
  go_upto_region 9 with (first
    | (go_at_call 31; (with_reducible refine (H2.out.gs.drop x hxq hl).mono ?_); rintro e w3 ⟨⟨t, rfl⟩, hg, hk⟩; have H3 := Lib.hid (H2.out.turn hg hk); clear hg hk c5 j9))
  have k1' := H3.out.kc
  go_upto_region 10 with (first
    | (refine wpList_load_mid (by rfl) _ _ (by rfl) KB 0 (by rfl) [.int .i64 k0, .int .i64 k1, .int .i64 k2, .int .i64 k3, .int .u32 k4] _ k1' Tryz.underlying31 rfl keyInfo5 ?_)
    | (go_at_call 21; (with_reducible refine (HS.out _ (H3.out.gs.sub (by simp))).mono ?_); rintro e w4 ⟨rfl, hb⟩; have H4 := Lib.hid (H3.out.below hb); clear hb k1')
    | (refine wpList_store_mid (by rfl) _ _ _ (by rfl) KB 0 #[.int .i64 r0, .int .i64 r1, .int .i64 r2, .int .i64 r3, .int .u32 r4] (by rfl) (by rfl) H4.out.kt keyInfo5 (by simp [Value.oneCell']) ?_))
  generalize hg : World.setCells w4 KB 0 _ = w5
  have H5 := Lib.hid (show IV w0 w w5 L X nd B A F (V.offI l x) KB NB RB [.int .i64 r0, .int .i64 r1, .int .i64 r2, .int .i64 r3, .int .u32 r4] _ _ by rw [← hg]; exact H4.out.putk [.int .i64 r0, .int .i64 r1, .int .i64 r2, .int .i64 r3, .int .u32 r4] rfl)
  clear hg
  have HN5 : Hid (w5.rangeAt NB 4 [.int .i64 m0, .int .i64 m1, .int .i64 m2, .int .i64 m3, .int .u32 m4, .int .i64 n0, .int .i64 n1, .int .i64 n2, .int .i64 n3, .int .u32 n4, .int .i64 p0, .int .i64 p1, .int .i64 p2, .int .i64 p3, .int .u32 p4]) := Lib.hid (fun j v hv => by
    have h := CallC.cell H5.out.nc (4 + j) v
    exact h (by
      have e : ([.int .u32 o, .int .u32 a, .int .u32 b, .int .u32 c, .int .i64 m0, .int .i64 m1, .int .i64 m2, .int .i64 m3, .int .u32 m4, .int .i64 n0, .int .i64 n1, .int .i64 n2, .int .i64 n3, .int .u32 n4, .int .i64 p0, .int .i64 p1, .int .i64 p2, .int .i64 p3, .int .u32 p4] : List Value) = [.int .u32 o, .int .u32 a, .int .u32 b, .int .u32 c] ++ [.int .i64 m0, .int .i64 m1, .int .i64 m2, .int .i64 m3, .int .u32 m4, .int .i64 n0, .int .i64 n1, .int .i64 n2, .int .i64 n3, .int .u32 n4, .int .i64 p0, .int .i64 p1, .int .i64 p2, .int .i64 p3, .int .u32 p4] := rfl
      rw [e, List.getElem?_append_right (by simp)]
      simpa using hv))
  go_wp2_with (first
    | (refine wpList_load_mid (by rfl) _ _ (by rfl) NB 4 (by rfl) [.int .i64 m0, .int .i64 m1, .int .i64 m2, .int .i64 m3, .int .u32 m4, .int .i64 n0, .int .i64 n1, .int .i64 n2, .int .i64 n3, .int .u32 n4, .int .i64 p0, .int .i64 p1, .int .i64 p2, .int .i64 p3, .int .u32 p4] _ HN5.out Tryz.underlying50 rfl (by kernel_rfl) ?_))
  refine wp_loop_rounds 4 ?_
  rw [rounds_succ]; have hix : (Instr.index 50 (.agg [.int .i64 m0, .int .i64 m1, .int .i64 m2, .int .i64 m3, .int .u32 m4, .int .i64 n0, .int .i64 n1, .int .i64 n2, .int .i64 n3, .int .u32 n4, .int .i64 p0, .int .i64 p1, .int .i64 p2, .int .i64 p3, .int .u32 p4].toArray) (.int .i64 0)).run Tryz.prog w5 = .ok (.agg (List.toArray [.int .i64 m0, .int .i64 m1, .int .i64 m2, .int .i64 m3, .int .u32 m4])) w5 := (by kernel_rfl); simp only [List.toArray] at hix; go_upto_region 13 with fail; generalize hg : World.alloc w5 _ = w6; obtain ⟨XB, hXB⟩ : ∃ XB, XB = w5.heap.size := ⟨_, rfl⟩; have H6 := Lib.hid (show IV w0 w w6 L X nd B A F (V.offI l x) KB NB RB _ _ _ ∧ w6.rangeAt XB 0 [.int .i64 m0, .int .i64 m1, .int .i64 m2, .int .i64 m3, .int .u32 m4] by rw [← hg, hXB]; exact ⟨H5.out.below ((Below.refl _ _).alloc (Nat.le_refl _) _), cbox _ [.int .i64 m0, .int .i64 m1, .int .i64 m2, .int .i64 m3, .int .u32 m4] _⟩); rw [← hXB]; clear hg hXB hix; go_upto_region 14 with (first | (refine wpList_load_mid (by rfl) _ _ (by rfl) XB 0 (by rfl) [.int .i64 m0, .int .i64 m1, .int .i64 m2, .int .i64 m3, .int .u32 m4] _ H6.out.2 Tryz.underlying31 rfl keyInfo5 ?_) | (go_at_call 21; (with_reducible refine (HM.out _ (H6.out.1.gs.sub (by simp))).mono ?_); rintro e w7 ⟨rfl, hb⟩; have H7 := Lib.hid (H6.out.1.below hb); clear hb) | (refine wpList_store_mid (by rfl) _ _ _ (by rfl) NB 4 (List.toArray [.int .i64 u0, .int .i64 u1, .int .i64 u2, .int .i64 u3, .int .u32 u4]) (by rfl) (by rfl) (fun j hj => by have hj' : j < 5 := hj; have h := H7.out.ot (4 + j) (by omega); rwa [Nat.zero_add] at h) keyInfo5 (by simp [Value.oneCell']) ?_)); generalize hg : World.setCells w7 NB 4 _ = w8; have H8 := Lib.hid (show IV w0 w w8 L X nd B A F (V.offI l x) KB NB RB _ ([.int .u32 o, .int .u32 a, .int .u32 b, .int .u32 c, .int .i64 u0, .int .i64 u1, .int .i64 u2, .int .i64 u3, .int .u32 u4, .int .i64 n0, .int .i64 n1, .int .i64 n2, .int .i64 n3, .int .u32 n4, .int .i64 p0, .int .i64 p1, .int .i64 p2, .int .i64 p3, .int .u32 p4] : List Value) _ by rw [← hg]; exact H7.out.putn 4 [.int .i64 u0, .int .i64 u1, .int .i64 u2, .int .i64 u3, .int .u32 u4] _ (range_key5 H7.out.nc 4 _ _ _ _ _)); clear hg; go_wp2_with fail
  rw [rounds_succ]; have hix : (Instr.index 50 (.agg [.int .i64 m0, .int .i64 m1, .int .i64 m2, .int .i64 m3, .int .u32 m4, .int .i64 n0, .int .i64 n1, .int .i64 n2, .int .i64 n3, .int .u32 n4, .int .i64 p0, .int .i64 p1, .int .i64 p2, .int .i64 p3, .int .u32 p4].toArray) (.int .i64 1)).run Tryz.prog w8 = .ok (.agg (List.toArray [.int .i64 n0, .int .i64 n1, .int .i64 n2, .int .i64 n3, .int .u32 n4])) w8 := (by kernel_rfl); simp only [List.toArray] at hix; go_upto_region 13 with fail; generalize hg : World.alloc w8 _ = w6; obtain ⟨XB, hXB⟩ : ∃ XB, XB = w8.heap.size := ⟨_, rfl⟩; have H6 := Lib.hid (show IV w0 w w6 L X nd B A F (V.offI l x) KB NB RB _ _ _ ∧ w6.rangeAt XB 0 [.int .i64 n0, .int .i64 n1, .int .i64 n2, .int .i64 n3, .int .u32 n4] by rw [← hg, hXB]; exact ⟨H8.out.below ((Below.refl _ _).alloc (Nat.le_refl _) _), cbox _ [.int .i64 n0, .int .i64 n1, .int .i64 n2, .int .i64 n3, .int .u32 n4] _⟩); rw [← hXB]; clear hg hXB hix; go_upto_region 14 with (first | (refine wpList_load_mid (by rfl) _ _ (by rfl) XB 0 (by rfl) [.int .i64 n0, .int .i64 n1, .int .i64 n2, .int .i64 n3, .int .u32 n4] _ H6.out.2 Tryz.underlying31 rfl keyInfo5 ?_) | (go_at_call 21; (with_reducible refine (HN2.out _ (H6.out.1.gs.sub (by simp))).mono ?_); rintro e w7 ⟨rfl, hb⟩; have H7 := Lib.hid (H6.out.1.below hb); clear hb) | (refine wpList_store_mid (by rfl) _ _ _ (by rfl) NB 9 (List.toArray [.int .i64 v0, .int .i64 v1, .int .i64 v2, .int .i64 v3, .int .u32 v4]) (by rfl) (by rfl) (fun j hj => by have hj' : j < 5 := hj; have h := H7.out.ot (9 + j) (by omega); rwa [Nat.zero_add] at h) keyInfo5 (by simp [Value.oneCell']) ?_)); generalize hg : World.setCells w7 NB 9 _ = w9; have H9 := Lib.hid (show IV w0 w w9 L X nd B A F (V.offI l x) KB NB RB _ ([.int .u32 o, .int .u32 a, .int .u32 b, .int .u32 c, .int .i64 u0, .int .i64 u1, .int .i64 u2, .int .i64 u3, .int .u32 u4, .int .i64 v0, .int .i64 v1, .int .i64 v2, .int .i64 v3, .int .u32 v4, .int .i64 p0, .int .i64 p1, .int .i64 p2, .int .i64 p3, .int .u32 p4] : List Value) _ by rw [← hg]; exact H7.out.putn 9 [.int .i64 v0, .int .i64 v1, .int .i64 v2, .int .i64 v3, .int .u32 v4] _ (range_key5 H7.out.nc 9 _ _ _ _ _)); clear hg; go_wp2_with fail
  rw [rounds_succ]; have hix : (Instr.index 50 (.agg [.int .i64 m0, .int .i64 m1, .int .i64 m2, .int .i64 m3, .int .u32 m4, .int .i64 n0, .int .i64 n1, .int .i64 n2, .int .i64 n3, .int .u32 n4, .int .i64 p0, .int .i64 p1, .int .i64 p2, .int .i64 p3, .int .u32 p4].toArray) (.int .i64 2)).run Tryz.prog w9 = .ok (.agg (List.toArray [.int .i64 p0, .int .i64 p1, .int .i64 p2, .int .i64 p3, .int .u32 p4])) w9 := (by kernel_rfl); simp only [List.toArray] at hix; go_upto_region 13 with fail; generalize hg : World.alloc w9 _ = w6; obtain ⟨XB, hXB⟩ : ∃ XB, XB = w9.heap.size := ⟨_, rfl⟩; have H6 := Lib.hid (show IV w0 w w6 L X nd B A F (V.offI l x) KB NB RB _ _ _ ∧ w6.rangeAt XB 0 [.int .i64 p0, .int .i64 p1, .int .i64 p2, .int .i64 p3, .int .u32 p4] by rw [← hg, hXB]; exact ⟨H9.out.below ((Below.refl _ _).alloc (Nat.le_refl _) _), cbox _ [.int .i64 p0, .int .i64 p1, .int .i64 p2, .int .i64 p3, .int .u32 p4] _⟩); rw [← hXB]; clear hg hXB hix; go_upto_region 14 with (first | (refine wpList_load_mid (by rfl) _ _ (by rfl) XB 0 (by rfl) [.int .i64 p0, .int .i64 p1, .int .i64 p2, .int .i64 p3, .int .u32 p4] _ H6.out.2 Tryz.underlying31 rfl keyInfo5 ?_) | (go_at_call 21; (with_reducible refine (HP2.out _ (H6.out.1.gs.sub (by simp))).mono ?_); rintro e w7 ⟨rfl, hb⟩; have H7 := Lib.hid (H6.out.1.below hb); clear hb) | (refine wpList_store_mid (by rfl) _ _ _ (by rfl) NB 14 (List.toArray [.int .i64 z0, .int .i64 z1, .int .i64 z2, .int .i64 z3, .int .u32 z4]) (by rfl) (by rfl) (fun j hj => by have hj' : j < 5 := hj; have h := H7.out.ot (14 + j) (by omega); rwa [Nat.zero_add] at h) keyInfo5 (by simp [Value.oneCell']) ?_)); generalize hg : World.setCells w7 NB 14 _ = w10; have H10 := Lib.hid (show IV w0 w w10 L X nd B A F (V.offI l x) KB NB RB _ ([.int .u32 o, .int .u32 a, .int .u32 b, .int .u32 c, .int .i64 u0, .int .i64 u1, .int .i64 u2, .int .i64 u3, .int .u32 u4, .int .i64 v0, .int .i64 v1, .int .i64 v2, .int .i64 v3, .int .u32 v4, .int .i64 z0, .int .i64 z1, .int .i64 z2, .int .i64 z3, .int .u32 z4] : List Value) _ by rw [← hg]; exact H7.out.putn 14 [.int .i64 z0, .int .i64 z1, .int .i64 z2, .int .i64 z3, .int .u32 z4] _ (range_key5 H7.out.nc 14 _ _ _ _ _)); clear hg; go_wp2_with fail
  rw [rounds_succ]
  clear H1 H2 H3 H4 H5 H6 H7 H8 H9 HA HN5
  go_upto_region 15 with fail
  have hkc := H10.out.kc
  have hnc := H10.out.nc
  have HG10 := Lib.hid (H10.out.gs.sub (A' := []) (by simp))
  go_upto_region 16 with (first
    | (refine wpList_load_mid (by rfl) _ _ (by rfl) KB 0 (by rfl) [.int .i64 r0, .int .i64 r1, .int .i64 r2, .int .i64 r3, .int .u32 r4] _ hkc Tryz.underlying31 rfl keyInfo5 ?_; clear hkc)
    | (refine wpList_load_mid (by rfl) _ _ (by rfl) NB 0 (by rfl) ([.int .u32 o, .int .u32 a, .int .u32 b, .int .u32 c, .int .i64 u0, .int .i64 u1, .int .i64 u2, .int .i64 u3, .int .u32 u4, .int .i64 v0, .int .i64 v1, .int .i64 v2, .int .i64 v3, .int .u32 v4, .int .i64 z0, .int .i64 z1, .int .i64 z2, .int .i64 z3, .int .u32 z4] : List Value) _ hnc Tryz.underlying52 rfl infoNote ?_)
    | (go_at_call 32; (with_reducible refine (HAn.out _ HG10.out).mono ?_); rintro e w11 ⟨rfl, hb⟩; have H11 := Lib.hid (H10.out.below hb); clear hb hnc)
    | (refine wpList_store_mid (by rfl) _ _ _ (by rfl) w11.heap.size 0 ([.int .u32 0, .int .u32 0, .int .u32 0, .int .u32 0, .int .i64 0, .int .i64 0, .int .i64 0, .int .i64 0, .int .u32 0, .int .i64 0, .int .i64 0, .int .i64 0, .int .i64 0, .int .u32 0, .int .i64 0, .int .i64 0, .int .i64 0, .int .i64 0, .int .u32 0] : List Value).toArray (by rfl) (by rfl) (nthere_new _ _ 19 (by rfl) _) infoNote (note_one _ _ _ _ _ _ _ _ _ _ _ _ _ _ _ _ _ _ _) ?_; generalize hg : World.setCells _ w11.heap.size 0 _ = w12))
  have H12 := Lib.hid (show IV w0 w w12 L X nd B A F (V.offI l x) KB NB RB _ _ _ by
    have b := nbelow_cells ((Below.refl _ _).alloc (Nat.le_refl _) _ : Below w11.heap.size w11 (w11.alloc (.cells ([.int .u32 0, .int .u32 0, .int .u32 0, .int .u32 0, .int .i64 0, .int .i64 0, .int .i64 0, .int .i64 0, .int .u32 0, .int .i64 0, .int .i64 0, .int .i64 0, .int .i64 0, .int .u32 0, .int .i64 0, .int .i64 0, .int .i64 0, .int .i64 0, .int .u32 0] : List Value).toArray 52))) (Nat.le_refl _) [.int .u32 0, .int .u32 0, .int .u32 0, .int .u32 0, .int .i64 0, .int .i64 0, .int .i64 0, .int .i64 0, .int .u32 0, .int .i64 0, .int .i64 0, .int .i64 0, .int .i64 0, .int .u32 0, .int .i64 0, .int .i64 0, .int .i64 0, .int .i64 0, .int .u32 0] 0
    rw [← hg]
    exact H11.out.below b)
  clear hg H10 H11 HG10
  have q0 := CallC.cell H12.out.kc 0 _ rfl
  have q1 := CallC.cell H12.out.kc 1 _ rfl
  have HG12 := Lib.hid (H12.out.gs.sub (A' := []) (by simp))
  go_upto_region 22 with (first | (go_at_call 34; (with_reducible refine (HAv.out _ HG12.out).mono ?_); rintro e w13 ⟨rfl, hb⟩; have H13 := Lib.hid (H12.out.below hb); clear hb q0 q1; have q1 := CallC.cell H13.out.kc 1 _ rfl; have HG13 := Lib.hid H13.out.gs))
  have hkc := H13.out.kc
  have hnc := H13.out.nc
  go_upto_region 23 with (first
    | (refine wpList_load_mid (by rfl) _ _ (by rfl) KB 0 (by rfl) [.int .i64 r0, .int .i64 r1, .int .i64 r2, .int .i64 r3, .int .u32 r4] _ hkc Tryz.underlying31 rfl keyInfo5 ?_; clear hkc)
    | (refine wpList_load_mid (by rfl) _ _ (by rfl) NB 0 (by rfl) ([.int .u32 o, .int .u32 a, .int .u32 b, .int .u32 c, .int .i64 u0, .int .i64 u1, .int .i64 u2, .int .i64 u3, .int .u32 u4, .int .i64 v0, .int .i64 v1, .int .i64 v2, .int .i64 v3, .int .u32 v4, .int .i64 z0, .int .i64 z1, .int .i64 z2, .int .i64 z3, .int .u32 z4] : List Value) _ hnc Tryz.underlying52 rfl infoNote ?_)
    | (go_at_call 36; (with_reducible refine (HT.out _ _ HG13.out).mono ?_); rintro e w14 ⟨⟨vT, rfl⟩, hq, hk⟩; have H14 := Lib.hid hq; have K14 := Lib.hid hk; have HR14 := Lib.hid (nthere_same H13.out.rt (hk.eq RB (by simp))); have HK14 := Lib.hid (range_same H13.out.kc (hk.eq KB (by simp))); clear hq hk q1 hnc))
  have q1 := CallC.cell HK14.out 1 _ rfl
  go_wp2_with (first
    | (refine wpList_store_mid (by rfl) _ _ _ (by rfl) RB 0 ([.int .i64 1, .int .i64 r1, .int .u32 0, .int .u32 0, .int .u32 0, .int .u32 0, .int .i64 0, .int .i64 0, .int .i64 0, .int .i64 0, .int .u32 0, .int .i64 0, .int .i64 0, .int .i64 0, .int .i64 0, .int .u32 0, .int .i64 0, .int .i64 0, .int .i64 0, .int .i64 0, .int .u32 0] : List Value).toArray (by rfl) (by rfl) HR14.out (by kernel_rfl) (by simp [Value.oneCell']) ?_; generalize hg : World.setCells _ RB 0 _ = w19))
  obtain ⟨B9, F9, l9, hQ9, hG9⟩ := H14.out
  have H19 := Lib.hid (show GS w0 w19 L X nd B9 (RB :: NB :: KB :: A) F9 l9 ∧ GK A w14 w19 ∧ w19.rangeAt RB 0 ([.int .i64 1, .int .i64 r1, .int .u32 0, .int .u32 0, .int .u32 0, .int .u32 0, .int .i64 0, .int .i64 0, .int .i64 0, .int .i64 0, .int .u32 0, .int .i64 0, .int .i64 0, .int .i64 0, .int .i64 0, .int .u32 0, .int .i64 0, .int .i64 0, .int .i64 0, .int .i64 0, .int .u32 0] : List Value) by
    have hlt := H13.out.lt
    have hxs := H13.out.xs
    have hna := H13.out.na
    rw [← hg]
    exact ⟨hG9.cells RB (by simp) (by omega) 0 _, GK.cells (fun hm => by have := hna _ hm; omega) _ _ _, World.rangeAt_setCells_same _ _ 0 ([.int .i64 1, .int .i64 r1, .int .u32 0, .int .u32 0, .int .u32 0, .int .u32 0, .int .i64 0, .int .i64 0, .int .i64 0, .int .i64 0, .int .u32 0, .int .i64 0, .int .i64 0, .int .i64 0, .int .i64 0, .int .u32 0, .int .i64 0, .int .i64 0, .int .i64 0, .int .i64 0, .int .u32 0] : List Value) HR14.out⟩)
  clear hg hG9
  go_wp2_with fail
  have hld := run_loadVar_mid (P := Tryz.prog) w19 RB 0 54 ([.int .i64 1, .int .i64 r1, .int .u32 0, .int .u32 0, .int .u32 0, .int .u32 0, .int .i64 0, .int .i64 0, .int .i64 0, .int .i64 0, .int .u32 0, .int .i64 0, .int .i64 0, .int .i64 0, .int .i64 0, .int .u32 0, .int .i64 0, .int .i64 0, .int .i64 0, .int .i64 0, .int .u32 0] : List Value) _ H19.out.2.2 Tryz.underlying54 rfl (by kernel_rfl)
  (try simp only [Exit.inBlock, Exit.then])
  exact bodyPost_ret (results_cell_tmp (a := 10) (t := 11) (by rfl) _ ⟨RB, 0, none⟩ (by rfl) _ _ _ hld) rfl ⟨rfl, ⟨B9, F9, l9, hQ9, H19.out.1.tail.tail.tail⟩, H13.out.gk.trans (K14.out.tail.tail.tail.trans H19.out.2.1)⟩
end
end Go.Proofs.YtllcakiomihipaaGreatDoor
namespace Go.Proofs.YtllcakiomihipaaGreatDoor.V
open Go.ChangeShapes Go.WideShapes Go.ChangeAt Go.RowKit Go.Maps
set_option linter.unusedVariables false
/-- Numbers are read there. -/
def RI (w : World) (a : Option Addr) (xs : List Int) : Prop := ∀ i, i < xs.length → ∃ ad, a = some ad ∧ ad.block < w.heap.size ∧ w.cell? (ad.add i) = some (.int .i64 (xs.getD i 0))
theorem RI.below {w w' : World} {a : Option Addr} {xs : List Int} (h : RI w a xs) (hb : Below w.heap.size w w') : RI w' a xs := by
  intro i hi
  obtain ⟨ad, h1, h2, h3⟩ := h i hi
  exact ⟨ad, h1, Nat.lt_of_lt_of_le h2 hb.size, (hb.cell (p := ad.add i) (by rw [add_block']; exact h2)).trans h3⟩
theorem own_ri {w : World} {B n c : Nat} {a : Option Addr} {xs : List Int} (h : w.ownsRow B 3 1 (.slice a n c) n (xs.map (Value.int .i64))) (hn : xs.length = n) : RI w a xs := by
  intro i hi
  rcases h.2 with ⟨_, h0⟩ | ⟨g, cap, cur, hv, hB, hg, rest⟩
  · omega
  · obtain rfl : a = some ⟨g, 0, none⟩ := by simp at hv; exact hv.1
    refine ⟨_, rfl, lt_of_block hg, ?_⟩
    have := h.cellAt i (by omega)
    rw [show (Addr.add ⟨g, 0, none⟩ i) = ⟨g, i, none⟩ by (simp [Addr.add]; exact fun h => h.symm), this]
    simp [List.getD, hi]
theorem below_dN {w w' : World} {B : Nat} (h : Below B w w') (n : Nat) : Below B w (w'.drewN n) := ⟨h.os, h.tape, h.output, h.size, h.block⟩
set_option maxRecDepth 100000 in
theorem sameints_yes (a b : Option Addr) (ca cb n : Nat) (xs : List Int) (hn : Hid (xs.length = n)) (hm : n ≤ 1000000) (w : World) (hx : RI w a xs) (hy : RI w b xs) :
    Calls Tryz.prog 18 #[.slice a n ca, .slice b n cb] w fun e w' => e = .returned (.bool true) ∧ Below w.heap.size w w' := by
  have HX := Lib.hid hx
  have HY := Lib.hid hy
  clear hx hy
  go_enter Tryz.func18, Tryz.ntmps18
  go_wp2_with fail
  go_loopw [5] (fun i wr => ∃ k : Nat, k ≤ n ∧ i = .int .i64 k ∧ Below w.heap.size w wr) (fun i _ => n - (intOf i).toNat)
  case atStart => exact ⟨0, by omega, rfl, Below.refl _ _⟩
  case round =>
    obtain ⟨k, hk, rfl, hb⟩ := hrel
    have HB := Lib.hid hb
    by_cases hlt : k < n
    · obtain ⟨ad, rfl, h1, c1⟩ := (HX.out.below hb) k (by rw [hn.out]; exact hlt)
      obtain ⟨bd, rfl, h2, c2⟩ := (HY.out.below hb) k (by rw [hn.out]; exact hlt)
      generalize xs.getD k 0 = x at c1 c2
      have k0 : (0 : Int) ≤ (k : Int) := by omega
      have k1 : (k : Int) < (n : Int) := by omega
      clear hb h1 h2
      go_wp2_with fail
      go_quiet (fail)
      go_wp2
      go_roundw
      case rel => exact ⟨k + 1, by omega, by go_num, below_dN HB.out _⟩
      case measure => simp [intOf]; omega
    · obtain rfl : n = k := by omega
      have hdd : decide (n < n) = false := by simp
      clear hb
      go_wp2_with fail
      go_ret
      exact ⟨rfl, HB.out⟩
end Go.Proofs.YtllcakiomihipaaGreatDoor.V
namespace Go.Proofs.YtllcakiomihipaaGreatDoor
open Go.ChangeShapes Go.WideShapes Go.ChangeAt Go.RowKit
set_option linter.unusedVariables false
set_option linter.unusedSimpArgs false
section
variable {w0 w w' W : World} {L : BLoc} {X : SLoc} {nd B : Nat} {A : List Nat} {F : Nat → Nat → Value} {l : List Int}
theorem right_start1 (bd : Int) (h : bd ≤ 536870911) : rightB 5 1 0 0 bd = true := by
  have e : rightB 5 1 0 0 bd = decide (bd ≤ 536870911) := by
    unfold rightB
    rw [show wB 5 14 = true by decide, show wB 1 (hidOf 5) = true by decide, show wB 0 (hverOf 5) = true by decide, show wB 0 (hrOf 5) = true by decide, show dataMost 5 = 536870911 by decide]
    simp
  rw [e]; exact decide_eq_true h
theorem ga_start (h : GS w0 w L X nd B A F l) (y : Int) (i : Nat) (hy : Hid (y = (i : Int))) (hi : i < nd) (bd : Int) (hr : rightB 5 y 0 0 bd = true) (o a : Int) (vs vr : Value) (hE : ErrsAt vs vr w0) : Calls Tryz.prog 32 #[.pointer (some ⟨X.s, 0, none⟩), (Value.agg #[.int .i64 5, .int .i64 y, .int .i64 0, .int .i64 0, .int .u32 bd]), (Value.agg #[.int .u32 o, .int .u32 a, .int .u32 0, .int .u32 0, .int .i64 0, .int .i64 0, .int .i64 0, .int .i64 0, .int .u32 0, .int .i64 0, .int .i64 0, .int .i64 0, .int .i64 0, .int .u32 0, .int .i64 0, .int .i64 0, .int .i64 0, .int .i64 0, .int .u32 0])] w fun e w' => e = .returned (.tuple #[(Value.agg #[.int .u32 0, .int .u32 0, .int .u32 0, .int .u32 0, .int .i64 0, .int .i64 0, .int .i64 0, .int .i64 0, .int .u32 0, .int .i64 0, .int .i64 0, .int .i64 0, .int .i64 0, .int .u32 0, .int .i64 0, .int .i64 0, .int .i64 0, .int .i64 0, .int .u32 0]), .bool false]) ∧ Below w.heap.size w w' :=
  oanswer_no X.s 5 y 0 0 bd 5 y 0 0 bd o a 0 0 0 0 0 0 0 0 0 0 0 0 0 0 0 0 0 0 0 0 0 0 0 0 0 0 0 0 0 0 0 0 rfl w (fun W hW => (h.below hW).seen_start y i hy hi bd hr vs vr hE) (fun W hW => oseen_void X.s vs vr W ((h.errs hE).below hW)) (fun W hW => oseen_void X.s vs vr W ((h.errs hE).below hW)) (fun W hW => oseen_void X.s vs vr W ((h.errs hE).below hW))
/-- The row of who is sent that. -/
def T1 (a bd : Int) : Nat → Value := RW (tRg (fun _ => 0) 4 a 0 0 bd) 0 3 0 (tKk (fun _ _ => 0) 0 0 0 0 0 0 0 0 0 0 0 0 0 0 0 0 0 0 0 0) 0
theorem forks_fork (h : GS w0 w L X 4 0 [] F1 []) (vs vr : Value) (hE : ErrsAt vs vr w0) (a bd : Int) (hb : bd ≤ 99) : Calls Tryz.prog 12 #[.pointer (some ⟨X.s, 0, none⟩), .int .i64 0, .int .i64 2, (Value.agg #[.int .i64 5, .int .i64 1, .int .i64 0, .int .i64 0, .int .u32 bd]), (Value.agg #[.int .u32 4, .int .u32 a, .int .u32 0, .int .u32 0, .int .i64 0, .int .i64 0, .int .i64 0, .int .i64 0, .int .u32 0, .int .i64 0, .int .i64 0, .int .i64 0, .int .i64 0, .int .u32 0, .int .i64 0, .int .i64 0, .int .i64 0, .int .i64 0, .int .u32 0])] w fun e w' => e = .returned (.tuple #[.agg ([.int .i64 1, .int .i64 1, .int .u32 0, .int .u32 0, .int .u32 0, .int .u32 0, .int .i64 0, .int .i64 0, .int .i64 0, .int .i64 0, .int .u32 0, .int .i64 0, .int .i64 0, .int .i64 0, .int .i64 0, .int .u32 0, .int .i64 0, .int .i64 0, .int .i64 0, .int .i64 0, .int .u32 0] : List Value).toArray, .nilIface]) ∧ GS w0 w' L X 4 2 [] (setF F1 1 (T1 a bd)) [1, 0] := by
  have hr := right_start1 bd (by omega)
  refine (inv_pass5 h 0 0 (Lib.hid rfl) (by decide) (fun _ => 0) 0 0 (fun _ _ => 0) 0 (Lib.hid rfl) 2 (by decide) (by decide) (by unfold V.wfI; decide) (by decide) 5 1 0 0 bd 0 0 0 0 0 0 0 0 0 0 0 0 0 0 0 4 a 0 0 0 0 0 0 0 (fun W hW => oseen_void X.s vs vr W (hW.errs hE)) 0 0 0 0 0 (fun W hW => oseen_void X.s vs vr W (hW.errs hE)) 0 0 0 0 0 (fun W hW => oseen_void X.s vs vr W (hW.errs hE)) 5 1 0 0 bd (fun W hW => hW.seen_start 1 1 (Lib.hid rfl) (by decide) bd hr vs vr hE) rfl (fun W hW => ga_start hW 1 1 (Lib.hid rfl) (by decide) bd hr 4 a vs vr hE) (fun W hW => avail_is hW 1 1 (Lib.hid rfl) (by decide) (fun _ => 0) 0 1 0 (fun _ _ => 0) 0 (Lib.hid rfl)) (fun B' F' l' => B' = 2 ∧ F' = setF F1 1 (T1 a bd) ∧ l' = [1, 0]) (fun A' W hW => ?_)).mono ?_
  · refine (pass5_fork hW 1 1 (Lib.hid rfl) (by decide) (fun _ => 0) 0 1 0 (fun _ _ => 0) 0 (Lib.hid rfl) (Lib.hid (fun _ _ => (show rightB 0 0 0 0 0 = true by decide))) (by decide) (by decide) (by decide) (by decide) vs vr hE (by unfold V.wfI; decide) (by decide) (by decide) 0 (by unfold V.wfI; decide) 0 0 bd 4 a 0 0 0 0 0 0 0 0 0 0 0 0 0 0 0 0 0 (by decide) (by decide) (by decide)).mono ?_
    rintro e w9 ⟨h1, h2, h3⟩
    exact ⟨h1, ⟨_, _, _, ⟨rfl, rfl, rfl⟩, h2⟩, h3⟩
  · rintro e w9 ⟨rfl, ⟨B', F', l', ⟨rfl, rfl, rfl⟩, hg⟩, hk⟩
    exact ⟨rfl, hg⟩
theorem forks_ret (h : GS w0 w L X 4 0 [] F1 []) (vs vr : Value) (hE : ErrsAt vs vr w0) (a bd : Int) (hb : bd ≤ 99) : Calls Tryz.prog 12 #[.pointer (some ⟨X.s, 0, none⟩), .int .i64 0, .int .i64 1, (Value.agg #[.int .i64 5, .int .i64 1, .int .i64 0, .int .i64 0, .int .u32 bd]), (Value.agg #[.int .u32 4, .int .u32 a, .int .u32 0, .int .u32 0, .int .i64 0, .int .i64 0, .int .i64 0, .int .i64 0, .int .u32 0, .int .i64 0, .int .i64 0, .int .i64 0, .int .i64 0, .int .u32 0, .int .i64 0, .int .i64 0, .int .i64 0, .int .i64 0, .int .u32 0])] w fun e w' => e = .returned (.tuple #[.agg ([.int .i64 1, .int .i64 1, .int .u32 0, .int .u32 0, .int .u32 0, .int .u32 0, .int .i64 0, .int .i64 0, .int .i64 0, .int .i64 0, .int .u32 0, .int .i64 0, .int .i64 0, .int .i64 0, .int .i64 0, .int .u32 0, .int .i64 0, .int .i64 0, .int .i64 0, .int .i64 0, .int .u32 0] : List Value).toArray, .nilIface]) ∧ GS w0 w' L X 4 1 [] (setF (setF F1 1 (T1 a bd)) 0 R0) [1] := by
  have hr := right_start1 bd (by omega)
  refine (inv_pass5 h 0 0 (Lib.hid rfl) (by decide) (fun _ => 0) 0 0 (fun _ _ => 0) 0 (Lib.hid rfl) 1 (by decide) (by decide) (by unfold V.wfI; decide) (by decide) 5 1 0 0 bd 0 0 0 0 0 0 0 0 0 0 0 0 0 0 0 4 a 0 0 0 0 0 0 0 (fun W hW => oseen_void X.s vs vr W (hW.errs hE)) 0 0 0 0 0 (fun W hW => oseen_void X.s vs vr W (hW.errs hE)) 0 0 0 0 0 (fun W hW => oseen_void X.s vs vr W (hW.errs hE)) 5 1 0 0 bd (fun W hW => hW.seen_start 1 1 (Lib.hid rfl) (by decide) bd hr vs vr hE) rfl (fun W hW => ga_start hW 1 1 (Lib.hid rfl) (by decide) bd hr 4 a vs vr hE) (fun W hW => avail_is hW 1 1 (Lib.hid rfl) (by decide) (fun _ => 0) 0 1 0 (fun _ _ => 0) 0 (Lib.hid rfl)) (fun B' F' l' => B' = 1 ∧ F' = setF (setF F1 1 (T1 a bd)) 0 R0 ∧ l' = [1]) (fun A' W hW => ?_)).mono ?_
  · refine (pass5_ret hW 1 1 (Lib.hid rfl) (by decide) (fun _ => 0) 0 1 0 (fun _ _ => 0) 0 (Lib.hid rfl) (Lib.hid (fun _ _ => (show rightB 0 0 0 0 0 = true by decide))) (by decide) (by decide) (by decide) (by decide) vs vr hE (by unfold V.wfI; decide) (by decide) (by decide) 0 0 (Lib.hid rfl) (by decide) (by decide) (fun _ => 0) 0 3 0 (fun _ _ => 0) 0 (Lib.hid rfl) (Lib.hid (fun _ _ => (show rightB 0 0 0 0 0 = true by decide))) (by decide) (by decide) (by decide) (by decide) 0 0 bd 4 a 0 0 0 0 0 0 0 0 0 0 0 0 0 0 0 0 0 (by decide) (by decide) (by decide)).mono ?_
    rintro e w9 ⟨h1, h2, h3⟩
    exact ⟨h1, ⟨_, _, _, ⟨rfl, rfl, rfl⟩, h2⟩, h3⟩
  · rintro e w9 ⟨rfl, ⟨B', F', l', ⟨rfl, rfl, rfl⟩, hg⟩, hk⟩
    exact ⟨rfl, hg⟩
theorem GS.all (h : GS w0 w L X nd B A F l) (n : Nat) (hn : l.length = n) (hm : n ≤ 1000) : Calls Tryz.prog 19 #[.pointer (some ⟨X.q, 0, none⟩)] w fun e w' => (∃ a c, e = .returned (.slice a n c) ∧ V.RI w' a l) ∧ Below w.heap.size w w' := by
  obtain ⟨b, S, _, h3, _⟩ := h.q
  refine (V.qall_is (Lib.hid hn) (by omega) w h3).mono ?_
  rintro e w9 ⟨a, c, h1, h2, h4⟩
  exact ⟨⟨a, c, h1, V.own_ri h2 hn⟩, h4⟩
end
end Go.Proofs.YtllcakiomihipaaGreatDoor
namespace Go.Proofs.YtllcakiomihipaaGreatDoor
open Go.ChangeShapes Go.WideShapes Go.ChangeAt Go.RowKit
set_option linter.unusedVariables false
set_option linter.unusedSimpArgs false
set_option maxRecDepth 100000 in
set_option maxHeartbeats 2000000 in
theorem forks_w_fork (a0 a1 a2 : Int) (CR : ∀ w, Calls Tryz.prog 8 #[.int .i64 a0, .int .i64 2] w fun e w' => e = .returned (.int .i64 1) ∧ w = w') (vs vr : Value) (w : World) (hE : ErrsAt vs vr w) (b0 : 0 ≤ a2) (b1 : a2 < 4294967296) :
    Calls Tryz.prog 4 #[.int .i64 a0, .int .u32 a1, .int .u32 a2] w fun e w' => e = .returned (.bool true) ∧ Below w.heap.size w w' := by
  have HE := Lib.hid hE
  have HC := Lib.hid CR
  have hb9 : a2 % 100 ≤ 99 := by omega
  clear hE CR
  go_enter Tryz.func4, Tryz.ntmps4
  go_upto_region 7 with (first
    | (go_at_call 7; (with_reducible refine (gs_first vs vr _ HE.out).mono ?_); rintro e w1 ⟨rfl, hb⟩; have HB1 := Lib.hid hb; have HE1 := Lib.hid (HE.out.below hb); clear hb)
    | (go_at_call 8; (with_reducible refine (HC.out _).mono ?_); rintro e w2 ⟨rfl, rfl⟩)
    | (go_at_call 9; (with_reducible refine (two_is vs vr _ HE1.out).mono ?_); rintro e w3 ⟨L, X, rfl, hg⟩; have H3 := Lib.hid hg; have c1 := hg.c1; have HD := Lib.hid (hg.door 1 1 (Lib.hid rfl) (by decide) (a2 % 100) (by omega)); clear hg))
  go_upto_region 8 with (first
    | (go_at_call 15; (with_reducible refine HD.out.mono ?_); rintro e w4 ⟨rfl, hb⟩; have H4 := Lib.hid (H3.out.below hb); have HI := Lib.hid (forks_fork H4.out vs vr HE1.out a1 (a2 % 100) hb9); clear hb c1)
    | (go_at_call 12; (with_reducible refine HI.out.mono ?_); rintro e w5 ⟨rfl, hg⟩; have H5 := Lib.hid hg; clear hg)
    | (refine wpList_store_mid (by rfl) _ _ _ (by rfl) w5.heap.size 0 ([.int .i64 1, .int .i64 1, .int .u32 0, .int .u32 0, .int .u32 0, .int .u32 0, .int .i64 0, .int .i64 0, .int .i64 0, .int .i64 0, .int .u32 0, .int .i64 0, .int .i64 0, .int .i64 0, .int .i64 0, .int .u32 0, .int .i64 0, .int .i64 0, .int .i64 0, .int .i64 0, .int .u32 0] : List Value).toArray (by rfl) (by rfl) (nthere_new _ _ 21 (by rfl) _) resInfo (by simp [Value.oneCell']) ?_; generalize hg : World.setCells _ w5.heap.size 0 _ = w6))
  obtain ⟨RB, hRB⟩ : ∃ RB, RB = w5.heap.size := ⟨_, rfl⟩
  have H6 : Hid (GS w1 w6 L X 4 2 [] (setF F1 1 (T1 a1 (a2 % 100))) [1, 0] ∧ w6.rangeAt RB 0 ([.int .i64 1, .int .i64 1, .int .u32 0, .int .u32 0, .int .u32 0, .int .u32 0, .int .i64 0, .int .i64 0, .int .i64 0, .int .i64 0, .int .u32 0, .int .i64 0, .int .i64 0, .int .i64 0, .int .i64 0, .int .u32 0, .int .i64 0, .int .i64 0, .int .i64 0, .int .i64 0, .int .u32 0] : List Value) ∧ RB < w6.heap.size) := Lib.hid (by
    rw [← hg, hRB]
    exact ⟨H5.out.below (nbelow_cells ((Below.refl _ _).alloc (Nat.le_refl _) _) (Nat.le_refl _) _ _), World.rangeAt_setCells_same _ _ 0 ([.int .i64 1, .int .i64 1, .int .u32 0, .int .u32 0, .int .u32 0, .int .u32 0, .int .i64 0, .int .i64 0, .int .i64 0, .int .i64 0, .int .u32 0, .int .i64 0, .int .i64 0, .int .i64 0, .int .i64 0, .int .u32 0, .int .i64 0, .int .i64 0, .int .i64 0, .int .i64 0, .int .u32 0] : List Value) (nthere_new _ _ 21 (by rfl) _), by rw [heapSize]; simp⟩)
  rw [← hRB]
  clear hg hRB
  have c1 := H6.out.1.c1
  obtain ⟨rg, kk, hRg, hFr, hr1, hr4, hk15⟩ : ∃ (rg : Nat → Int) (kk : Nat → Nat → Int), Hid (∀ j, j < 107 → ((setF F1 1 (T1 a1 (a2 % 100))) 1 j).oneCell' = true) ∧ Hid ((setF F1 1 (T1 a1 (a2 % 100))) 1 = RW rg 0 3 0 kk 0) ∧ rg 1 = a1 ∧ rg 4 = a2 % 100 ∧ kk 15 0 = 0 := ⟨_, _, Lib.hid (fun j _ => RW_one _ _ _ _ _ _ j), Lib.hid rfl, rfl, rfl, rfl⟩
  have HG := Lib.hid (H6.out.1.get 1 1 (Lib.hid rfl) (by decide) hRg)
  go_upto_region 9 with (first
    | (go_at_call 10; (with_reducible refine HG.out.mono ?_); rintro e w7 ⟨rfl, hb⟩; have HB7 := Lib.hid hb; clear hb)
    | (refine wpList_store_mid (by rfl) _ _ _ (by rfl) w7.heap.size 0 (rowL ((setF F1 1 (T1 a1 (a2 % 100))) 1)).toArray (by rfl) (by rfl) (by rw [rowL_size]; exact nthere_new _ _ 107 zsize _) (by rw [rowL_size]; exact infoDomS) (rowL_one ((setF F1 1 (T1 a1 (a2 % 100))) 1) hRg.out) ?_))
  generalize hg : World.setCells _ w7.heap.size 0 _ = w8
  obtain ⟨J, hJ⟩ : ∃ J, J = w7.heap.size := ⟨_, rfl⟩
  have H8 : Hid (GB w1 w6 w8 L X 4 2 [] (setF F1 1 (T1 a1 (a2 % 100))) [1, 0] J (RW rg 0 3 0 kk 0) ∧ Below w6.heap.size w6 w8) := Lib.hid (by rw [← hg, hJ, ← hFr.out]; exact ⟨GB.made H6.out.1 HB7.out ((setF F1 1 (T1 a1 (a2 % 100))) 1) _ zsize _, nbelow_cells (HB7.out.alloc HB7.out.size _) HB7.out.size _ _⟩)
  rw [← hJ]
  clear hg hJ c1
  have p0 := CallC.cell (range_below H6.out.2.1 H8.out.2 H6.out.2.2) 0 _ rfl
  have j1 := H8.out.1.cell 1 (by decide)
  have j4 := H8.out.1.cell 4 (by decide)
  have j86 := H8.out.1.cell 86 (by decide)
  rw [show RW rg 0 3 0 kk 0 1 = .int .u32 a1 from congrArg (Value.int .u32) hr1] at j1
  rw [show RW rg 0 3 0 kk 0 4 = .int .u32 (a2 % 100) from congrArg (Value.int .u32) hr4] at j4
  rw [show RW rg 0 3 0 kk 0 86 = .int .i64 0 from congrArg (Value.int .i64) hk15] at j86
  have HST := Lib.hid (state_is H8.out.1.gs 0 0 (Lib.hid rfl) (by decide) (fun _ => 0) 0 3 0 (fun _ _ => 0) 0 (Lib.hid rfl))
  go_wp2_with (first
    | (go_at_call 16; (with_reducible refine HST.out.mono ?_); rintro e w9 ⟨rfl, hb⟩; have H9 := Lib.hid (H8.out.1.gs.below hb); have c5 := H9.out.c5; have HAL := Lib.hid (H9.out.all 2 rfl (by decide)); clear hb)
    | (go_at_call 19; (with_reducible refine HAL.out.mono ?_); rintro e w10 ⟨⟨sa, sc, rfl, hri⟩, hb⟩; have H10 := Lib.hid (H9.out.below hb); have HSI := Lib.hid (V.sameints_yes sa (some ⟨w10.heap.size, 0, none⟩) sc 2 2 [1, 0] (Lib.hid rfl) (by decide) (w10.alloc (.cells #[.int .i64 1, .int .i64 0] 3)) (hri.below ((Below.refl _ _).alloc (Nat.le_refl _) _)) (fun i hi => ⟨_, rfl, by simp, by match i, hi with | 0, _ => simp [Addr.add] | 1, _ => simp [Addr.add]⟩)); clear hb hri)
    | (go_at_call 18; (with_reducible refine HSI.out.mono ?_); rintro e w11 ⟨rfl, hb⟩; have HB11 := Lib.hid hb; clear hb))
  go_ret
  exact ⟨rfl, (HB1.out.trans (H10.out.bel.mono HB1.out.size)).trans ((((Below.refl _ _).alloc (Nat.le_refl _) _ : Below w10.heap.size w10 (w10.alloc (.cells #[.int .i64 1, .int .i64 0] 3))).trans (HB11.out.mono (by simp))).mono (Nat.le_trans HB1.out.size H10.out.bel.size))⟩
set_option maxRecDepth 100000 in
set_option maxHeartbeats 2000000 in
theorem forks_w_ret (a0 a1 a2 : Int) (CR : ∀ w, Calls Tryz.prog 8 #[.int .i64 a0, .int .i64 2] w fun e w' => e = .returned (.int .i64 0) ∧ w = w') (vs vr : Value) (w : World) (hE : ErrsAt vs vr w) (b0 : 0 ≤ a2) (b1 : a2 < 4294967296) :
    Calls Tryz.prog 4 #[.int .i64 a0, .int .u32 a1, .int .u32 a2] w fun e w' => e = .returned (.bool true) ∧ Below w.heap.size w w' := by
  have HE := Lib.hid hE
  have HC := Lib.hid CR
  have hb9 : a2 % 100 ≤ 99 := by omega
  clear hE CR
  go_enter Tryz.func4, Tryz.ntmps4
  go_upto_region 7 with (first
    | (go_at_call 7; (with_reducible refine (gs_first vs vr _ HE.out).mono ?_); rintro e w1 ⟨rfl, hb⟩; have HB1 := Lib.hid hb; have HE1 := Lib.hid (HE.out.below hb); clear hb)
    | (go_at_call 8; (with_reducible refine (HC.out _).mono ?_); rintro e w2 ⟨rfl, rfl⟩)
    | (go_at_call 9; (with_reducible refine (two_is vs vr _ HE1.out).mono ?_); rintro e w3 ⟨L, X, rfl, hg⟩; have H3 := Lib.hid hg; have c1 := hg.c1; have HD := Lib.hid (hg.door 1 1 (Lib.hid rfl) (by decide) (a2 % 100) (by omega)); clear hg))
  go_upto_region 8 with (first
    | (go_at_call 15; (with_reducible refine HD.out.mono ?_); rintro e w4 ⟨rfl, hb⟩; have H4 := Lib.hid (H3.out.below hb); have HI := Lib.hid (forks_ret H4.out vs vr HE1.out a1 (a2 % 100) hb9); clear hb c1)
    | (go_at_call 12; (with_reducible refine HI.out.mono ?_); rintro e w5 ⟨rfl, hg⟩; have H5 := Lib.hid hg; clear hg)
    | (refine wpList_store_mid (by rfl) _ _ _ (by rfl) w5.heap.size 0 ([.int .i64 1, .int .i64 1, .int .u32 0, .int .u32 0, .int .u32 0, .int .u32 0, .int .i64 0, .int .i64 0, .int .i64 0, .int .i64 0, .int .u32 0, .int .i64 0, .int .i64 0, .int .i64 0, .int .i64 0, .int .u32 0, .int .i64 0, .int .i64 0, .int .i64 0, .int .i64 0, .int .u32 0] : List Value).toArray (by rfl) (by rfl) (nthere_new _ _ 21 (by rfl) _) resInfo (by simp [Value.oneCell']) ?_; generalize hg : World.setCells _ w5.heap.size 0 _ = w6))
  obtain ⟨RB, hRB⟩ : ∃ RB, RB = w5.heap.size := ⟨_, rfl⟩
  have H6 : Hid (GS w1 w6 L X 4 1 [] (setF (setF F1 1 (T1 a1 (a2 % 100))) 0 R0) [1] ∧ w6.rangeAt RB 0 ([.int .i64 1, .int .i64 1, .int .u32 0, .int .u32 0, .int .u32 0, .int .u32 0, .int .i64 0, .int .i64 0, .int .i64 0, .int .i64 0, .int .u32 0, .int .i64 0, .int .i64 0, .int .i64 0, .int .i64 0, .int .u32 0, .int .i64 0, .int .i64 0, .int .i64 0, .int .i64 0, .int .u32 0] : List Value) ∧ RB < w6.heap.size) := Lib.hid (by
    rw [← hg, hRB]
    exact ⟨H5.out.below (nbelow_cells ((Below.refl _ _).alloc (Nat.le_refl _) _) (Nat.le_refl _) _ _), World.rangeAt_setCells_same _ _ 0 ([.int .i64 1, .int .i64 1, .int .u32 0, .int .u32 0, .int .u32 0, .int .u32 0, .int .i64 0, .int .i64 0, .int .i64 0, .int .i64 0, .int .u32 0, .int .i64 0, .int .i64 0, .int .i64 0, .int .i64 0, .int .u32 0, .int .i64 0, .int .i64 0, .int .i64 0, .int .i64 0, .int .u32 0] : List Value) (nthere_new _ _ 21 (by rfl) _), by rw [heapSize]; simp⟩)
  rw [← hRB]
  clear hg hRB
  have c1 := H6.out.1.c1
  obtain ⟨rg, kk, hRg, hFr, hr1, hr4, hk15⟩ : ∃ (rg : Nat → Int) (kk : Nat → Nat → Int), Hid (∀ j, j < 107 → ((setF (setF F1 1 (T1 a1 (a2 % 100))) 0 R0) 1 j).oneCell' = true) ∧ Hid ((setF (setF F1 1 (T1 a1 (a2 % 100))) 0 R0) 1 = RW rg 0 3 0 kk 0) ∧ rg 1 = a1 ∧ rg 4 = a2 % 100 ∧ kk 15 0 = 0 := ⟨_, _, Lib.hid (fun j _ => RW_one _ _ _ _ _ _ j), Lib.hid rfl, rfl, rfl, rfl⟩
  have HG := Lib.hid (H6.out.1.get 1 1 (Lib.hid rfl) (by decide) hRg)
  go_upto_region 9 with (first
    | (go_at_call 10; (with_reducible refine HG.out.mono ?_); rintro e w7 ⟨rfl, hb⟩; have HB7 := Lib.hid hb; clear hb)
    | (refine wpList_store_mid (by rfl) _ _ _ (by rfl) w7.heap.size 0 (rowL ((setF (setF F1 1 (T1 a1 (a2 % 100))) 0 R0) 1)).toArray (by rfl) (by rfl) (by rw [rowL_size]; exact nthere_new _ _ 107 zsize _) (by rw [rowL_size]; exact infoDomS) (rowL_one ((setF (setF F1 1 (T1 a1 (a2 % 100))) 0 R0) 1) hRg.out) ?_))
  generalize hg : World.setCells _ w7.heap.size 0 _ = w8
  obtain ⟨J, hJ⟩ : ∃ J, J = w7.heap.size := ⟨_, rfl⟩
  have H8 : Hid (GB w1 w6 w8 L X 4 1 [] (setF (setF F1 1 (T1 a1 (a2 % 100))) 0 R0) [1] J (RW rg 0 3 0 kk 0) ∧ Below w6.heap.size w6 w8) := Lib.hid (by rw [← hg, hJ, ← hFr.out]; exact ⟨GB.made H6.out.1 HB7.out ((setF (setF F1 1 (T1 a1 (a2 % 100))) 0 R0) 1) _ zsize _, nbelow_cells (HB7.out.alloc HB7.out.size _) HB7.out.size _ _⟩)
  rw [← hJ]
  clear hg hJ c1
  have p0 := CallC.cell (range_below H6.out.2.1 H8.out.2 H6.out.2.2) 0 _ rfl
  have j1 := H8.out.1.cell 1 (by decide)
  have j4 := H8.out.1.cell 4 (by decide)
  have j86 := H8.out.1.cell 86 (by decide)
  rw [show RW rg 0 3 0 kk 0 1 = .int .u32 a1 from congrArg (Value.int .u32) hr1] at j1
  rw [show RW rg 0 3 0 kk 0 4 = .int .u32 (a2 % 100) from congrArg (Value.int .u32) hr4] at j4
  rw [show RW rg 0 3 0 kk 0 86 = .int .i64 0 from congrArg (Value.int .i64) hk15] at j86
  have HST := Lib.hid (state_is H8.out.1.gs 0 0 (Lib.hid rfl) (by decide) (fun _ => 0) 0 1 0 (fun _ _ => 0) 0 (Lib.hid rfl))
  go_wp2_with (first
    | (go_at_call 16; (with_reducible refine HST.out.mono ?_); rintro e w9 ⟨rfl, hb⟩; have H9 := Lib.hid (H8.out.1.gs.below hb); have c5 := H9.out.c5; have HAL := Lib.hid (H9.out.all 1 rfl (by decide)); clear hb)
    | (go_at_call 19; (with_reducible refine HAL.out.mono ?_); rintro e w10 ⟨⟨sa, sc, rfl, hri⟩, hb⟩; have H10 := Lib.hid (H9.out.below hb); have HSI := Lib.hid (V.sameints_yes sa (some ⟨w10.heap.size, 0, none⟩) sc 1 1 [1] (Lib.hid rfl) (by decide) (w10.alloc (.cells #[.int .i64 1] 3)) (hri.below ((Below.refl _ _).alloc (Nat.le_refl _) _)) (fun i hi => ⟨_, rfl, by simp, by match i, hi with | 0, _ => simp [Addr.add]⟩)); clear hb hri)
    | (go_at_call 18; (with_reducible refine HSI.out.mono ?_); rintro e w11 ⟨rfl, hb⟩; have HB11 := Lib.hid hb; clear hb))
  go_ret
  exact ⟨rfl, (HB1.out.trans (H10.out.bel.mono HB1.out.size)).trans ((((Below.refl _ _).alloc (Nat.le_refl _) _ : Below w10.heap.size w10 (w10.alloc (.cells #[.int .i64 1] 3))).trans (HB11.out.mono (by simp))).mono (Nat.le_trans HB1.out.size H10.out.bel.size))⟩
end Go.Proofs.YtllcakiomihipaaGreatDoor
namespace Go.Proofs.YtllcakiomihipaaGreatDoor
open Go.ChangeShapes Go.WideShapes Go.ChangeAt Go.RowKit
set_option linter.unusedVariables false
theorem walk_GateForks (a0 : Int) (a1 : Int) (a2 : Int) (w : World) (w0 : (Lit.int .i64 a0).wf = true) (w1 : (Lit.int .u32 a1).wf = true) (w2 : (Lit.int .u32 a2).wf = true) (hL : laidMetH Tryz.prog Rows.gateForksRow.laid w) :
    Calls Tryz.prog 4 #[.int .i64 a0, .int .u32 a1, .int .u32 a2] w fun e w' => e = .returned (.bool true) ∧ Below w.heap.size w w' := by
  obtain ⟨vs, vr, hE⟩ := (errs2 hL ⟨_, by repeat (first | exact List.Mem.head _ | apply List.Mem.tail)⟩ ⟨_, by repeat (first | exact List.Mem.head _ | apply List.Mem.tail)⟩)
  clear hL
  have g2 := fit32 w2
  obtain ⟨R, hR, CR⟩ := number_nat a0 2 2 rfl (by decide) (by decide) (fit64 w0).1 (fit64 w0).2
  obtain rfl | rfl : R = 0 ∨ R = 1 := by omega
  · exact forks_w_ret a0 a1 a2 (fun w => by simpa using CR w) vs vr w hE g2.1 (by have := g2.2; omega)
  · exact forks_w_fork a0 a1 a2 (fun w => by simpa using CR w) vs vr w hE g2.1 (by have := g2.2; omega)
end Go.Proofs.YtllcakiomihipaaGreatDoor
