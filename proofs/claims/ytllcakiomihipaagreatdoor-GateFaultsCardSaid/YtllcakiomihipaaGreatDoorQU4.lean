/-
  Gr, Gs, Gn, Gq, Gt, Gu, G3, G4, Gw, G8, G9, GFa, GFb, GFc: what GateFaults reaches of them.
-/
import Derived.Test.YtllcakiomihipaaGreatDoorQU3
namespace Go.Proofs.YtllcakiomihipaaGreatDoor
open Go.ChangeShapes Go.WideShapes Go.ChangeAt Go.RowKit
set_option linter.unusedVariables false
set_option linter.unusedSimpArgs false
section
variable {w0 wb w w' W : World} {L : BLoc} {X : SLoc} {nd B : Nat} {A : List Nat} {F : Nat → Nat → Value} {l : List Int} {J NB : Nat} {rg : Nat → Int} {pc st ft : Int} {kk : Nat → Nat → Int} {wt : Int} {f f' : Nat → Value}
/-- A domain's words and keys, as it takes a note. -/
def tRg (rg : Nat → Int) (o a b c bd : Int) : Nat → Int := sR (sR (sR (sR (sR rg 0 o) 1 a) 2 b) 3 c) 4 bd
def tKk (kk : Nat → Nat → Int) (m0 m1 m2 m3 m4 : Int) (n0 n1 n2 n3 n4 : Int) (p0 p1 p2 p3 p4 : Int) (y0 y1 y2 y3 y4 : Int) : Nat → Nat → Int := sK (sK (sK (sK kk 12 m0 m1 m2 m3 m4) 13 n0 n1 n2 n3 n4) 14 p0 p1 p2 p3 p4) 15 y0 y1 y2 y3 y4
theorem tKk_right {kk : Nat → Nat → Int} (hR : ∀ q, q < 19 → KRight kk q) (m0 m1 m2 m3 m4 : Int) (n0 n1 n2 n3 n4 : Int) (p0 p1 p2 p3 p4 : Int) (y0 y1 y2 y3 y4 : Int) (hm : rightB m0 m1 m2 m3 m4 = true) (hn : rightB n0 n1 n2 n3 n4 = true) (hp : rightB p0 p1 p2 p3 p4 = true) (hy : rightB y0 y1 y2 y3 y4 = true) : ∀ q, q < 19 → KRight (tKk kk m0 m1 m2 m3 m4 n0 n1 n2 n3 n4 p0 p1 p2 p3 p4 y0 y1 y2 y3 y4) q :=
  sK_right (sK_right (sK_right (sK_right hR 12 _ _ _ _ _ hm) 13 _ _ _ _ _ hn) 14 _ _ _ _ _ hp) 15 _ _ _ _ _ hy
set_option maxRecDepth 100000 in
set_option maxHeartbeats 400000 in
theorem hand1_no (h : GB w0 wb w L X nd B A F l J (RW rg pc st ft kk wt)) (NB DB SB : Nat) (hB : NB ∈ A ∧ DB ∈ A ∧ SB ∈ A) (o a b c bd : Int) (m0 m1 m2 m3 m4 : Int) (n0 n1 n2 n3 n4 : Int) (p0 p1 p2 p3 p4 : Int) (hn : wb.rangeAt NB 0 ([.int .u32 o, .int .u32 a, .int .u32 b, .int .u32 c, .int .i64 m0, .int .i64 m1, .int .i64 m2, .int .i64 m3, .int .u32 m4, .int .i64 n0, .int .i64 n1, .int .i64 n2, .int .i64 n3, .int .u32 n4, .int .i64 p0, .int .i64 p1, .int .i64 p2, .int .i64 p3, .int .u32 p4] : List Value)) (hd : wb.cell? ⟨DB, 0, none⟩ = some (.int .u32 bd)) (hs : wb.cell? ⟨SB, 0, none⟩ = some (.slice none 0 0)) :
    Calls Tryz.prog 75 #[.pointer (some ⟨J, 0, none⟩), .pointer (some ⟨NB, 0, none⟩), .pointer (some ⟨DB, 0, none⟩), .pointer (some ⟨SB, 0, none⟩)] w fun e w' => (∃ v, e = .returned v) ∧ GB w0 wb w' L X nd B A F l J (RW (tRg rg o a b c bd) pc 3 ft (tKk kk m0 m1 m2 m3 m4 n0 n1 n2 n3 n4 p0 p1 p2 p3 p4 0 0 0 0 0) wt) := by
  have H := Lib.hid h
  have HN := Lib.hid (range_same hn (h.gk.eq NB hB.1))
  have c1 := (World.cell?_of_block (a := ⟨DB, 0, none⟩) (h.gk.eq DB hB.2.1)).trans hd
  have c2 := (World.cell?_of_block (a := ⟨SB, 0, none⟩) (h.gk.eq SB hB.2.2)).trans hs
  clear h hn hd hs
  go_enter Tryz.func75, Tryz.ntmps75
  go_upto_region 1 with (first
    | (refine wpList_load_mid (by rfl) _ _ (by rfl) NB 0 (by rfl) ([.int .u32 o, .int .u32 a, .int .u32 b, .int .u32 c, .int .i64 m0, .int .i64 m1, .int .i64 m2, .int .i64 m3, .int .u32 m4, .int .i64 n0, .int .i64 n1, .int .i64 n2, .int .i64 n3, .int .u32 n4, .int .i64 p0, .int .i64 p1, .int .i64 p2, .int .i64 p3, .int .u32 p4] : List Value) _ HN.out Tryz.underlying52 rfl infoNote ?_)
    | (go_at_call 62; (with_reducible refine (ctake_ok H.out o a b c bd m0 m1 m2 m3 m4 n0 n1 n2 n3 n4 p0 p1 p2 p3 p4).mono ?_); rintro e w1 ⟨⟨v, rfl⟩, hg⟩; have H1 := Lib.hid hg; clear hg c1 c2))
  have z9 := H1.out.free 9 (by decide)
  have j9 := H1.out.cell 9 (by decide)
  go_wp2_with fail
  go_end0
  exact ⟨⟨_, rfl⟩, by unfold tRg tKk; rw [← RW_st _ pc st ft _ wt 3]; exact H1.out.set 9 _⟩
set_option maxRecDepth 100000 in
set_option maxHeartbeats 400000 in
theorem change_hand_no (h : GS w0 w L X nd B A F l) (x : Int) (i : Nat) (hx : Hid (x = (i : Int))) (hi : i < nd) (rg : Nat → Int) (pc st ft : Int) (kk : Nat → Nat → Int) (wt : Int) (hF : Hid (F i = RW rg pc st ft kk wt)) (hR : Hid (∀ q, q < 19 → KRight kk q)) (t1 : 0 ≤ ft) (t2 : ft ≤ 6) (u1 : 0 ≤ wt) (u2 : wt ≤ 536870911) (vs vr : Value) (hE : ErrsAt vs vr w0) (NB DB SB : Nat) (hB : NB ∈ A ∧ DB ∈ A ∧ SB ∈ A) (o a b c bd : Int) (m0 m1 m2 m3 m4 : Int) (n0 n1 n2 n3 n4 : Int) (p0 p1 p2 p3 p4 : Int) (hn : w.rangeAt NB 0 ([.int .u32 o, .int .u32 a, .int .u32 b, .int .u32 c, .int .i64 m0, .int .i64 m1, .int .i64 m2, .int .i64 m3, .int .u32 m4, .int .i64 n0, .int .i64 n1, .int .i64 n2, .int .i64 n3, .int .u32 n4, .int .i64 p0, .int .i64 p1, .int .i64 p2, .int .i64 p3, .int .u32 p4] : List Value)) (hd : w.cell? ⟨DB, 0, none⟩ = some (.int .u32 bd)) (hs : w.cell? ⟨SB, 0, none⟩ = some (.slice none 0 0)) (HR2 : Hid (∀ q, q < 19 → KRight (tKk kk m0 m1 m2 m3 m4 n0 n1 n2 n3 n4 p0 p1 p2 p3 p4 0 0 0 0 0) q)) :
    Calls Tryz.prog 47 #[.pointer (some ⟨X.s, 0, none⟩), .int .i64 x, .func (.func 75) #[] #[.pointer (some ⟨NB, 0, none⟩), .pointer (some ⟨DB, 0, none⟩), .pointer (some ⟨SB, 0, none⟩)]] w fun e w' => (∃ v, e = .returned v) ∧ GS w0 w' L X nd B A (setF F i (RW (tRg rg o a b c bd) pc 3 ft (tKk kk m0 m1 m2 m3 m4 n0 n1 n2 n3 n4 p0 p1 p2 p3 p4 0 0 0 0 0) wt)) l ∧ GK A w w' := by
  have H := Lib.hid h
  have HOne : Hid (∀ j, j < 107 → (RW rg pc st ft kk wt j).oneCell' = true) := Lib.hid (fun j _ => RW_one _ _ _ _ _ _ j)
  have HOneF : Hid (∀ j, j < 107 → (F i j).oneCell' = true) := Lib.hid (by rw [hF.out]; exact HOne.out)
  have HE := Lib.hid hE
  have c1 := h.c1
  have HP := Lib.hid (And.intro hB (And.intro hn (And.intro hd hs)))
  clear h hE hB hn hd hs
  go_enter Tryz.func47, Tryz.ntmps47
  go_upto_region 2 with (first
    | (go_at_call 10; (with_reducible refine ((H.out).get x i hx hi HOneF).mono ?_); rintro e w1 ⟨rfl, hb⟩; have HB1 := Lib.hid hb; clear hb)
    | (refine wpList_store_mid (by rfl) _ _ _ (by rfl) w1.heap.size 0 (rowL (F i)).toArray (by rfl) (by rfl) (by rw [rowL_size]; exact nthere_new _ _ 107 zsize _) (by rw [rowL_size]; exact infoDomS) (rowL_one (F i) HOneF.out) ?_))
  generalize hg : World.setCells _ w1.heap.size 0 _ = w2
  obtain ⟨J, hJ⟩ : ∃ J, J = w1.heap.size := ⟨_, rfl⟩
  have H2 : Hid (GB w0 w w2 L X nd B A F l J (RW rg pc st ft kk wt) ∧ Below w.heap.size w w2) := Lib.hid (by rw [← hg, hJ, ← hF.out]; exact ⟨GB.made H.out HB1.out (F i) _ zsize _, nbelow_cells (HB1.out.alloc HB1.out.size _) HB1.out.size _ _⟩)
  rw [← hJ]
  clear hg hJ c1
  have HS := Lib.hid (hand1_no H2.out.1 NB DB SB HP.out.1 o a b c bd m0 m1 m2 m3 m4 n0 n1 n2 n3 n4 p0 p1 p2 p3 p4 HP.out.2.1 HP.out.2.2.1 HP.out.2.2.2)
  go_upto_region 3 with (first | (go_at_call 75; (with_reducible refine HS.out.mono ?_); rintro e w3 ⟨⟨v, rfl⟩, hg⟩; have H3 := Lib.hid hg; clear hg))
  have HSC : Hid (∀ W, Below w3.heap.size w3 W → (World.cell? W ⟨X.s, 1, none⟩ = some (.pointer (some ⟨L.dP, 0, none⟩)) ∧ World.rangeAt W J 0 (rowL (RW (tRg rg o a b c bd) pc 3 ft (tKk kk m0 m1 m2 m3 m4 n0 n1 n2 n3 n4 p0 p1 p2 p3 p4 0 0 0 0 0) wt)))) := (Lib.hid (fun W hW => ⟨((H3.out).below hW).gs.c1, ((H3.out).below hW).r⟩)); obtain ⟨wD, hwD⟩ : ∃ wD, wD = w3.drew := ⟨_, rfl⟩; have HBd : Hid (Below w3.heap.size w3 wD) := (Lib.hid (by rw [hwD]; exact (Below.refl _ _).drew)); refine wp_region_noPanic ?_; refine wp_region_held_drew (S := fun W => (World.cell? W ⟨X.s, 1, none⟩ = some (.pointer (some ⟨L.dP, 0, none⟩)) ∧ World.rangeAt W J 0 (rowL (RW (tRg rg o a b c bd) pc 3 ft (tKk kk m0 m1 m2 m3 m4 n0 n1 n2 n3 n4 p0 p1 p2 p3 p4 0 0 0 0 0) wt)))) (by kernel_rfl) (by rw [← hwD]; exact HSC.out _ HBd.out) (fun hHeld => ?_); rw [← hwD] at hHeld ⊢; clear hwD; refine wpAnyH_take (i := 0) (v := ?_) (by rfl) (by kernel_rfl) (by kernel_rfl) (by kernel_rfl) (fun _ _ _ h => h) (Or.inl ⟨by kernel_rfl, ?_⟩) (by assumption) ?_; rotate_left 1; (focus (intro w hSw; (try dsimp only at hSw); simp only [List.getElem_toArray, List.getElem_cons_succ, List.getElem_cons_zero]; all_goals go_simp; all_goals (try with_reducible rfl))); (try simp only [Act.put, List.getElem_toArray, List.getElem_cons_succ, List.getElem_cons_zero, List.setIfInBounds_toArray, List.set_cons_zero, List.set_cons_succ]); refine wpAnyH_take (i := 1) (v := ?_) (by rfl) (by kernel_rfl) (by kernel_rfl) (by kernel_rfl) (fun _ _ _ h => h) (Or.inl ⟨by kernel_rfl, ?_⟩) (by assumption) ?_; rotate_left 1; (focus (intro w hSw; (try dsimp only at hSw); simp only [List.getElem_toArray, List.getElem_cons_succ, List.getElem_cons_zero]; all_goals go_simp; all_goals (try with_reducible rfl))); (try simp only [Act.put, List.getElem_toArray, List.getElem_cons_succ, List.getElem_cons_zero, List.setIfInBounds_toArray, List.set_cons_zero, List.set_cons_succ]); refine wpAnyH_take (i := 2) (v := ?_) (by rfl) (by kernel_rfl) (by kernel_rfl) (by kernel_rfl) (fun _ _ _ h => h) (Or.inl ⟨by kernel_rfl, ?_⟩) (by assumption) ?_; rotate_left 1; (focus (intro w hSw; (try dsimp only at hSw); simp only [List.getElem_toArray, List.getElem_cons_succ, List.getElem_cons_zero]; all_goals go_simp; all_goals (try with_reducible rfl))); (try simp only [Act.put, List.getElem_toArray, List.getElem_cons_succ, List.getElem_cons_zero, List.setIfInBounds_toArray, List.set_cons_zero, List.set_cons_succ]); refine wpAnyH_take (i := 3) (v := ?_) (by rfl) (by kernel_rfl) (by kernel_rfl) (by kernel_rfl) (fun _ _ _ h => h) (Or.inl ⟨by kernel_rfl, ?_⟩) (by assumption) ?_; rotate_left 1; (focus (intro w hSw; (try dsimp only at hSw); simp only [List.getElem_toArray, List.getElem_cons_succ, List.getElem_cons_zero]; all_goals go_simp; all_goals (try with_reducible rfl))); (try simp only [Act.put, List.getElem_toArray, List.getElem_cons_succ, List.getElem_cons_zero, List.setIfInBounds_toArray, List.set_cons_zero, List.set_cons_succ]); refine wpAnyH_take (i := 4) (v := ?_) (by rfl) (by kernel_rfl) (by kernel_rfl) (by kernel_rfl) (fun _ _ _ h => h) (Or.inl ⟨by kernel_rfl, ?_⟩) (by assumption) ?_; rotate_left 1; (focus (intro w hSw; (try dsimp only at hSw); simp only [List.getElem_toArray, List.getElem_cons_succ, List.getElem_cons_zero]; all_goals go_simp; all_goals (try with_reducible rfl))); (try simp only [Act.put, List.getElem_toArray, List.getElem_cons_succ, List.getElem_cons_zero, List.setIfInBounds_toArray, List.set_cons_zero, List.set_cons_succ]); refine wpAnyH_take (i := 5) (v := .agg (rowL (RW (tRg rg o a b c bd) pc 3 ft (tKk kk m0 m1 m2 m3 m4 n0 n1 n2 n3 n4 p0 p1 p2 p3 p4 0 0 0 0 0) wt)).toArray) (by rfl) (by kernel_rfl) (by kernel_rfl) (by kernel_rfl) (fun _ _ _ h => h) (yieldsIf_load_mid (by kernel_rfl) 34 (.tmp 6) (by rfl) J 0 (by rfl) (rowL (RW (tRg rg o a b c bd) pc 3 ft (tKk kk m0 m1 m2 m3 m4 n0 n1 n2 n3 n4 p0 p1 p2 p3 p4 0 0 0 0 0) wt)) _ (fun w h => h.2) Tryz.underlying34 rfl (by rw [rowL_len]; exact infoDomS)) (by assumption) ?_; (try simp only [Act.put, List.getElem_toArray, List.getElem_cons_succ, List.getElem_cons_zero, List.setIfInBounds_toArray, List.set_cons_zero, List.set_cons_succ]); refine wpAnyH_ready (rs := [6]) (by kernel_rfl) (by simp) ?_; refine AllReadyH.cons (by rfl) (fun K hK => ?_) AllReadyH.nil; rw [if_pos (by kernel_rfl)]; simp only [List.getElem_toArray, List.getElem_cons_succ, List.getElem_cons_zero]; go_wp2_with (first | (go_at_call 11; (with_reducible refine (((H3.out.gs.below HBd.out).put x i hx hi (tRg rg o a b c bd) pc 3 ft (tKk kk m0 m1 m2 m3 m4 n0 n1 n2 n3 n4 p0 p1 p2 p3 p4 0 0 0 0 0) wt HR2 (by decide) (by decide) t1 t2 u1 u2 vs vr HE.out)).mono ?_); rintro e w4 ⟨rfl, hgs, hgk⟩; have H4 := Lib.hid hgs; have K4 := Lib.hid hgk; clear hgs hgk)); refine hK.out _ _ ⟨H4.out.c1, range_same ((H3.out).below HBd.out).r (K4.out.eq J (by simp))⟩ (fun hHeld => ?_); clear hK K; (try simp only [Act.put, List.getElem_toArray, List.getElem_cons_succ, List.getElem_cons_zero, List.setIfInBounds_toArray, List.set_cons_zero, List.set_cons_succ]); refine wpAnyH_done (by kernel_rfl) ?_ _; refine NoPanic.normal ?_
  go_wp2_with fail
  go_end0
  exact ⟨⟨_, rfl⟩, H4.out.tail, H3.out.gk.trans ((GS.keep HBd.out H3.out.gs).tail.trans K4.out.tail)⟩
set_option maxRecDepth 100000 in
set_option maxHeartbeats 400000 in
theorem hand_no (h : GS w0 w L X nd B A F l) (x : Int) (i : Nat) (hx : Hid (x = (i : Int))) (hi : i < nd) (rg : Nat → Int) (pc st ft : Int) (kk : Nat → Nat → Int) (wt : Int) (hF : Hid (F i = RW rg pc st ft kk wt)) (hR : Hid (∀ q, q < 19 → KRight kk q)) (t1 : 0 ≤ ft) (t2 : ft ≤ 6) (u1 : 0 ≤ wt) (u2 : wt ≤ 536870911) (vs vr : Value) (hE : ErrsAt vs vr w0) (hxq : V.wfI x) (hl : l.length ≤ 1000) (hB : B ≤ 1000) (o a b c bd : Int) (m0 m1 m2 m3 m4 : Int) (n0 n1 n2 n3 n4 : Int) (p0 p1 p2 p3 p4 : Int) (hm : rightB m0 m1 m2 m3 m4 = true) (hn : rightB n0 n1 n2 n3 n4 = true) (hp : rightB p0 p1 p2 p3 p4 = true) :
    Calls Tryz.prog 51 #[.pointer (some ⟨X.s, 0, none⟩), .int .i64 x, (Value.agg #[.int .u32 o, .int .u32 a, .int .u32 b, .int .u32 c, .int .i64 m0, .int .i64 m1, .int .i64 m2, .int .i64 m3, .int .u32 m4, .int .i64 n0, .int .i64 n1, .int .i64 n2, .int .i64 n3, .int .u32 n4, .int .i64 p0, .int .i64 p1, .int .i64 p2, .int .i64 p3, .int .u32 p4]), .int .u32 bd, .slice none 0 0] w fun e w' => (∃ v, e = .returned v) ∧ GS w0 w' L X nd (B + 1) A (setF F i (RW (tRg rg o a b c bd) pc 3 ft (tKk kk m0 m1 m2 m3 m4 n0 n1 n2 n3 n4 p0 p1 p2 p3 p4 0 0 0 0 0) wt)) (V.putAll l [x]) ∧ GK A w w' := by
  have H := Lib.hid h
  have HE := Lib.hid hE
  have HR2 := Lib.hid (tKk_right hR.out m0 m1 m2 m3 m4 n0 n1 n2 n3 n4 p0 p1 p2 p3 p4 0 0 0 0 0 hm hn hp (by decide))
  clear h hE
  have HA := Lib.hid (((H.out.more (w' := (w.alloc (.cells ([.int .u32 o, .int .u32 a, .int .u32 b, .int .u32 c, .int .i64 m0, .int .i64 m1, .int .i64 m2, .int .i64 m3, .int .u32 m4, .int .i64 n0, .int .i64 n1, .int .i64 n2, .int .i64 n3, .int .u32 n4, .int .i64 p0, .int .i64 p1, .int .i64 p2, .int .i64 p3, .int .u32 p4] : List Value).toArray 52))) ((Below.refl _ _).alloc (Nat.le_refl _) _) w.heap.size (Nat.le_refl _) (by simp)).more (w' := ((w.alloc (.cells ([.int .u32 o, .int .u32 a, .int .u32 b, .int .u32 c, .int .i64 m0, .int .i64 m1, .int .i64 m2, .int .i64 m3, .int .u32 m4, .int .i64 n0, .int .i64 n1, .int .i64 n2, .int .i64 n3, .int .u32 n4, .int .i64 p0, .int .i64 p1, .int .i64 p2, .int .i64 p3, .int .u32 p4] : List Value).toArray 52)).alloc (.cells #[.int .u32 bd] 26))) ((Below.refl _ _).alloc (Nat.le_refl _) _) (w.heap.size + 1) (by simp) (by simp)).more (w' := (((w.alloc (.cells ([.int .u32 o, .int .u32 a, .int .u32 b, .int .u32 c, .int .i64 m0, .int .i64 m1, .int .i64 m2, .int .i64 m3, .int .u32 m4, .int .i64 n0, .int .i64 n1, .int .i64 n2, .int .i64 n3, .int .u32 n4, .int .i64 p0, .int .i64 p1, .int .i64 p2, .int .i64 p3, .int .u32 p4] : List Value).toArray 52)).alloc (.cells #[.int .u32 bd] 26)).alloc (.cells #[.slice none 0 0] 138))) ((Below.refl _ _).alloc (Nat.le_refl _) _) (w.heap.size + 1 + 1) (by simp) (by simp))
  have b1 : Below w.heap.size w (w.alloc (.cells ([.int .u32 o, .int .u32 a, .int .u32 b, .int .u32 c, .int .i64 m0, .int .i64 m1, .int .i64 m2, .int .i64 m3, .int .u32 m4, .int .i64 n0, .int .i64 n1, .int .i64 n2, .int .i64 n3, .int .u32 n4, .int .i64 p0, .int .i64 p1, .int .i64 p2, .int .i64 p3, .int .u32 p4] : List Value).toArray 52)) := (Below.refl _ _).alloc (Nat.le_refl _) _
  have b2 : Below ((w.alloc (.cells ([.int .u32 o, .int .u32 a, .int .u32 b, .int .u32 c, .int .i64 m0, .int .i64 m1, .int .i64 m2, .int .i64 m3, .int .u32 m4, .int .i64 n0, .int .i64 n1, .int .i64 n2, .int .i64 n3, .int .u32 n4, .int .i64 p0, .int .i64 p1, .int .i64 p2, .int .i64 p3, .int .u32 p4] : List Value).toArray 52)).heap.size) (w.alloc (.cells ([.int .u32 o, .int .u32 a, .int .u32 b, .int .u32 c, .int .i64 m0, .int .i64 m1, .int .i64 m2, .int .i64 m3, .int .u32 m4, .int .i64 n0, .int .i64 n1, .int .i64 n2, .int .i64 n3, .int .u32 n4, .int .i64 p0, .int .i64 p1, .int .i64 p2, .int .i64 p3, .int .u32 p4] : List Value).toArray 52)) ((w.alloc (.cells ([.int .u32 o, .int .u32 a, .int .u32 b, .int .u32 c, .int .i64 m0, .int .i64 m1, .int .i64 m2, .int .i64 m3, .int .u32 m4, .int .i64 n0, .int .i64 n1, .int .i64 n2, .int .i64 n3, .int .u32 n4, .int .i64 p0, .int .i64 p1, .int .i64 p2, .int .i64 p3, .int .u32 p4] : List Value).toArray 52)).alloc (.cells #[.int .u32 bd] 26)) := (Below.refl _ _).alloc (Nat.le_refl _) _
  have b3 : Below (((w.alloc (.cells ([.int .u32 o, .int .u32 a, .int .u32 b, .int .u32 c, .int .i64 m0, .int .i64 m1, .int .i64 m2, .int .i64 m3, .int .u32 m4, .int .i64 n0, .int .i64 n1, .int .i64 n2, .int .i64 n3, .int .u32 n4, .int .i64 p0, .int .i64 p1, .int .i64 p2, .int .i64 p3, .int .u32 p4] : List Value).toArray 52)).alloc (.cells #[.int .u32 bd] 26)).heap.size) ((w.alloc (.cells ([.int .u32 o, .int .u32 a, .int .u32 b, .int .u32 c, .int .i64 m0, .int .i64 m1, .int .i64 m2, .int .i64 m3, .int .u32 m4, .int .i64 n0, .int .i64 n1, .int .i64 n2, .int .i64 n3, .int .u32 n4, .int .i64 p0, .int .i64 p1, .int .i64 p2, .int .i64 p3, .int .u32 p4] : List Value).toArray 52)).alloc (.cells #[.int .u32 bd] 26)) (((w.alloc (.cells ([.int .u32 o, .int .u32 a, .int .u32 b, .int .u32 c, .int .i64 m0, .int .i64 m1, .int .i64 m2, .int .i64 m3, .int .u32 m4, .int .i64 n0, .int .i64 n1, .int .i64 n2, .int .i64 n3, .int .u32 n4, .int .i64 p0, .int .i64 p1, .int .i64 p2, .int .i64 p3, .int .u32 p4] : List Value).toArray 52)).alloc (.cells #[.int .u32 bd] 26)).alloc (.cells #[.slice none 0 0] 138)) := (Below.refl _ _).alloc (Nat.le_refl _) _
  have HB : Hid (Below w.heap.size w (((w.alloc (.cells ([.int .u32 o, .int .u32 a, .int .u32 b, .int .u32 c, .int .i64 m0, .int .i64 m1, .int .i64 m2, .int .i64 m3, .int .u32 m4, .int .i64 n0, .int .i64 n1, .int .i64 n2, .int .i64 n3, .int .u32 n4, .int .i64 p0, .int .i64 p1, .int .i64 p2, .int .i64 p3, .int .u32 p4] : List Value).toArray 52)).alloc (.cells #[.int .u32 bd] 26)).alloc (.cells #[.slice none 0 0] 138))) := Lib.hid (b1.trans ((b2.trans (b3.mono b2.size)).mono b1.size))
  have r0 : World.rangeAt (((w.alloc (.cells ([.int .u32 o, .int .u32 a, .int .u32 b, .int .u32 c, .int .i64 m0, .int .i64 m1, .int .i64 m2, .int .i64 m3, .int .u32 m4, .int .i64 n0, .int .i64 n1, .int .i64 n2, .int .i64 n3, .int .u32 n4, .int .i64 p0, .int .i64 p1, .int .i64 p2, .int .i64 p3, .int .u32 p4] : List Value).toArray 52)).alloc (.cells #[.int .u32 bd] 26)).alloc (.cells #[.slice none 0 0] 138)) w.heap.size 0 ([.int .u32 o, .int .u32 a, .int .u32 b, .int .u32 c, .int .i64 m0, .int .i64 m1, .int .i64 m2, .int .i64 m3, .int .u32 m4, .int .i64 n0, .int .i64 n1, .int .i64 n2, .int .i64 n3, .int .u32 n4, .int .i64 p0, .int .i64 p1, .int .i64 p2, .int .i64 p3, .int .u32 p4] : List Value) := range_below (cbox w ([.int .u32 o, .int .u32 a, .int .u32 b, .int .u32 c, .int .i64 m0, .int .i64 m1, .int .i64 m2, .int .i64 m3, .int .u32 m4, .int .i64 n0, .int .i64 n1, .int .i64 n2, .int .i64 n3, .int .u32 n4, .int .i64 p0, .int .i64 p1, .int .i64 p2, .int .i64 p3, .int .u32 p4] : List Value) _) (b2.trans (b3.mono b2.size)) (by simp)
  have z1 : (w.alloc (.cells ([.int .u32 o, .int .u32 a, .int .u32 b, .int .u32 c, .int .i64 m0, .int .i64 m1, .int .i64 m2, .int .i64 m3, .int .u32 m4, .int .i64 n0, .int .i64 n1, .int .i64 n2, .int .i64 n3, .int .u32 n4, .int .i64 p0, .int .i64 p1, .int .i64 p2, .int .i64 p3, .int .u32 p4] : List Value).toArray 52)).heap.size = w.heap.size + 1 := by simp
  have z2 : ((w.alloc (.cells ([.int .u32 o, .int .u32 a, .int .u32 b, .int .u32 c, .int .i64 m0, .int .i64 m1, .int .i64 m2, .int .i64 m3, .int .u32 m4, .int .i64 n0, .int .i64 n1, .int .i64 n2, .int .i64 n3, .int .u32 n4, .int .i64 p0, .int .i64 p1, .int .i64 p2, .int .i64 p3, .int .u32 p4] : List Value).toArray 52)).alloc (.cells #[.int .u32 bd] 26)).heap.size = w.heap.size + 1 + 1 := by simp
  have e1 : World.cell? ((w.alloc (.cells ([.int .u32 o, .int .u32 a, .int .u32 b, .int .u32 c, .int .i64 m0, .int .i64 m1, .int .i64 m2, .int .i64 m3, .int .u32 m4, .int .i64 n0, .int .i64 n1, .int .i64 n2, .int .i64 n3, .int .u32 n4, .int .i64 p0, .int .i64 p1, .int .i64 p2, .int .i64 p3, .int .u32 p4] : List Value).toArray 52)).alloc (.cells #[.int .u32 bd] 26)) ⟨w.heap.size + 1, 0, none⟩ = some (.int .u32 bd) := by
    have h9 := cbox (w.alloc (.cells ([.int .u32 o, .int .u32 a, .int .u32 b, .int .u32 c, .int .i64 m0, .int .i64 m1, .int .i64 m2, .int .i64 m3, .int .u32 m4, .int .i64 n0, .int .i64 n1, .int .i64 n2, .int .i64 n3, .int .u32 n4, .int .i64 p0, .int .i64 p1, .int .i64 p2, .int .i64 p3, .int .u32 p4] : List Value).toArray 52)) [.int .u32 bd] 26 0 _ rfl
    rw [z1] at h9
    exact h9
  have d1 : World.cell? (((w.alloc (.cells ([.int .u32 o, .int .u32 a, .int .u32 b, .int .u32 c, .int .i64 m0, .int .i64 m1, .int .i64 m2, .int .i64 m3, .int .u32 m4, .int .i64 n0, .int .i64 n1, .int .i64 n2, .int .i64 n3, .int .u32 n4, .int .i64 p0, .int .i64 p1, .int .i64 p2, .int .i64 p3, .int .u32 p4] : List Value).toArray 52)).alloc (.cells #[.int .u32 bd] 26)).alloc (.cells #[.slice none 0 0] 138)) ⟨w.heap.size + 1, 0, none⟩ = some (.int .u32 bd) := (b3.cell (p := ⟨w.heap.size + 1, 0, none⟩) (by rw [z2]; exact Nat.lt_succ_self _)).trans e1
  have d2 : World.cell? (((w.alloc (.cells ([.int .u32 o, .int .u32 a, .int .u32 b, .int .u32 c, .int .i64 m0, .int .i64 m1, .int .i64 m2, .int .i64 m3, .int .u32 m4, .int .i64 n0, .int .i64 n1, .int .i64 n2, .int .i64 n3, .int .u32 n4, .int .i64 p0, .int .i64 p1, .int .i64 p2, .int .i64 p3, .int .u32 p4] : List Value).toArray 52)).alloc (.cells #[.int .u32 bd] 26)).alloc (.cells #[.slice none 0 0] 138)) ⟨w.heap.size + 1 + 1, 0, none⟩ = some (.slice none 0 0) := by
    have h9 := cbox ((w.alloc (.cells ([.int .u32 o, .int .u32 a, .int .u32 b, .int .u32 c, .int .i64 m0, .int .i64 m1, .int .i64 m2, .int .i64 m3, .int .u32 m4, .int .i64 n0, .int .i64 n1, .int .i64 n2, .int .i64 n3, .int .u32 n4, .int .i64 p0, .int .i64 p1, .int .i64 p2, .int .i64 p3, .int .u32 p4] : List Value).toArray 52)).alloc (.cells #[.int .u32 bd] 26)) [.slice none 0 0] 138 0 _ rfl
    rw [z2] at h9
    exact h9
  have HC := Lib.hid (change_hand_no HA.out x i hx hi rg pc st ft kk wt hF hR t1 t2 u1 u2 vs vr HE.out w.heap.size (w.heap.size + 1) (w.heap.size + 1 + 1) ⟨by simp, by simp, by simp⟩ o a b c bd m0 m1 m2 m3 m4 n0 n1 n2 n3 n4 p0 p1 p2 p3 p4 r0 d1 d2 HR2)
  clear b1 b2 b3 r0 d1 d2 e1 z1 z2
  go_enter Tryz.func51, Tryz.ntmps51
  go_wp2_with (first
    | (go_at_call 47; (with_reducible refine HC.out.mono ?_); rintro e w1 ⟨⟨v, rfl⟩, hg, hk⟩; have H1 := Lib.hid hg; have K1 := Lib.hid hk; clear hg hk; have c5 := H1.out.c5)
    | (go_at_call 63; (with_reducible refine (H1.out.qput x hxq hl hB).mono ?_); rintro e w2 ⟨⟨v2, rfl⟩, hg, hk⟩; have H2 := Lib.hid hg; have K2 := Lib.hid hk; clear hg hk))
  go_end0
  exact ⟨⟨_, rfl⟩, H2.out.tail.tail.tail, (GS.keep HB.out H.out).trans (K1.out.tail.tail.tail.trans K2.out.tail.tail.tail)⟩
set_option maxRecDepth 100000 in
set_option maxHeartbeats 400000 in
theorem hand1_key (C cp : Nat) (h : GB w0 wb w L X nd B A F l J (RW rg pc st ft kk wt)) (NB DB SB : Nat) (hB : NB ∈ A ∧ DB ∈ A ∧ SB ∈ A) (o a b c bd : Int) (m0 m1 m2 m3 m4 : Int) (n0 n1 n2 n3 n4 : Int) (p0 p1 p2 p3 p4 : Int) (hn : wb.rangeAt NB 0 ([.int .u32 o, .int .u32 a, .int .u32 b, .int .u32 c, .int .i64 m0, .int .i64 m1, .int .i64 m2, .int .i64 m3, .int .u32 m4, .int .i64 n0, .int .i64 n1, .int .i64 n2, .int .i64 n3, .int .u32 n4, .int .i64 p0, .int .i64 p1, .int .i64 p2, .int .i64 p3, .int .u32 p4] : List Value)) (hd : wb.cell? ⟨DB, 0, none⟩ = some (.int .u32 bd)) (hs : wb.cell? ⟨SB, 0, none⟩ = some (.slice (some ⟨C, 0, none⟩) 1 cp)) (y0 y1 y2 y3 y4 : Int) (hC : C ∈ A) (hk : KeyC wb C y0 y1 y2 y3 y4) :
    Calls Tryz.prog 75 #[.pointer (some ⟨J, 0, none⟩), .pointer (some ⟨NB, 0, none⟩), .pointer (some ⟨DB, 0, none⟩), .pointer (some ⟨SB, 0, none⟩)] w fun e w' => (∃ v, e = .returned v) ∧ GB w0 wb w' L X nd B A F l J (RW (tRg rg o a b c bd) pc 3 ft (tKk kk m0 m1 m2 m3 m4 n0 n1 n2 n3 n4 p0 p1 p2 p3 p4 y0 y1 y2 y3 y4) wt) := by
  have H := Lib.hid h
  have HN := Lib.hid (range_same hn (h.gk.eq NB hB.1))
  have c1 := (World.cell?_of_block (a := ⟨DB, 0, none⟩) (h.gk.eq DB hB.2.1)).trans hd
  have c2 := (World.cell?_of_block (a := ⟨SB, 0, none⟩) (h.gk.eq SB hB.2.2)).trans hs
  have HK := Lib.hid (And.intro hC hk)
  clear hC hk
  clear h hn hd hs
  go_enter Tryz.func75, Tryz.ntmps75
  go_upto_region 1 with (first
    | (refine wpList_load_mid (by rfl) _ _ (by rfl) NB 0 (by rfl) ([.int .u32 o, .int .u32 a, .int .u32 b, .int .u32 c, .int .i64 m0, .int .i64 m1, .int .i64 m2, .int .i64 m3, .int .u32 m4, .int .i64 n0, .int .i64 n1, .int .i64 n2, .int .i64 n3, .int .u32 n4, .int .i64 p0, .int .i64 p1, .int .i64 p2, .int .i64 p3, .int .u32 p4] : List Value) _ HN.out Tryz.underlying52 rfl infoNote ?_)
    | (go_at_call 62; (with_reducible refine (ctake_key H.out o a b c bd m0 m1 m2 m3 m4 n0 n1 n2 n3 n4 p0 p1 p2 p3 p4 C cp y0 y1 y2 y3 y4 HK.out.1 HK.out.2).mono ?_); rintro e w1 ⟨⟨v, rfl⟩, hg⟩; have H1 := Lib.hid hg; clear hg c1 c2))
  have z9 := H1.out.free 9 (by decide)
  have j9 := H1.out.cell 9 (by decide)
  go_wp2_with fail
  go_end0
  exact ⟨⟨_, rfl⟩, by unfold tRg tKk; rw [← RW_st _ pc st ft _ wt 3]; exact H1.out.set 9 _⟩
set_option maxRecDepth 100000 in
set_option maxHeartbeats 400000 in
theorem change_hand_key (C cp : Nat) (h : GS w0 w L X nd B A F l) (x : Int) (i : Nat) (hx : Hid (x = (i : Int))) (hi : i < nd) (rg : Nat → Int) (pc st ft : Int) (kk : Nat → Nat → Int) (wt : Int) (hF : Hid (F i = RW rg pc st ft kk wt)) (hR : Hid (∀ q, q < 19 → KRight kk q)) (t1 : 0 ≤ ft) (t2 : ft ≤ 6) (u1 : 0 ≤ wt) (u2 : wt ≤ 536870911) (vs vr : Value) (hE : ErrsAt vs vr w0) (NB DB SB : Nat) (hB : NB ∈ A ∧ DB ∈ A ∧ SB ∈ A) (o a b c bd : Int) (m0 m1 m2 m3 m4 : Int) (n0 n1 n2 n3 n4 : Int) (p0 p1 p2 p3 p4 : Int) (hn : w.rangeAt NB 0 ([.int .u32 o, .int .u32 a, .int .u32 b, .int .u32 c, .int .i64 m0, .int .i64 m1, .int .i64 m2, .int .i64 m3, .int .u32 m4, .int .i64 n0, .int .i64 n1, .int .i64 n2, .int .i64 n3, .int .u32 n4, .int .i64 p0, .int .i64 p1, .int .i64 p2, .int .i64 p3, .int .u32 p4] : List Value)) (hd : w.cell? ⟨DB, 0, none⟩ = some (.int .u32 bd)) (hs : w.cell? ⟨SB, 0, none⟩ = some (.slice (some ⟨C, 0, none⟩) 1 cp)) (y0 y1 y2 y3 y4 : Int) (hC : C ∈ A) (hk : KeyC w C y0 y1 y2 y3 y4) (HR2 : Hid (∀ q, q < 19 → KRight (tKk kk m0 m1 m2 m3 m4 n0 n1 n2 n3 n4 p0 p1 p2 p3 p4 y0 y1 y2 y3 y4) q)) :
    Calls Tryz.prog 47 #[.pointer (some ⟨X.s, 0, none⟩), .int .i64 x, .func (.func 75) #[] #[.pointer (some ⟨NB, 0, none⟩), .pointer (some ⟨DB, 0, none⟩), .pointer (some ⟨SB, 0, none⟩)]] w fun e w' => (∃ v, e = .returned v) ∧ GS w0 w' L X nd B A (setF F i (RW (tRg rg o a b c bd) pc 3 ft (tKk kk m0 m1 m2 m3 m4 n0 n1 n2 n3 n4 p0 p1 p2 p3 p4 y0 y1 y2 y3 y4) wt)) l ∧ GK A w w' := by
  have H := Lib.hid h
  have HOne : Hid (∀ j, j < 107 → (RW rg pc st ft kk wt j).oneCell' = true) := Lib.hid (fun j _ => RW_one _ _ _ _ _ _ j)
  have HOneF : Hid (∀ j, j < 107 → (F i j).oneCell' = true) := Lib.hid (by rw [hF.out]; exact HOne.out)
  have HE := Lib.hid hE
  have c1 := h.c1
  have HP := Lib.hid (And.intro hB (And.intro hn (And.intro hd hs)))
  have HK := Lib.hid (And.intro hC hk)
  clear hC hk
  clear h hE hB hn hd hs
  go_enter Tryz.func47, Tryz.ntmps47
  go_upto_region 2 with (first
    | (go_at_call 10; (with_reducible refine ((H.out).get x i hx hi HOneF).mono ?_); rintro e w1 ⟨rfl, hb⟩; have HB1 := Lib.hid hb; clear hb)
    | (refine wpList_store_mid (by rfl) _ _ _ (by rfl) w1.heap.size 0 (rowL (F i)).toArray (by rfl) (by rfl) (by rw [rowL_size]; exact nthere_new _ _ 107 zsize _) (by rw [rowL_size]; exact infoDomS) (rowL_one (F i) HOneF.out) ?_))
  generalize hg : World.setCells _ w1.heap.size 0 _ = w2
  obtain ⟨J, hJ⟩ : ∃ J, J = w1.heap.size := ⟨_, rfl⟩
  have H2 : Hid (GB w0 w w2 L X nd B A F l J (RW rg pc st ft kk wt) ∧ Below w.heap.size w w2) := Lib.hid (by rw [← hg, hJ, ← hF.out]; exact ⟨GB.made H.out HB1.out (F i) _ zsize _, nbelow_cells (HB1.out.alloc HB1.out.size _) HB1.out.size _ _⟩)
  rw [← hJ]
  clear hg hJ c1
  have HS := Lib.hid (hand1_key C cp H2.out.1 NB DB SB HP.out.1 o a b c bd m0 m1 m2 m3 m4 n0 n1 n2 n3 n4 p0 p1 p2 p3 p4 HP.out.2.1 HP.out.2.2.1 HP.out.2.2.2 y0 y1 y2 y3 y4 HK.out.1 HK.out.2)
  go_upto_region 3 with (first | (go_at_call 75; (with_reducible refine HS.out.mono ?_); rintro e w3 ⟨⟨v, rfl⟩, hg⟩; have H3 := Lib.hid hg; clear hg))
  have HSC : Hid (∀ W, Below w3.heap.size w3 W → (World.cell? W ⟨X.s, 1, none⟩ = some (.pointer (some ⟨L.dP, 0, none⟩)) ∧ World.rangeAt W J 0 (rowL (RW (tRg rg o a b c bd) pc 3 ft (tKk kk m0 m1 m2 m3 m4 n0 n1 n2 n3 n4 p0 p1 p2 p3 p4 y0 y1 y2 y3 y4) wt)))) := (Lib.hid (fun W hW => ⟨((H3.out).below hW).gs.c1, ((H3.out).below hW).r⟩)); obtain ⟨wD, hwD⟩ : ∃ wD, wD = w3.drew := ⟨_, rfl⟩; have HBd : Hid (Below w3.heap.size w3 wD) := (Lib.hid (by rw [hwD]; exact (Below.refl _ _).drew)); refine wp_region_noPanic ?_; refine wp_region_held_drew (S := fun W => (World.cell? W ⟨X.s, 1, none⟩ = some (.pointer (some ⟨L.dP, 0, none⟩)) ∧ World.rangeAt W J 0 (rowL (RW (tRg rg o a b c bd) pc 3 ft (tKk kk m0 m1 m2 m3 m4 n0 n1 n2 n3 n4 p0 p1 p2 p3 p4 y0 y1 y2 y3 y4) wt)))) (by kernel_rfl) (by rw [← hwD]; exact HSC.out _ HBd.out) (fun hHeld => ?_); rw [← hwD] at hHeld ⊢; clear hwD; refine wpAnyH_take (i := 0) (v := ?_) (by rfl) (by kernel_rfl) (by kernel_rfl) (by kernel_rfl) (fun _ _ _ h => h) (Or.inl ⟨by kernel_rfl, ?_⟩) (by assumption) ?_; rotate_left 1; (focus (intro w hSw; (try dsimp only at hSw); simp only [List.getElem_toArray, List.getElem_cons_succ, List.getElem_cons_zero]; all_goals go_simp; all_goals (try with_reducible rfl))); (try simp only [Act.put, List.getElem_toArray, List.getElem_cons_succ, List.getElem_cons_zero, List.setIfInBounds_toArray, List.set_cons_zero, List.set_cons_succ]); refine wpAnyH_take (i := 1) (v := ?_) (by rfl) (by kernel_rfl) (by kernel_rfl) (by kernel_rfl) (fun _ _ _ h => h) (Or.inl ⟨by kernel_rfl, ?_⟩) (by assumption) ?_; rotate_left 1; (focus (intro w hSw; (try dsimp only at hSw); simp only [List.getElem_toArray, List.getElem_cons_succ, List.getElem_cons_zero]; all_goals go_simp; all_goals (try with_reducible rfl))); (try simp only [Act.put, List.getElem_toArray, List.getElem_cons_succ, List.getElem_cons_zero, List.setIfInBounds_toArray, List.set_cons_zero, List.set_cons_succ]); refine wpAnyH_take (i := 2) (v := ?_) (by rfl) (by kernel_rfl) (by kernel_rfl) (by kernel_rfl) (fun _ _ _ h => h) (Or.inl ⟨by kernel_rfl, ?_⟩) (by assumption) ?_; rotate_left 1; (focus (intro w hSw; (try dsimp only at hSw); simp only [List.getElem_toArray, List.getElem_cons_succ, List.getElem_cons_zero]; all_goals go_simp; all_goals (try with_reducible rfl))); (try simp only [Act.put, List.getElem_toArray, List.getElem_cons_succ, List.getElem_cons_zero, List.setIfInBounds_toArray, List.set_cons_zero, List.set_cons_succ]); refine wpAnyH_take (i := 3) (v := ?_) (by rfl) (by kernel_rfl) (by kernel_rfl) (by kernel_rfl) (fun _ _ _ h => h) (Or.inl ⟨by kernel_rfl, ?_⟩) (by assumption) ?_; rotate_left 1; (focus (intro w hSw; (try dsimp only at hSw); simp only [List.getElem_toArray, List.getElem_cons_succ, List.getElem_cons_zero]; all_goals go_simp; all_goals (try with_reducible rfl))); (try simp only [Act.put, List.getElem_toArray, List.getElem_cons_succ, List.getElem_cons_zero, List.setIfInBounds_toArray, List.set_cons_zero, List.set_cons_succ]); refine wpAnyH_take (i := 4) (v := ?_) (by rfl) (by kernel_rfl) (by kernel_rfl) (by kernel_rfl) (fun _ _ _ h => h) (Or.inl ⟨by kernel_rfl, ?_⟩) (by assumption) ?_; rotate_left 1; (focus (intro w hSw; (try dsimp only at hSw); simp only [List.getElem_toArray, List.getElem_cons_succ, List.getElem_cons_zero]; all_goals go_simp; all_goals (try with_reducible rfl))); (try simp only [Act.put, List.getElem_toArray, List.getElem_cons_succ, List.getElem_cons_zero, List.setIfInBounds_toArray, List.set_cons_zero, List.set_cons_succ]); refine wpAnyH_take (i := 5) (v := .agg (rowL (RW (tRg rg o a b c bd) pc 3 ft (tKk kk m0 m1 m2 m3 m4 n0 n1 n2 n3 n4 p0 p1 p2 p3 p4 y0 y1 y2 y3 y4) wt)).toArray) (by rfl) (by kernel_rfl) (by kernel_rfl) (by kernel_rfl) (fun _ _ _ h => h) (yieldsIf_load_mid (by kernel_rfl) 34 (.tmp 6) (by rfl) J 0 (by rfl) (rowL (RW (tRg rg o a b c bd) pc 3 ft (tKk kk m0 m1 m2 m3 m4 n0 n1 n2 n3 n4 p0 p1 p2 p3 p4 y0 y1 y2 y3 y4) wt)) _ (fun w h => h.2) Tryz.underlying34 rfl (by rw [rowL_len]; exact infoDomS)) (by assumption) ?_; (try simp only [Act.put, List.getElem_toArray, List.getElem_cons_succ, List.getElem_cons_zero, List.setIfInBounds_toArray, List.set_cons_zero, List.set_cons_succ]); refine wpAnyH_ready (rs := [6]) (by kernel_rfl) (by simp) ?_; refine AllReadyH.cons (by rfl) (fun K hK => ?_) AllReadyH.nil; rw [if_pos (by kernel_rfl)]; simp only [List.getElem_toArray, List.getElem_cons_succ, List.getElem_cons_zero]; go_wp2_with (first | (go_at_call 11; (with_reducible refine (((H3.out.gs.below HBd.out).put x i hx hi (tRg rg o a b c bd) pc 3 ft (tKk kk m0 m1 m2 m3 m4 n0 n1 n2 n3 n4 p0 p1 p2 p3 p4 y0 y1 y2 y3 y4) wt HR2 (by decide) (by decide) t1 t2 u1 u2 vs vr HE.out)).mono ?_); rintro e w4 ⟨rfl, hgs, hgk⟩; have H4 := Lib.hid hgs; have K4 := Lib.hid hgk; clear hgs hgk)); refine hK.out _ _ ⟨H4.out.c1, range_same ((H3.out).below HBd.out).r (K4.out.eq J (by simp))⟩ (fun hHeld => ?_); clear hK K; (try simp only [Act.put, List.getElem_toArray, List.getElem_cons_succ, List.getElem_cons_zero, List.setIfInBounds_toArray, List.set_cons_zero, List.set_cons_succ]); refine wpAnyH_done (by kernel_rfl) ?_ _; refine NoPanic.normal ?_
  go_wp2_with fail
  go_end0
  exact ⟨⟨_, rfl⟩, H4.out.tail, H3.out.gk.trans ((GS.keep HBd.out H3.out.gs).tail.trans K4.out.tail)⟩
set_option maxRecDepth 100000 in
set_option maxHeartbeats 400000 in
theorem hand_key (C cp : Nat) (h : GS w0 w L X nd B A F l) (x : Int) (i : Nat) (hx : Hid (x = (i : Int))) (hi : i < nd) (rg : Nat → Int) (pc st ft : Int) (kk : Nat → Nat → Int) (wt : Int) (hF : Hid (F i = RW rg pc st ft kk wt)) (hR : Hid (∀ q, q < 19 → KRight kk q)) (t1 : 0 ≤ ft) (t2 : ft ≤ 6) (u1 : 0 ≤ wt) (u2 : wt ≤ 536870911) (vs vr : Value) (hE : ErrsAt vs vr w0) (hxq : V.wfI x) (hl : l.length ≤ 1000) (hB : B ≤ 1000) (o a b c bd : Int) (m0 m1 m2 m3 m4 : Int) (n0 n1 n2 n3 n4 : Int) (p0 p1 p2 p3 p4 : Int) (y0 y1 y2 y3 y4 : Int) (hC : C ∈ A) (hk : KeyC w C y0 y1 y2 y3 y4) (hm : rightB m0 m1 m2 m3 m4 = true) (hn : rightB n0 n1 n2 n3 n4 = true) (hp : rightB p0 p1 p2 p3 p4 = true) (hy : rightB y0 y1 y2 y3 y4 = true) :
    Calls Tryz.prog 51 #[.pointer (some ⟨X.s, 0, none⟩), .int .i64 x, (Value.agg #[.int .u32 o, .int .u32 a, .int .u32 b, .int .u32 c, .int .i64 m0, .int .i64 m1, .int .i64 m2, .int .i64 m3, .int .u32 m4, .int .i64 n0, .int .i64 n1, .int .i64 n2, .int .i64 n3, .int .u32 n4, .int .i64 p0, .int .i64 p1, .int .i64 p2, .int .i64 p3, .int .u32 p4]), .int .u32 bd, .slice (some ⟨C, 0, none⟩) 1 cp] w fun e w' => (∃ v, e = .returned v) ∧ GS w0 w' L X nd (B + 1) A (setF F i (RW (tRg rg o a b c bd) pc 3 ft (tKk kk m0 m1 m2 m3 m4 n0 n1 n2 n3 n4 p0 p1 p2 p3 p4 y0 y1 y2 y3 y4) wt)) (V.putAll l [x]) ∧ GK A w w' := by
  have H := Lib.hid h
  have HE := Lib.hid hE
  have HR2 := Lib.hid (tKk_right hR.out m0 m1 m2 m3 m4 n0 n1 n2 n3 n4 p0 p1 p2 p3 p4 y0 y1 y2 y3 y4 hm hn hp hy)
  have HK := Lib.hid (And.intro hC hk)
  clear hC hk
  clear h hE
  have HA := Lib.hid (((H.out.more (w' := (w.alloc (.cells ([.int .u32 o, .int .u32 a, .int .u32 b, .int .u32 c, .int .i64 m0, .int .i64 m1, .int .i64 m2, .int .i64 m3, .int .u32 m4, .int .i64 n0, .int .i64 n1, .int .i64 n2, .int .i64 n3, .int .u32 n4, .int .i64 p0, .int .i64 p1, .int .i64 p2, .int .i64 p3, .int .u32 p4] : List Value).toArray 52))) ((Below.refl _ _).alloc (Nat.le_refl _) _) w.heap.size (Nat.le_refl _) (by simp)).more (w' := ((w.alloc (.cells ([.int .u32 o, .int .u32 a, .int .u32 b, .int .u32 c, .int .i64 m0, .int .i64 m1, .int .i64 m2, .int .i64 m3, .int .u32 m4, .int .i64 n0, .int .i64 n1, .int .i64 n2, .int .i64 n3, .int .u32 n4, .int .i64 p0, .int .i64 p1, .int .i64 p2, .int .i64 p3, .int .u32 p4] : List Value).toArray 52)).alloc (.cells #[.int .u32 bd] 26))) ((Below.refl _ _).alloc (Nat.le_refl _) _) (w.heap.size + 1) (by simp) (by simp)).more (w' := (((w.alloc (.cells ([.int .u32 o, .int .u32 a, .int .u32 b, .int .u32 c, .int .i64 m0, .int .i64 m1, .int .i64 m2, .int .i64 m3, .int .u32 m4, .int .i64 n0, .int .i64 n1, .int .i64 n2, .int .i64 n3, .int .u32 n4, .int .i64 p0, .int .i64 p1, .int .i64 p2, .int .i64 p3, .int .u32 p4] : List Value).toArray 52)).alloc (.cells #[.int .u32 bd] 26)).alloc (.cells #[.slice (some ⟨C, 0, none⟩) 1 cp] 138))) ((Below.refl _ _).alloc (Nat.le_refl _) _) (w.heap.size + 1 + 1) (by simp) (by simp))
  have b1 : Below w.heap.size w (w.alloc (.cells ([.int .u32 o, .int .u32 a, .int .u32 b, .int .u32 c, .int .i64 m0, .int .i64 m1, .int .i64 m2, .int .i64 m3, .int .u32 m4, .int .i64 n0, .int .i64 n1, .int .i64 n2, .int .i64 n3, .int .u32 n4, .int .i64 p0, .int .i64 p1, .int .i64 p2, .int .i64 p3, .int .u32 p4] : List Value).toArray 52)) := (Below.refl _ _).alloc (Nat.le_refl _) _
  have b2 : Below ((w.alloc (.cells ([.int .u32 o, .int .u32 a, .int .u32 b, .int .u32 c, .int .i64 m0, .int .i64 m1, .int .i64 m2, .int .i64 m3, .int .u32 m4, .int .i64 n0, .int .i64 n1, .int .i64 n2, .int .i64 n3, .int .u32 n4, .int .i64 p0, .int .i64 p1, .int .i64 p2, .int .i64 p3, .int .u32 p4] : List Value).toArray 52)).heap.size) (w.alloc (.cells ([.int .u32 o, .int .u32 a, .int .u32 b, .int .u32 c, .int .i64 m0, .int .i64 m1, .int .i64 m2, .int .i64 m3, .int .u32 m4, .int .i64 n0, .int .i64 n1, .int .i64 n2, .int .i64 n3, .int .u32 n4, .int .i64 p0, .int .i64 p1, .int .i64 p2, .int .i64 p3, .int .u32 p4] : List Value).toArray 52)) ((w.alloc (.cells ([.int .u32 o, .int .u32 a, .int .u32 b, .int .u32 c, .int .i64 m0, .int .i64 m1, .int .i64 m2, .int .i64 m3, .int .u32 m4, .int .i64 n0, .int .i64 n1, .int .i64 n2, .int .i64 n3, .int .u32 n4, .int .i64 p0, .int .i64 p1, .int .i64 p2, .int .i64 p3, .int .u32 p4] : List Value).toArray 52)).alloc (.cells #[.int .u32 bd] 26)) := (Below.refl _ _).alloc (Nat.le_refl _) _
  have b3 : Below (((w.alloc (.cells ([.int .u32 o, .int .u32 a, .int .u32 b, .int .u32 c, .int .i64 m0, .int .i64 m1, .int .i64 m2, .int .i64 m3, .int .u32 m4, .int .i64 n0, .int .i64 n1, .int .i64 n2, .int .i64 n3, .int .u32 n4, .int .i64 p0, .int .i64 p1, .int .i64 p2, .int .i64 p3, .int .u32 p4] : List Value).toArray 52)).alloc (.cells #[.int .u32 bd] 26)).heap.size) ((w.alloc (.cells ([.int .u32 o, .int .u32 a, .int .u32 b, .int .u32 c, .int .i64 m0, .int .i64 m1, .int .i64 m2, .int .i64 m3, .int .u32 m4, .int .i64 n0, .int .i64 n1, .int .i64 n2, .int .i64 n3, .int .u32 n4, .int .i64 p0, .int .i64 p1, .int .i64 p2, .int .i64 p3, .int .u32 p4] : List Value).toArray 52)).alloc (.cells #[.int .u32 bd] 26)) (((w.alloc (.cells ([.int .u32 o, .int .u32 a, .int .u32 b, .int .u32 c, .int .i64 m0, .int .i64 m1, .int .i64 m2, .int .i64 m3, .int .u32 m4, .int .i64 n0, .int .i64 n1, .int .i64 n2, .int .i64 n3, .int .u32 n4, .int .i64 p0, .int .i64 p1, .int .i64 p2, .int .i64 p3, .int .u32 p4] : List Value).toArray 52)).alloc (.cells #[.int .u32 bd] 26)).alloc (.cells #[.slice (some ⟨C, 0, none⟩) 1 cp] 138)) := (Below.refl _ _).alloc (Nat.le_refl _) _
  have HB : Hid (Below w.heap.size w (((w.alloc (.cells ([.int .u32 o, .int .u32 a, .int .u32 b, .int .u32 c, .int .i64 m0, .int .i64 m1, .int .i64 m2, .int .i64 m3, .int .u32 m4, .int .i64 n0, .int .i64 n1, .int .i64 n2, .int .i64 n3, .int .u32 n4, .int .i64 p0, .int .i64 p1, .int .i64 p2, .int .i64 p3, .int .u32 p4] : List Value).toArray 52)).alloc (.cells #[.int .u32 bd] 26)).alloc (.cells #[.slice (some ⟨C, 0, none⟩) 1 cp] 138))) := Lib.hid (b1.trans ((b2.trans (b3.mono b2.size)).mono b1.size))
  have r0 : World.rangeAt (((w.alloc (.cells ([.int .u32 o, .int .u32 a, .int .u32 b, .int .u32 c, .int .i64 m0, .int .i64 m1, .int .i64 m2, .int .i64 m3, .int .u32 m4, .int .i64 n0, .int .i64 n1, .int .i64 n2, .int .i64 n3, .int .u32 n4, .int .i64 p0, .int .i64 p1, .int .i64 p2, .int .i64 p3, .int .u32 p4] : List Value).toArray 52)).alloc (.cells #[.int .u32 bd] 26)).alloc (.cells #[.slice (some ⟨C, 0, none⟩) 1 cp] 138)) w.heap.size 0 ([.int .u32 o, .int .u32 a, .int .u32 b, .int .u32 c, .int .i64 m0, .int .i64 m1, .int .i64 m2, .int .i64 m3, .int .u32 m4, .int .i64 n0, .int .i64 n1, .int .i64 n2, .int .i64 n3, .int .u32 n4, .int .i64 p0, .int .i64 p1, .int .i64 p2, .int .i64 p3, .int .u32 p4] : List Value) := range_below (cbox w ([.int .u32 o, .int .u32 a, .int .u32 b, .int .u32 c, .int .i64 m0, .int .i64 m1, .int .i64 m2, .int .i64 m3, .int .u32 m4, .int .i64 n0, .int .i64 n1, .int .i64 n2, .int .i64 n3, .int .u32 n4, .int .i64 p0, .int .i64 p1, .int .i64 p2, .int .i64 p3, .int .u32 p4] : List Value) _) (b2.trans (b3.mono b2.size)) (by simp)
  have z1 : (w.alloc (.cells ([.int .u32 o, .int .u32 a, .int .u32 b, .int .u32 c, .int .i64 m0, .int .i64 m1, .int .i64 m2, .int .i64 m3, .int .u32 m4, .int .i64 n0, .int .i64 n1, .int .i64 n2, .int .i64 n3, .int .u32 n4, .int .i64 p0, .int .i64 p1, .int .i64 p2, .int .i64 p3, .int .u32 p4] : List Value).toArray 52)).heap.size = w.heap.size + 1 := by simp
  have z2 : ((w.alloc (.cells ([.int .u32 o, .int .u32 a, .int .u32 b, .int .u32 c, .int .i64 m0, .int .i64 m1, .int .i64 m2, .int .i64 m3, .int .u32 m4, .int .i64 n0, .int .i64 n1, .int .i64 n2, .int .i64 n3, .int .u32 n4, .int .i64 p0, .int .i64 p1, .int .i64 p2, .int .i64 p3, .int .u32 p4] : List Value).toArray 52)).alloc (.cells #[.int .u32 bd] 26)).heap.size = w.heap.size + 1 + 1 := by simp
  have e1 : World.cell? ((w.alloc (.cells ([.int .u32 o, .int .u32 a, .int .u32 b, .int .u32 c, .int .i64 m0, .int .i64 m1, .int .i64 m2, .int .i64 m3, .int .u32 m4, .int .i64 n0, .int .i64 n1, .int .i64 n2, .int .i64 n3, .int .u32 n4, .int .i64 p0, .int .i64 p1, .int .i64 p2, .int .i64 p3, .int .u32 p4] : List Value).toArray 52)).alloc (.cells #[.int .u32 bd] 26)) ⟨w.heap.size + 1, 0, none⟩ = some (.int .u32 bd) := by
    have h9 := cbox (w.alloc (.cells ([.int .u32 o, .int .u32 a, .int .u32 b, .int .u32 c, .int .i64 m0, .int .i64 m1, .int .i64 m2, .int .i64 m3, .int .u32 m4, .int .i64 n0, .int .i64 n1, .int .i64 n2, .int .i64 n3, .int .u32 n4, .int .i64 p0, .int .i64 p1, .int .i64 p2, .int .i64 p3, .int .u32 p4] : List Value).toArray 52)) [.int .u32 bd] 26 0 _ rfl
    rw [z1] at h9
    exact h9
  have d1 : World.cell? (((w.alloc (.cells ([.int .u32 o, .int .u32 a, .int .u32 b, .int .u32 c, .int .i64 m0, .int .i64 m1, .int .i64 m2, .int .i64 m3, .int .u32 m4, .int .i64 n0, .int .i64 n1, .int .i64 n2, .int .i64 n3, .int .u32 n4, .int .i64 p0, .int .i64 p1, .int .i64 p2, .int .i64 p3, .int .u32 p4] : List Value).toArray 52)).alloc (.cells #[.int .u32 bd] 26)).alloc (.cells #[.slice (some ⟨C, 0, none⟩) 1 cp] 138)) ⟨w.heap.size + 1, 0, none⟩ = some (.int .u32 bd) := (b3.cell (p := ⟨w.heap.size + 1, 0, none⟩) (by rw [z2]; exact Nat.lt_succ_self _)).trans e1
  have d2 : World.cell? (((w.alloc (.cells ([.int .u32 o, .int .u32 a, .int .u32 b, .int .u32 c, .int .i64 m0, .int .i64 m1, .int .i64 m2, .int .i64 m3, .int .u32 m4, .int .i64 n0, .int .i64 n1, .int .i64 n2, .int .i64 n3, .int .u32 n4, .int .i64 p0, .int .i64 p1, .int .i64 p2, .int .i64 p3, .int .u32 p4] : List Value).toArray 52)).alloc (.cells #[.int .u32 bd] 26)).alloc (.cells #[.slice (some ⟨C, 0, none⟩) 1 cp] 138)) ⟨w.heap.size + 1 + 1, 0, none⟩ = some (.slice (some ⟨C, 0, none⟩) 1 cp) := by
    have h9 := cbox ((w.alloc (.cells ([.int .u32 o, .int .u32 a, .int .u32 b, .int .u32 c, .int .i64 m0, .int .i64 m1, .int .i64 m2, .int .i64 m3, .int .u32 m4, .int .i64 n0, .int .i64 n1, .int .i64 n2, .int .i64 n3, .int .u32 n4, .int .i64 p0, .int .i64 p1, .int .i64 p2, .int .i64 p3, .int .u32 p4] : List Value).toArray 52)).alloc (.cells #[.int .u32 bd] 26)) [.slice (some ⟨C, 0, none⟩) 1 cp] 138 0 _ rfl
    rw [z2] at h9
    exact h9
  have HC := Lib.hid (change_hand_key C cp HA.out x i hx hi rg pc st ft kk wt hF hR t1 t2 u1 u2 vs vr HE.out w.heap.size (w.heap.size + 1) (w.heap.size + 1 + 1) ⟨by simp, by simp, by simp⟩ o a b c bd m0 m1 m2 m3 m4 n0 n1 n2 n3 n4 p0 p1 p2 p3 p4 r0 d1 d2 y0 y1 y2 y3 y4 (by simp [HK.out.1]) (HK.out.2.below HB.out) HR2)
  clear b1 b2 b3 r0 d1 d2 e1 z1 z2
  go_enter Tryz.func51, Tryz.ntmps51
  go_wp2_with (first
    | (go_at_call 47; (with_reducible refine HC.out.mono ?_); rintro e w1 ⟨⟨v, rfl⟩, hg, hk⟩; have H1 := Lib.hid hg; have K1 := Lib.hid hk; clear hg hk; have c5 := H1.out.c5)
    | (go_at_call 63; (with_reducible refine (H1.out.qput x hxq hl hB).mono ?_); rintro e w2 ⟨⟨v2, rfl⟩, hg, hk⟩; have H2 := Lib.hid hg; have K2 := Lib.hid hk; clear hg hk))
  go_end0
  exact ⟨⟨_, rfl⟩, H2.out.tail.tail.tail, (GS.keep HB.out H.out).trans (K1.out.tail.tail.tail.trans K2.out.tail.tail.tail)⟩
end
end Go.Proofs.YtllcakiomihipaaGreatDoor
namespace Go.Proofs.YtllcakiomihipaaGreatDoor
open Go.ChangeShapes Go.WideShapes Go.ChangeAt Go.RowKit
set_option linter.unusedVariables false
set_option linter.unusedSimpArgs false
section
variable {w0 wb w w' W : World} {L : BLoc} {X : SLoc} {nd B : Nat} {A : List Nat} {F : Nat → Nat → Value} {l : List Int} {J NB : Nat} {rg : Nat → Int} {pc st ft : Int} {kk : Nat → Nat → Int} {wt : Int} {f f' : Nat → Value}
theorem off_len (l : List Int) (x : Int) : (V.offI l x).length ≤ l.length := by
  unfold V.offI
  exact List.length_filter_le _ _
set_option maxRecDepth 100000 in
set_option maxHeartbeats 400000 in
theorem pass6_ret (h : GS w0 w L X nd B A F l) (y : Int) (i : Nat) (hy : Hid (y = (i : Int))) (hi : i < nd) (rg : Nat → Int) (pc st ft : Int) (kk : Nat → Nat → Int) (wt : Int) (hF : Hid (F i = RW rg pc st ft kk wt)) (hR : Hid (∀ q, q < 19 → KRight kk q)) (t1 : 0 ≤ ft) (t2 : ft ≤ 6) (u1 : 0 ≤ wt) (u2 : wt ≤ 536870911) (vs vr : Value) (hE : ErrsAt vs vr w0) (hyq : V.wfI y) (hl : l.length ≤ 1000) (hB : B ≤ 1000) (x : Int) (j : Nat) (hxj : Hid (x = (j : Int))) (hj : j < nd) (hij : j ≠ i) (rj : Nat → Int) (pj sj fj : Int) (kj : Nat → Nat → Int) (wj : Int) (hFj : Hid (F j = RW rj pj sj fj kj wj)) (hRj : Hid (∀ q, q < 19 → KRight kj q)) (v1 : 0 ≤ fj) (v2 : fj ≤ 6) (v3 : 0 ≤ wj) (v4 : wj ≤ 536870911) (k2 k3 k4 : Int) (o a b c : Int) (m0 m1 m2 m3 m4 : Int) (n0 n1 n2 n3 n4 : Int) (p0 p1 p2 p3 p4 : Int) (hm : rightB m0 m1 m2 m3 m4 = true) (hn : rightB n0 n1 n2 n3 n4 = true) (hp : rightB p0 p1 p2 p3 p4 = true) :
    Calls Tryz.prog 36 #[.pointer (some ⟨X.s, 0, none⟩), .int .i64 x, .int .i64 1, (Value.agg #[.int .i64 6, .int .i64 y, .int .i64 k2, .int .i64 k3, .int .u32 k4]), (Value.agg #[.int .u32 o, .int .u32 a, .int .u32 b, .int .u32 c, .int .i64 m0, .int .i64 m1, .int .i64 m2, .int .i64 m3, .int .u32 m4, .int .i64 n0, .int .i64 n1, .int .i64 n2, .int .i64 n3, .int .u32 n4, .int .i64 p0, .int .i64 p1, .int .i64 p2, .int .i64 p3, .int .u32 p4])] w fun e w' => (∃ v, e = .returned v) ∧ GS w0 w' L X nd (B + 1) A (setF (setF F i (RW (tRg rg o a b c 0) pc 3 ft (tKk kk m0 m1 m2 m3 m4 n0 n1 n2 n3 n4 p0 p1 p2 p3 p4 0 0 0 0 0) wt)) j (RW rj pj 1 fj kj wj)) (V.putAll l [y]) ∧ GK A w w' := by
  have H := Lib.hid h
  have HE := Lib.hid hE
  have HFj : Hid ((setF F i (RW (tRg rg o a b c 0) pc 3 ft (tKk kk m0 m1 m2 m3 m4 n0 n1 n2 n3 n4 p0 p1 p2 p3 p4 0 0 0 0 0) wt)) j = RW rj pj sj fj kj wj) := Lib.hid (by unfold setF; rw [if_neg hij]; exact hFj.out)
  have HLB := Lib.hid (show l.length ≤ 1000 ∧ B ≤ 1000 by omega)
  clear h hE hl hB
  go_enter Tryz.func36, Tryz.ntmps36
  go_upto_region 1 with fail
  generalize hgA : World.alloc _ _ = wA
  obtain ⟨KB, NB, hKB, hNB⟩ : ∃ KB NB, KB = w.heap.size ∧ NB = w.heap.size + 1 := ⟨_, _, rfl, rfl⟩
  have b1 : Below w.heap.size w (w.alloc (.cells #[.int .i64 6, .int .i64 y, .int .i64 k2, .int .i64 k3, .int .u32 k4] 31)) := (Below.refl _ _).alloc (Nat.le_refl _) _
  have HA : Hid (GS w0 wA L X nd B (NB :: KB :: A) F l ∧ Below w.heap.size w wA ∧ wA.rangeAt NB 0 ([.int .u32 o, .int .u32 a, .int .u32 b, .int .u32 c, .int .i64 m0, .int .i64 m1, .int .i64 m2, .int .i64 m3, .int .u32 m4, .int .i64 n0, .int .i64 n1, .int .i64 n2, .int .i64 n3, .int .u32 n4, .int .i64 p0, .int .i64 p1, .int .i64 p2, .int .i64 p3, .int .u32 p4] : List Value) ∧ KeyC wA KB 6 y k2 k3 k4) := Lib.hid (by
    have r := cbox (w.alloc (.cells #[.int .i64 6, .int .i64 y, .int .i64 k2, .int .i64 k3, .int .u32 k4] 31)) ([.int .u32 o, .int .u32 a, .int .u32 b, .int .u32 c, .int .i64 m0, .int .i64 m1, .int .i64 m2, .int .i64 m3, .int .u32 m4, .int .i64 n0, .int .i64 n1, .int .i64 n2, .int .i64 n3, .int .u32 n4, .int .i64 p0, .int .i64 p1, .int .i64 p2, .int .i64 p3, .int .u32 p4] : List Value) 52
    rw [show (w.alloc (.cells #[.int .i64 6, .int .i64 y, .int .i64 k2, .int .i64 k3, .int .u32 k4] 31)).heap.size = w.heap.size + 1 by simp] at r
    rw [← hgA, hNB, hKB]
    exact ⟨(H.out.more b1 w.heap.size (Nat.le_refl _) (by simp)).more ((Below.refl _ _).alloc (Nat.le_refl _) _) (w.heap.size + 1) (by simp) (by simp), b1.alloc (by simp) _, r, (KeyC.new w 6 y k2 k3 k4 _).below ((Below.refl _ _).alloc (Nat.le_refl _) _)⟩)
  rw [← hNB, ← hKB]
  clear hgA hNB hKB b1
  have q0 := HA.out.2.2.2.c0
  have q1 := HA.out.2.2.2.c1
  have q4 := HA.out.2.2.2.c4
  have HT := Lib.hid (hand_no HA.out.1 y i hy hi rg pc st ft kk wt hF hR t1 t2 u1 u2 vs vr HE.out hyq HLB.out.1 HLB.out.2 o a b c 0 m0 m1 m2 m3 m4 n0 n1 n2 n3 n4 p0 p1 p2 p3 p4 hm hn hp)
  go_upto_region 8 with (first
    | (refine wpList_load_mid (by rfl) _ _ (by rfl) NB 0 (by rfl) ([.int .u32 o, .int .u32 a, .int .u32 b, .int .u32 c, .int .i64 m0, .int .i64 m1, .int .i64 m2, .int .i64 m3, .int .u32 m4, .int .i64 n0, .int .i64 n1, .int .i64 n2, .int .i64 n3, .int .u32 n4, .int .i64 p0, .int .i64 p1, .int .i64 p2, .int .i64 p3, .int .u32 p4] : List Value) _ HA.out.2.2.1 Tryz.underlying52 rfl infoNote ?_)
    | (go_at_call 51; (with_reducible refine HT.out.mono ?_); rintro e w7 ⟨⟨v, rfl⟩, hg, hk⟩; have H7 := Lib.hid hg.tail.tail; have K7 := Lib.hid hk; clear hg hk q0 q1 q4))
  go_wp2_with (first | (go_at_call 61; (with_reducible refine (leave_ret H7.out x j hxj hj rj pj sj fj kj wj HFj hRj v1 v2 v3 v4 vs vr HE.out).mono ?_); rintro e w8 ⟨⟨v2, rfl⟩, hg, hk⟩; have H8 := Lib.hid hg; have K8 := Lib.hid hk; clear hg hk))
  go_end0
  exact ⟨⟨_, rfl⟩, H8.out, (GS.keep HA.out.2.1 H.out).trans (K7.out.tail.tail.trans K8.out)⟩
end
end Go.Proofs.YtllcakiomihipaaGreatDoor
namespace Go.Proofs.YtllcakiomihipaaGreatDoor
open Go.ChangeShapes Go.WideShapes Go.ChangeAt Go.RowKit
set_option linter.unusedVariables false
set_option linter.unusedSimpArgs false
section
variable {w0 w w' W : World} {L : BLoc} {X : SLoc} {nd B : Nat} {A : List Nat} {F : Nat → Nat → Value} {l : List Int}
theorem ginv_call (h : GS w0 w L X nd B A F l) (x : Int) (i : Nat) (hx : Hid (x = (i : Int))) (hi : i < nd) (rg : Nat → Int) (pc ft : Int) (kk : Nat → Nat → Int) (wt : Int) (hF : Hid (F i = RW rg pc 3 ft kk wt)) (hR : Hid (∀ q, q < 19 → KRight kk q)) (t1 : 0 ≤ ft) (t2 : ft ≤ 6) (u1 : 0 ≤ wt) (u2 : wt ≤ 536870911) (hxq : V.wfI x) (hl : l.length ≤ 1000) (hB : B ≤ 1000) (vs vr : Value) (hE : ErrsAt vs vr w0) (k0 k1 k2 k3 k4 : Int) (hS : ∀ W, GS w0 W L X nd B [] F (V.offI l x) → Calls Tryz.prog 21 #[.pointer (some ⟨X.s, 0, none⟩), (Value.agg #[.int .i64 k0, .int .i64 k1, .int .i64 k2, .int .i64 k3, .int .u32 k4])] W fun e w' => e = .returned (Value.agg #[.int .i64 k0, .int .i64 k1, .int .i64 k2, .int .i64 k3, .int .u32 k4]) ∧ Below W.heap.size W w') (oo aa : Int) (hAn : ∀ W, GS w0 W L X nd B [] F (V.offI l x) → Calls Tryz.prog 32 #[.pointer (some ⟨X.s, 0, none⟩), (Value.agg #[.int .i64 k0, .int .i64 k1, .int .i64 k2, .int .i64 k3, .int .u32 k4]), (Value.agg #[.int .u32 0, .int .u32 0, .int .u32 0, .int .u32 0, .int .i64 0, .int .i64 0, .int .i64 0, .int .i64 0, .int .u32 0, .int .i64 0, .int .i64 0, .int .i64 0, .int .i64 0, .int .u32 0, .int .i64 0, .int .i64 0, .int .i64 0, .int .i64 0, .int .u32 0])] W fun e w' => e = .returned (.tuple #[(Value.agg #[.int .u32 oo, .int .u32 aa, .int .u32 0, .int .u32 0, .int .i64 0, .int .i64 0, .int .i64 0, .int .i64 0, .int .u32 0, .int .i64 0, .int .i64 0, .int .i64 0, .int .i64 0, .int .u32 0, .int .i64 0, .int .i64 0, .int .i64 0, .int .i64 0, .int .u32 0]), .bool true]) ∧ Below W.heap.size W w') :
    Calls Tryz.prog 12 #[.pointer (some ⟨X.s, 0, none⟩), .int .i64 x, .int .i64 0, (Value.agg #[.int .i64 k0, .int .i64 k1, .int .i64 k2, .int .i64 k3, .int .u32 k4]), (Value.agg #[.int .u32 0, .int .u32 0, .int .u32 0, .int .u32 0, .int .i64 0, .int .i64 0, .int .i64 0, .int .i64 0, .int .u32 0, .int .i64 0, .int .i64 0, .int .i64 0, .int .i64 0, .int .u32 0, .int .i64 0, .int .i64 0, .int .i64 0, .int .i64 0, .int .u32 0])] w fun e w' => e = .returned (.tuple #[(Value.agg ([.int .i64 0, .int .i64 (-1), .int .u32 oo, .int .u32 aa, .int .u32 0, .int .u32 0, .int .i64 0, .int .i64 0, .int .i64 0, .int .i64 0, .int .u32 0, .int .i64 0, .int .i64 0, .int .i64 0, .int .i64 0, .int .u32 0, .int .i64 0, .int .i64 0, .int .i64 0, .int .i64 0, .int .u32 0] : List Value).toArray), .nilIface]) ∧ (∃ B' F' l', (B' = B + 1 ∧ (∃ rg' kk', (∀ q, q < 19 → KRight kk' q) ∧ F' = setF F i (RW rg' pc 3 ft kk' wt)) ∧ l' = V.putAll (V.offI l x) [x]) ∧ GS w0 w' L X nd B' A F' l') ∧ GK A w w' := by
  refine (inv_go h x i hx hi rg pc ft kk wt hF 0 (by decide) (by decide) hxq hl k0 k1 k2 k3 k4 0 0 0 0 0 0 0 0 0 0 0 0 0 0 0 0 0 0 0 0 0 0 0 0 (fun W hW => oseen_void X.s vs vr W (hW.errs hE)) 0 0 0 0 0 (fun W hW => oseen_void X.s vs vr W (hW.errs hE)) 0 0 0 0 0 (fun W hW => oseen_void X.s vs vr W (hW.errs hE)) k0 k1 k2 k3 k4 hS oo aa 0 0 0 0 0 0 0 0 0 0 0 0 0 0 0 0 0 hAn (fun B' F' l' => B' = B + 1 ∧ (∃ rg' kk', (∀ q, q < 19 → KRight kk' q) ∧ F' = setF F i (RW rg' pc 3 ft kk' wt)) ∧ l' = V.putAll (V.offI l x) [x]) (fun A' W hW => ?_))
  refine (take_call hW x i hx hi rg pc ft kk wt hF hR t1 t2 u1 u2 vs vr hE hxq (Nat.le_trans (off_len l x) hl) hB 0 0 0 0 0 0 0 0 0 0 0 0 0 0 0 oo aa 0 0 (by decide) (by decide) (by decide)).mono ?_
  rintro e w9 ⟨h1, ⟨rg', kk', h2, -, h3⟩, h4⟩
  exact ⟨h1, ⟨_, _, _, ⟨rfl, ⟨rg', kk', h2, rfl⟩, rfl⟩, h3⟩, h4⟩
end
end Go.Proofs.YtllcakiomihipaaGreatDoor
namespace Go.Proofs.YtllcakiomihipaaGreatDoor
open Go.ChangeShapes Go.WideShapes Go.ChangeAt Go.RowKit
set_option linter.unusedVariables false
set_option linter.unusedSimpArgs false
section
variable {w0 w w' W : World} {L : BLoc} {X : SLoc} {nd B : Nat} {A : List Nat} {F : Nat → Nat → Value} {l : List Int}
theorem resInfo : (Tryz.prog.info? 54).map (·.size) = some 21 := by kernel_rfl
set_option maxRecDepth 100000 in
set_option maxHeartbeats 400000 in
theorem gs_first (vs vr : Value) (w : World) (hE : ErrsAt vs vr w) : Calls Tryz.prog 7 #[] w fun e w' => e = .returned (.bool true) ∧ Below w.heap.size w w' := by
  have HE := Lib.hid hE
  clear hE
  go_enter Tryz.func7, Tryz.ntmps7
  go_upto_region 5 with (first
    | (go_at_call 9; (with_reducible refine (two_is vs vr _ HE.out).mono ?_); rintro e w1 ⟨L, X, rfl, hg⟩; have H1 := Lib.hid hg; have HI := Lib.hid (ginv_call hg 0 0 (Lib.hid rfl) (by decide) (fun _ => 0) 0 0 (fun _ _ => 0) 0 (Lib.hid rfl) (Lib.hid (fun _ _ => (show rightB 0 0 0 0 0 = true by decide))) (by decide) (by decide) (by decide) (by decide) (by unfold V.wfI; decide) (by decide) (by decide) vs vr HE.out 1 0 0 0 8 (fun W hW => oseen_live 1 0 0 0 8 W (fun V hV => nvalid_ok 1 0 0 0 8 (Lib.hid (by decide)) vs vr V ((hW.errs HE.out).below hV)) (fun V hV => slive_plain X.s 1 0 0 0 8 (by decide) V)) 0 8 (fun W hW => ga_number 8 (by decide) hW vs vr HE.out)); clear hg)
    | (go_at_call 12; (with_reducible refine HI.out.mono ?_); rintro e w2 ⟨rfl, ⟨B', F', l', ⟨rfl, -, rfl⟩, hg⟩, -⟩; have H2 := Lib.hid hg; clear hg)
    | (refine wpList_store_mid (by rfl) _ _ _ (by rfl) w2.heap.size 0 ([.int .i64 0, .int .i64 (-1), .int .u32 0, .int .u32 8, .int .u32 0, .int .u32 0, .int .i64 0, .int .i64 0, .int .i64 0, .int .i64 0, .int .u32 0, .int .i64 0, .int .i64 0, .int .i64 0, .int .i64 0, .int .u32 0, .int .i64 0, .int .i64 0, .int .i64 0, .int .i64 0, .int .u32 0] : List Value).toArray (by rfl) (by rfl) (nthere_new _ _ 21 (by rfl) _) resInfo (by simp [Value.oneCell']) ?_; generalize hg : World.setCells _ w2.heap.size 0 _ = w3))
  obtain ⟨RB, hRB⟩ : ∃ RB, RB = w2.heap.size := ⟨_, rfl⟩
  have H3 : Hid (GS w w3 L X 4 (0 + 1) [] _ _ ∧ w3.rangeAt RB 0 [.int .i64 0, .int .i64 (-1), .int .u32 0, .int .u32 8, .int .u32 0, .int .u32 0, .int .i64 0, .int .i64 0, .int .i64 0, .int .i64 0, .int .u32 0, .int .i64 0, .int .i64 0, .int .i64 0, .int .i64 0, .int .u32 0, .int .i64 0, .int .i64 0, .int .i64 0, .int .i64 0, .int .u32 0]) := Lib.hid (by rw [← hg, hRB]; exact ⟨H2.out.below (nbelow_cells ((Below.refl _ _).alloc (Nat.le_refl _) _) (Nat.le_refl _) _ _), World.rangeAt_setCells_same _ _ 0 [.int .i64 0, .int .i64 (-1), .int .u32 0, .int .u32 8, .int .u32 0, .int .u32 0, .int .i64 0, .int .i64 0, .int .i64 0, .int .i64 0, .int .u32 0, .int .i64 0, .int .i64 0, .int .i64 0, .int .i64 0, .int .u32 0, .int .i64 0, .int .i64 0, .int .i64 0, .int .i64 0, .int .u32 0] (nthere_new _ _ 21 (by rfl) _)⟩)
  rw [← hRB]
  clear hg hRB
  have p0 := CallC.cell H3.out.2 0 _ rfl
  have p3 := CallC.cell H3.out.2 3 _ rfl
  have c5 := H3.out.1.c5
  go_wp2_with (first
    | (go_at_call 17; (with_reducible refine (H3.out.1.has 0 (by unfold V.wfI; decide) true (Lib.hid (by decide))).mono ?_); rintro e w4 ⟨rfl, hb⟩; have HB4 := Lib.hid hb; clear hb))
  go_ret
  exact ⟨rfl, H3.out.1.bel.trans (HB4.out.mono H3.out.1.bel.size)⟩
end
end Go.Proofs.YtllcakiomihipaaGreatDoor
namespace Go.Proofs.YtllcakiomihipaaGreatDoor
open Go.ChangeShapes Go.WideShapes Go.ChangeAt Go.RowKit
set_option linter.unusedVariables false
set_option linter.unusedSimpArgs false
section
variable {w0 wb w w' W : World} {L : BLoc} {X : SLoc} {nd B : Nat} {A : List Nat} {F : Nat → Nat → Value} {l : List Int} {J NB : Nat} {rg : Nat → Int} {pc st ft : Int} {kk : Nat → Nat → Int} {wt : Int} {f f' : Nat → Value}
theorem GB.congr {W : World} {g : Nat → Value} (h : GB w0 wb W L X nd B A F l J f) (hf : ∀ j, j < 107 → f j = g j) : GB w0 wb W L X nd B A F l J g :=
  ⟨h.gs, h.gk, by
    have e : rowL f = rowL g := List.map_congr_left (fun j hj => hf j (List.mem_range.1 hj))
    rw [← e]; exact h.r, h.th, h.xj, h.nj⟩
theorem setF_at (F : Nat → Nat → Value) (i : Nat) (g : Nat → Value) : setF F i g i = g := if_pos rfl
theorem setF_ne (F : Nat → Nat → Value) (i a : Nat) (g : Nat → Value) (h : a ≠ i) : setF F i g a = F a := if_neg h
theorem GS.resume (h : GS w0 w L X nd B A F l) (x : Int) (i : Nat) (hx : Hid (x = (i : Int))) (hi : i < nd) (wt : Int) (hF : F i 9 = .int .i64 2 ∧ F i 106 = .int .i64 wt) (u1 : 0 ≤ wt) (u2 : wt ≤ 536870911) : Calls Tryz.prog 74 #[.pointer (some ⟨L.dP, 0, none⟩), .int .i64 x] w fun e w' => e = .returned (Value.agg #[.int .i64 6, .int .i64 x, .int .i64 0, .int .i64 0, .int .u32 wt]) ∧ Below w.heap.size w w' := by
  obtain ⟨D, h1, h2⟩ := h.sj
  have hn := h.nn
  exact dresume_yes x i hx (by omega) (Lib.hid (by rw [h2.dt]; exact decide_eq_true hi)) wt (Lib.hid (by rw [h2.row i hi 9 (by decide), h2.row i hi 106 (by decide)]; exact hF)) u1 u2 0 (Lib.hid (by rw [h2.dv])) w h1.k.d
set_option maxRecDepth 100000 in
set_option maxHeartbeats 400000 in
theorem wait1_is (h : GB w0 wb w L X nd B A F l J (RW rg pc st ft kk wt)) (u1 : 0 ≤ wt) (u3 : wt ≤ 1000) :
    Calls Tryz.prog 73 #[.pointer (some ⟨J, 0, none⟩)] w fun e w' => (∃ v, e = .returned v) ∧ GB w0 wb w' L X nd B A F l J (RW rg pc 2 ft kk (wt + 1)) := by
  have H := Lib.hid h
  clear h
  have j9 := H.out.cell 9 (by decide)
  have z9 := H.out.free 9 (by decide)
  have hw : IntKind.i64.wrap (wt + 1) = wt + 1 := by rw [IntKind.wrap_i64]; omega
  have hd : decide (536870911 < wt + 1) = false := decide_eq_false (by omega)
  go_enter Tryz.func73, Tryz.ntmps73
  go_upto_region 1 with fail
  generalize hg : World.setCell w _ _ = w2
  have H2 : Hid (GB w0 wb w2 L X nd B A F l J (RW rg pc 2 ft kk wt)) := Lib.hid (by rw [← hg, ← RW_st rg pc st ft kk wt 2]; exact H.out.set 9 _)
  clear hg j9 z9
  have j106 := H2.out.cell 106 (by decide)
  rw [RW_106] at j106
  have z106 := H2.out.free 106 (by decide)
  go_upto_region 2 with fail
  generalize hg : World.setCell w2 _ _ = w3
  have H3 : Hid (GB w0 wb w3 L X nd B A F l J (RW rg pc 2 ft kk (wt + 1))) := Lib.hid (by rw [← hg]; exact (H2.out.set 106 _).congr (RW_wt rg pc 2 ft kk wt _ (fun _ _ => trivial)))
  clear hg j106 z106
  have j106 := H3.out.cell 106 (by decide)
  rw [RW_106] at j106
  go_wp2_with fail
  go_end0
  exact ⟨⟨_, rfl⟩, H3.out⟩
set_option maxRecDepth 100000 in
set_option maxHeartbeats 400000 in
theorem change_wait (h : GS w0 w L X nd B A F l) (x : Int) (i : Nat) (hx : Hid (x = (i : Int))) (hi : i < nd) (rg : Nat → Int) (pc st ft : Int) (kk : Nat → Nat → Int) (wt : Int) (hF : Hid (F i = RW rg pc st ft kk wt)) (hR : Hid (∀ q, q < 19 → KRight kk q)) (t1 : 0 ≤ ft) (t2 : ft ≤ 6) (u1 : 0 ≤ wt) (u3 : wt ≤ 1000) (vs vr : Value) (hE : ErrsAt vs vr w0) :
    Calls Tryz.prog 47 #[.pointer (some ⟨X.s, 0, none⟩), .int .i64 x, .func (.func 73) #[] #[]] w fun e w' => (∃ v, e = .returned v) ∧ GS w0 w' L X nd B A (setF F i (RW rg pc 2 ft kk (wt + 1))) l ∧ GK A w w' := by
  have H := Lib.hid h
  have HOne : Hid (∀ j, j < 107 → (RW rg pc st ft kk wt j).oneCell' = true) := Lib.hid (fun j _ => RW_one _ _ _ _ _ _ j)
  have HOneF : Hid (∀ j, j < 107 → (F i j).oneCell' = true) := Lib.hid (by rw [hF.out]; exact HOne.out)
  have HE := Lib.hid hE
  have c1 := h.c1
  clear h hE
  go_enter Tryz.func47, Tryz.ntmps47
  go_upto_region 2 with (first
    | (go_at_call 10; (with_reducible refine ((H.out).get x i hx hi HOneF).mono ?_); rintro e w1 ⟨rfl, hb⟩; have HB1 := Lib.hid hb; clear hb)
    | (refine wpList_store_mid (by rfl) _ _ _ (by rfl) w1.heap.size 0 (rowL (F i)).toArray (by rfl) (by rfl) (by rw [rowL_size]; exact nthere_new _ _ 107 zsize _) (by rw [rowL_size]; exact infoDomS) (rowL_one (F i) HOneF.out) ?_))
  generalize hg : World.setCells _ w1.heap.size 0 _ = w2
  obtain ⟨J, hJ⟩ : ∃ J, J = w1.heap.size := ⟨_, rfl⟩
  have H2 : Hid (GB w0 w w2 L X nd B A F l J (RW rg pc st ft kk wt)) := Lib.hid (by rw [← hg, hJ, ← hF.out]; exact GB.made H.out HB1.out (F i) _ zsize _)
  rw [← hJ]
  clear hg hJ c1
  go_upto_region 3 with (first | (go_at_call 73; (with_reducible refine (wait1_is H2.out u1 u3).mono ?_); rintro e w3 ⟨⟨v, rfl⟩, hg⟩; have H3 := Lib.hid hg; clear hg))
  have HSC : Hid (∀ W, Below w3.heap.size w3 W → (World.cell? W ⟨X.s, 1, none⟩ = some (.pointer (some ⟨L.dP, 0, none⟩)) ∧ World.rangeAt W J 0 (rowL (RW rg pc 2 ft kk (wt + 1))))) := (Lib.hid (fun W hW => ⟨((H3.out).below hW).gs.c1, ((H3.out).below hW).r⟩)); obtain ⟨wD, hwD⟩ : ∃ wD, wD = w3.drew := ⟨_, rfl⟩; have HBd : Hid (Below w3.heap.size w3 wD) := (Lib.hid (by rw [hwD]; exact (Below.refl _ _).drew)); refine wp_region_noPanic ?_; refine wp_region_held_drew (S := fun W => (World.cell? W ⟨X.s, 1, none⟩ = some (.pointer (some ⟨L.dP, 0, none⟩)) ∧ World.rangeAt W J 0 (rowL (RW rg pc 2 ft kk (wt + 1))))) (by kernel_rfl) (by rw [← hwD]; exact HSC.out _ HBd.out) (fun hHeld => ?_); rw [← hwD] at hHeld ⊢; clear hwD; refine wpAnyH_take (i := 0) (v := ?_) (by rfl) (by kernel_rfl) (by kernel_rfl) (by kernel_rfl) (fun _ _ _ h => h) (Or.inl ⟨by kernel_rfl, ?_⟩) (by assumption) ?_; rotate_left 1; (focus (intro w hSw; (try dsimp only at hSw); simp only [List.getElem_toArray, List.getElem_cons_succ, List.getElem_cons_zero]; all_goals go_simp; all_goals (try with_reducible rfl))); (try simp only [Act.put, List.getElem_toArray, List.getElem_cons_succ, List.getElem_cons_zero, List.setIfInBounds_toArray, List.set_cons_zero, List.set_cons_succ]); refine wpAnyH_take (i := 1) (v := ?_) (by rfl) (by kernel_rfl) (by kernel_rfl) (by kernel_rfl) (fun _ _ _ h => h) (Or.inl ⟨by kernel_rfl, ?_⟩) (by assumption) ?_; rotate_left 1; (focus (intro w hSw; (try dsimp only at hSw); simp only [List.getElem_toArray, List.getElem_cons_succ, List.getElem_cons_zero]; all_goals go_simp; all_goals (try with_reducible rfl))); (try simp only [Act.put, List.getElem_toArray, List.getElem_cons_succ, List.getElem_cons_zero, List.setIfInBounds_toArray, List.set_cons_zero, List.set_cons_succ]); refine wpAnyH_take (i := 2) (v := ?_) (by rfl) (by kernel_rfl) (by kernel_rfl) (by kernel_rfl) (fun _ _ _ h => h) (Or.inl ⟨by kernel_rfl, ?_⟩) (by assumption) ?_; rotate_left 1; (focus (intro w hSw; (try dsimp only at hSw); simp only [List.getElem_toArray, List.getElem_cons_succ, List.getElem_cons_zero]; all_goals go_simp; all_goals (try with_reducible rfl))); (try simp only [Act.put, List.getElem_toArray, List.getElem_cons_succ, List.getElem_cons_zero, List.setIfInBounds_toArray, List.set_cons_zero, List.set_cons_succ]); refine wpAnyH_take (i := 3) (v := ?_) (by rfl) (by kernel_rfl) (by kernel_rfl) (by kernel_rfl) (fun _ _ _ h => h) (Or.inl ⟨by kernel_rfl, ?_⟩) (by assumption) ?_; rotate_left 1; (focus (intro w hSw; (try dsimp only at hSw); simp only [List.getElem_toArray, List.getElem_cons_succ, List.getElem_cons_zero]; all_goals go_simp; all_goals (try with_reducible rfl))); (try simp only [Act.put, List.getElem_toArray, List.getElem_cons_succ, List.getElem_cons_zero, List.setIfInBounds_toArray, List.set_cons_zero, List.set_cons_succ]); refine wpAnyH_take (i := 4) (v := ?_) (by rfl) (by kernel_rfl) (by kernel_rfl) (by kernel_rfl) (fun _ _ _ h => h) (Or.inl ⟨by kernel_rfl, ?_⟩) (by assumption) ?_; rotate_left 1; (focus (intro w hSw; (try dsimp only at hSw); simp only [List.getElem_toArray, List.getElem_cons_succ, List.getElem_cons_zero]; all_goals go_simp; all_goals (try with_reducible rfl))); (try simp only [Act.put, List.getElem_toArray, List.getElem_cons_succ, List.getElem_cons_zero, List.setIfInBounds_toArray, List.set_cons_zero, List.set_cons_succ]); refine wpAnyH_take (i := 5) (v := .agg (rowL (RW rg pc 2 ft kk (wt + 1))).toArray) (by rfl) (by kernel_rfl) (by kernel_rfl) (by kernel_rfl) (fun _ _ _ h => h) (yieldsIf_load_mid (by kernel_rfl) 34 (.tmp 6) (by rfl) J 0 (by rfl) (rowL (RW rg pc 2 ft kk (wt + 1))) _ (fun w h => h.2) Tryz.underlying34 rfl (by rw [rowL_len]; exact infoDomS)) (by assumption) ?_; (try simp only [Act.put, List.getElem_toArray, List.getElem_cons_succ, List.getElem_cons_zero, List.setIfInBounds_toArray, List.set_cons_zero, List.set_cons_succ]); refine wpAnyH_ready (rs := [6]) (by kernel_rfl) (by simp) ?_; refine AllReadyH.cons (by rfl) (fun K hK => ?_) AllReadyH.nil; rw [if_pos (by kernel_rfl)]; simp only [List.getElem_toArray, List.getElem_cons_succ, List.getElem_cons_zero]; go_wp2_with (first | (go_at_call 11; (with_reducible refine (((H3.out.gs.below HBd.out).put x i hx hi rg pc 2 ft kk (wt + 1) hR (by decide) (by decide) t1 t2 (by omega) (by omega) vs vr HE.out)).mono ?_); rintro e w4 ⟨rfl, hgs, hgk⟩; have H4 := Lib.hid hgs; have K4 := Lib.hid hgk; clear hgs hgk)); refine hK.out _ _ ⟨H4.out.c1, range_same ((H3.out).below HBd.out).r (K4.out.eq J (by simp))⟩ (fun hHeld => ?_); clear hK K; (try simp only [Act.put, List.getElem_toArray, List.getElem_cons_succ, List.getElem_cons_zero, List.setIfInBounds_toArray, List.set_cons_zero, List.set_cons_succ]); refine wpAnyH_done (by kernel_rfl) ?_ _; refine NoPanic.normal ?_
  go_wp2_with fail
  go_end0
  exact ⟨⟨_, rfl⟩, H4.out.tail, H3.out.gk.trans ((GS.keep HBd.out H3.out.gs).tail.trans K4.out.tail)⟩
set_option maxRecDepth 100000 in
set_option maxHeartbeats 400000 in
theorem wait_is (h : GS w0 w L X nd B A F l) (x : Int) (i : Nat) (hx : Hid (x = (i : Int))) (hi : i < nd) (rg : Nat → Int) (pc st ft : Int) (kk : Nat → Nat → Int) (wt : Int) (hF : Hid (F i = RW rg pc st ft kk wt)) (hR : Hid (∀ q, q < 19 → KRight kk q)) (t1 : 0 ≤ ft) (t2 : ft ≤ 6) (u1 : 0 ≤ wt) (u3 : wt ≤ 1000) (vs vr : Value) (hE : ErrsAt vs vr w0) :
    Calls Tryz.prog 49 #[.pointer (some ⟨X.s, 0, none⟩), .int .i64 x] w fun e w' => e = .returned (Value.agg #[.int .i64 6, .int .i64 x, .int .i64 0, .int .i64 0, .int .u32 (wt + 1)]) ∧ GS w0 w' L X nd B A (setF F i (RW rg pc 2 ft kk (wt + 1))) l ∧ GK A w w' := by
  have H := Lib.hid h
  have HE := Lib.hid hE
  have HU := Lib.hid (And.intro u1 u3)
  clear h hE u1 u3
  go_enter Tryz.func49, Tryz.ntmps49
  go_upto_region 1 with fail
  generalize hgA : World.alloc w _ = wA
  obtain ⟨RB, hRB⟩ : ∃ RB, RB = w.heap.size := ⟨_, rfl⟩
  have HA : Hid (GS w0 wA L X nd B (RB :: A) F l ∧ Below w.heap.size w wA ∧ World.there wA RB 0 5 ∧ X.s < RB ∧ RB ∉ A) := Lib.hid (by
    rw [← hgA, hRB]
    exact ⟨H.out.more ((Below.refl _ _).alloc (Nat.le_refl _) _) _ (Nat.le_refl _) (by simp), (Below.refl _ _).alloc (Nat.le_refl _) _, nthere_new _ _ 5 (by rfl) _, H.out.xs.1, fun hm => by have := (H.out.a _ hm).1; omega⟩)
  rw [← hRB]
  clear hgA hRB
  go_wp2_with (first
    | (go_at_call 47; (with_reducible refine (change_wait HA.out.1 x i hx hi rg pc st ft kk wt hF hR t1 t2 HU.out.1 HU.out.2 vs vr HE.out).mono ?_); rintro e w1 ⟨⟨v, rfl⟩, hg, hk⟩; have H1 := Lib.hid hg; have K1 := Lib.hid hk; have T1 := Lib.hid (nthere_same HA.out.2.2.1 (hk.eq RB (by simp))); clear hg hk; have c1 := H1.out.c1; have HRS := Lib.hid (H1.out.resume x i hx hi (wt + 1) (by rw [setF_at]; exact ⟨rfl, rfl⟩) (by have := HU.out.1; omega) (by have := HU.out.2; omega)))
    | (go_at_call 74; (with_reducible refine HRS.out.mono ?_); rintro e w2 ⟨rfl, hb⟩; have HB2 := Lib.hid hb; have T2 := Lib.hid (nthere_below T1.out hb (H1.out.a RB (by simp)).1); clear hb)
    | (refine wpList_store_mid (by rfl) _ _ _ (by rfl) RB 0 #[.int .i64 6, .int .i64 x, .int .i64 0, .int .i64 0, .int .u32 (wt + 1)] (by rfl) (by rfl) T2.out keyInfo5 (by simp [Value.oneCell']) ?_))
  generalize hg : World.setCells w2 RB 0 _ = w3
  have H3 := Lib.hid (show GS w0 w3 L X nd B (RB :: A) (setF F i (RW rg pc 2 ft kk (wt + 1))) l ∧ w3.rangeAt RB 0 [.int .i64 6, .int .i64 x, .int .i64 0, .int .i64 0, .int .u32 (wt + 1)] ∧ GK A w w3 by
    rw [← hg]
    exact ⟨(H1.out.below HB2.out).cells RB (by simp) HA.out.2.2.2.1 0 _, World.rangeAt_setCells_same _ _ 0 [.int .i64 6, .int .i64 x, .int .i64 0, .int .i64 0, .int .u32 (wt + 1)] T2.out, (GS.keep HA.out.2.1 H.out).trans (K1.out.tail.trans ((GS.keep HB2.out H1.out).tail.trans (GK.cells HA.out.2.2.2.2 _ _ _)))⟩)
  clear hg
  have hld := run_loadVar_mid (P := Tryz.prog) w3 RB 0 31 [.int .i64 6, .int .i64 x, .int .i64 0, .int .i64 0, .int .u32 (wt + 1)] _ H3.out.2.1 Tryz.underlying31 rfl keyInfo5
  exact bodyPost_ret (v := (Value.agg #[.int .i64 6, .int .i64 x, .int .i64 0, .int .i64 0, .int .u32 (wt + 1)])) (by simp [results, Tryz.results49, Act.put, asAddr, hld]) rfl ⟨rfl, H3.out.1.tail, H3.out.2.2⟩
end
end Go.Proofs.YtllcakiomihipaaGreatDoor
namespace Go.Proofs.YtllcakiomihipaaGreatDoor
open Go.ChangeShapes Go.WideShapes Go.ChangeAt Go.RowKit
set_option linter.unusedVariables false
set_option linter.unusedSimpArgs false
section
variable {w0 wb w w' W : World} {L : BLoc} {X : SLoc} {nd B : Nat} {A : List Nat} {F : Nat → Nat → Value} {l : List Int} {J NB : Nat} {rg : Nat → Int} {pc st ft : Int} {kk : Nat → Nat → Int} {wt : Int} {f f' : Nat → Value}
set_option maxRecDepth 100000 in
set_option maxHeartbeats 400000 in
theorem up1_kept (h : GB w0 wb w L X nd B A F l J (RW rg pc st ft kk wt)) (p q : Nat) (hB : p ∈ A ∧ q ∈ A) (y : Int) (cp : wb.cell? ⟨p, 0, none⟩ = some (.int .i64 y)) (cq : wb.cell? ⟨q, 0, none⟩ = some (.bool true)) :
    Calls Tryz.prog 48 #[.pointer (some ⟨J, 0, none⟩), .pointer (some ⟨p, 0, none⟩), .pointer (some ⟨q, 0, none⟩)] w fun e w' => (∃ v, e = .returned v) ∧ GB w0 wb w' L X nd B A F l J (RW rg pc st y kk wt) := by
  have H := Lib.hid h
  have c1 := (World.cell?_of_block (a := ⟨p, 0, none⟩) (h.gk.eq p hB.1)).trans cp
  have z10 := h.free 10 (by decide)
  have j10 := h.cell 10 (by decide)
  have hq0 : q ≠ J := fun e => h.nj (by rw [← e]; exact hB.2)
  have c2 : (w.setCell ⟨J, 10, none⟩ (.int .i64 y)).cell? ⟨q, 0, none⟩ = some (.bool true) := (World.cell?_of_block (a := ⟨q, 0, none⟩) (heapSet q J hq0 [_] w 10)).trans ((World.cell?_of_block (a := ⟨q, 0, none⟩) (h.gk.eq q hB.2)).trans cq)
  clear h cp cq
  go_enter Tryz.func48, Tryz.ntmps48
  go_upto_region 1 with fail
  generalize hg : World.setCell w _ _ = w2 at c2 ⊢
  have H2 : Hid (GB w0 wb w2 L X nd B A F l J (RW rg pc st y kk wt)) := Lib.hid (by rw [← hg, ← RW_ft rg pc st ft kk wt y]; exact H.out.set 10 _)
  clear hg c1 z10 j10
  go_wp2_with fail
  go_end0
  exact ⟨⟨_, rfl⟩, H2.out⟩
set_option maxRecDepth 100000 in
set_option maxHeartbeats 400000 in
theorem change_up_kept (h : GS w0 w L X nd B A F l) (x : Int) (i : Nat) (hx : Hid (x = (i : Int))) (hi : i < nd) (rg : Nat → Int) (pc st ft : Int) (kk : Nat → Nat → Int) (wt : Int) (hF : Hid (F i = RW rg pc st ft kk wt)) (hR : Hid (∀ q, q < 19 → KRight kk q)) (t1 : 0 ≤ ft) (t2 : ft ≤ 6) (u1 : 0 ≤ wt) (u2 : wt ≤ 536870911) (vs vr : Value) (hE : ErrsAt vs vr w0) (p q : Nat) (hB : p ∈ A ∧ q ∈ A) (y : Int) (y0 : 0 ≤ y) (y6 : y ≤ 6) (s1 : 1 ≤ st) (s2 : st ≤ 4) (cp : w.cell? ⟨p, 0, none⟩ = some (.int .i64 y)) (cq : w.cell? ⟨q, 0, none⟩ = some (.bool true)) :
    Calls Tryz.prog 47 #[.pointer (some ⟨X.s, 0, none⟩), .int .i64 x, .func (.func 48) #[] #[.pointer (some ⟨p, 0, none⟩), .pointer (some ⟨q, 0, none⟩)]] w fun e w' => (∃ v, e = .returned v) ∧ GS w0 w' L X nd B A (setF F i (RW rg pc st y kk wt)) l ∧ GK A w w' := by
  have H := Lib.hid h
  have HOne : Hid (∀ j, j < 107 → (RW rg pc st ft kk wt j).oneCell' = true) := Lib.hid (fun j _ => RW_one _ _ _ _ _ _ j)
  have HOneF : Hid (∀ j, j < 107 → (F i j).oneCell' = true) := Lib.hid (by rw [hF.out]; exact HOne.out)
  have HE := Lib.hid hE
  have c1 := h.c1
  have HP := Lib.hid (And.intro hB (And.intro cp cq))
  clear h hE hB cp cq
  go_enter Tryz.func47, Tryz.ntmps47
  go_upto_region 2 with (first
    | (go_at_call 10; (with_reducible refine ((H.out).get x i hx hi HOneF).mono ?_); rintro e w1 ⟨rfl, hb⟩; have HB1 := Lib.hid hb; clear hb)
    | (refine wpList_store_mid (by rfl) _ _ _ (by rfl) w1.heap.size 0 (rowL (F i)).toArray (by rfl) (by rfl) (by rw [rowL_size]; exact nthere_new _ _ 107 zsize _) (by rw [rowL_size]; exact infoDomS) (rowL_one (F i) HOneF.out) ?_))
  generalize hg : World.setCells _ w1.heap.size 0 _ = w2
  obtain ⟨J, hJ⟩ : ∃ J, J = w1.heap.size := ⟨_, rfl⟩
  have H2 : Hid (GB w0 w w2 L X nd B A F l J (RW rg pc st ft kk wt) ∧ Below w.heap.size w w2) := Lib.hid (by rw [← hg, hJ, ← hF.out]; exact ⟨GB.made H.out HB1.out (F i) _ zsize _, nbelow_cells (HB1.out.alloc HB1.out.size _) HB1.out.size _ _⟩)
  rw [← hJ]
  clear hg hJ c1
  have HS := Lib.hid (up1_kept H2.out.1 p q HP.out.1 y HP.out.2.1 HP.out.2.2)
  go_upto_region 3 with (first | (go_at_call 48; (with_reducible refine HS.out.mono ?_); rintro e w3 ⟨⟨v, rfl⟩, hg⟩; have H3 := Lib.hid hg; clear hg))
  have HSC : Hid (∀ W, Below w3.heap.size w3 W → (World.cell? W ⟨X.s, 1, none⟩ = some (.pointer (some ⟨L.dP, 0, none⟩)) ∧ World.rangeAt W J 0 (rowL (RW rg pc st y kk wt)))) := (Lib.hid (fun W hW => ⟨((H3.out).below hW).gs.c1, ((H3.out).below hW).r⟩)); obtain ⟨wD, hwD⟩ : ∃ wD, wD = w3.drew := ⟨_, rfl⟩; have HBd : Hid (Below w3.heap.size w3 wD) := (Lib.hid (by rw [hwD]; exact (Below.refl _ _).drew)); refine wp_region_noPanic ?_; refine wp_region_held_drew (S := fun W => (World.cell? W ⟨X.s, 1, none⟩ = some (.pointer (some ⟨L.dP, 0, none⟩)) ∧ World.rangeAt W J 0 (rowL (RW rg pc st y kk wt)))) (by kernel_rfl) (by rw [← hwD]; exact HSC.out _ HBd.out) (fun hHeld => ?_); rw [← hwD] at hHeld ⊢; clear hwD; refine wpAnyH_take (i := 0) (v := ?_) (by rfl) (by kernel_rfl) (by kernel_rfl) (by kernel_rfl) (fun _ _ _ h => h) (Or.inl ⟨by kernel_rfl, ?_⟩) (by assumption) ?_; rotate_left 1; (focus (intro w hSw; (try dsimp only at hSw); simp only [List.getElem_toArray, List.getElem_cons_succ, List.getElem_cons_zero]; all_goals go_simp; all_goals (try with_reducible rfl))); (try simp only [Act.put, List.getElem_toArray, List.getElem_cons_succ, List.getElem_cons_zero, List.setIfInBounds_toArray, List.set_cons_zero, List.set_cons_succ]); refine wpAnyH_take (i := 1) (v := ?_) (by rfl) (by kernel_rfl) (by kernel_rfl) (by kernel_rfl) (fun _ _ _ h => h) (Or.inl ⟨by kernel_rfl, ?_⟩) (by assumption) ?_; rotate_left 1; (focus (intro w hSw; (try dsimp only at hSw); simp only [List.getElem_toArray, List.getElem_cons_succ, List.getElem_cons_zero]; all_goals go_simp; all_goals (try with_reducible rfl))); (try simp only [Act.put, List.getElem_toArray, List.getElem_cons_succ, List.getElem_cons_zero, List.setIfInBounds_toArray, List.set_cons_zero, List.set_cons_succ]); refine wpAnyH_take (i := 2) (v := ?_) (by rfl) (by kernel_rfl) (by kernel_rfl) (by kernel_rfl) (fun _ _ _ h => h) (Or.inl ⟨by kernel_rfl, ?_⟩) (by assumption) ?_; rotate_left 1; (focus (intro w hSw; (try dsimp only at hSw); simp only [List.getElem_toArray, List.getElem_cons_succ, List.getElem_cons_zero]; all_goals go_simp; all_goals (try with_reducible rfl))); (try simp only [Act.put, List.getElem_toArray, List.getElem_cons_succ, List.getElem_cons_zero, List.setIfInBounds_toArray, List.set_cons_zero, List.set_cons_succ]); refine wpAnyH_take (i := 3) (v := ?_) (by rfl) (by kernel_rfl) (by kernel_rfl) (by kernel_rfl) (fun _ _ _ h => h) (Or.inl ⟨by kernel_rfl, ?_⟩) (by assumption) ?_; rotate_left 1; (focus (intro w hSw; (try dsimp only at hSw); simp only [List.getElem_toArray, List.getElem_cons_succ, List.getElem_cons_zero]; all_goals go_simp; all_goals (try with_reducible rfl))); (try simp only [Act.put, List.getElem_toArray, List.getElem_cons_succ, List.getElem_cons_zero, List.setIfInBounds_toArray, List.set_cons_zero, List.set_cons_succ]); refine wpAnyH_take (i := 4) (v := ?_) (by rfl) (by kernel_rfl) (by kernel_rfl) (by kernel_rfl) (fun _ _ _ h => h) (Or.inl ⟨by kernel_rfl, ?_⟩) (by assumption) ?_; rotate_left 1; (focus (intro w hSw; (try dsimp only at hSw); simp only [List.getElem_toArray, List.getElem_cons_succ, List.getElem_cons_zero]; all_goals go_simp; all_goals (try with_reducible rfl))); (try simp only [Act.put, List.getElem_toArray, List.getElem_cons_succ, List.getElem_cons_zero, List.setIfInBounds_toArray, List.set_cons_zero, List.set_cons_succ]); refine wpAnyH_take (i := 5) (v := .agg (rowL (RW rg pc st y kk wt)).toArray) (by rfl) (by kernel_rfl) (by kernel_rfl) (by kernel_rfl) (fun _ _ _ h => h) (yieldsIf_load_mid (by kernel_rfl) 34 (.tmp 6) (by rfl) J 0 (by rfl) (rowL (RW rg pc st y kk wt)) _ (fun w h => h.2) Tryz.underlying34 rfl (by rw [rowL_len]; exact infoDomS)) (by assumption) ?_; (try simp only [Act.put, List.getElem_toArray, List.getElem_cons_succ, List.getElem_cons_zero, List.setIfInBounds_toArray, List.set_cons_zero, List.set_cons_succ]); refine wpAnyH_ready (rs := [6]) (by kernel_rfl) (by simp) ?_; refine AllReadyH.cons (by rfl) (fun K hK => ?_) AllReadyH.nil; rw [if_pos (by kernel_rfl)]; simp only [List.getElem_toArray, List.getElem_cons_succ, List.getElem_cons_zero]; go_wp2_with (first | (go_at_call 11; (with_reducible refine (((H3.out.gs.below HBd.out).put x i hx hi rg pc st y kk wt hR s1 s2 y0 y6 u1 u2 vs vr HE.out)).mono ?_); rintro e w4 ⟨rfl, hgs, hgk⟩; have H4 := Lib.hid hgs; have K4 := Lib.hid hgk; clear hgs hgk)); refine hK.out _ _ ⟨H4.out.c1, range_same ((H3.out).below HBd.out).r (K4.out.eq J (by simp))⟩ (fun hHeld => ?_); clear hK K; (try simp only [Act.put, List.getElem_toArray, List.getElem_cons_succ, List.getElem_cons_zero, List.setIfInBounds_toArray, List.set_cons_zero, List.set_cons_succ]); refine wpAnyH_done (by kernel_rfl) ?_ _; refine NoPanic.normal ?_
  go_wp2_with fail
  go_end0
  exact ⟨⟨_, rfl⟩, H4.out.tail, H3.out.gk.trans ((GS.keep HBd.out H3.out.gs).tail.trans K4.out.tail)⟩
set_option maxRecDepth 100000 in
set_option maxHeartbeats 400000 in
theorem up1_lost (h : GB w0 wb w L X nd B A F l J (RW rg pc st ft kk wt)) (p q : Nat) (hB : p ∈ A ∧ q ∈ A) (y : Int) (cp : wb.cell? ⟨p, 0, none⟩ = some (.int .i64 y)) (cq : wb.cell? ⟨q, 0, none⟩ = some (.bool false)) :
    Calls Tryz.prog 48 #[.pointer (some ⟨J, 0, none⟩), .pointer (some ⟨p, 0, none⟩), .pointer (some ⟨q, 0, none⟩)] w fun e w' => (∃ v, e = .returned v) ∧ GB w0 wb w' L X nd B A F l J (RW rg pc 4 y kk wt) := by
  have H := Lib.hid h
  have c1 := (World.cell?_of_block (a := ⟨p, 0, none⟩) (h.gk.eq p hB.1)).trans cp
  have z10 := h.free 10 (by decide)
  have j10 := h.cell 10 (by decide)
  have hq0 : q ≠ J := fun e => h.nj (by rw [← e]; exact hB.2)
  have c2 : (w.setCell ⟨J, 10, none⟩ (.int .i64 y)).cell? ⟨q, 0, none⟩ = some (.bool false) := (World.cell?_of_block (a := ⟨q, 0, none⟩) (heapSet q J hq0 [_] w 10)).trans ((World.cell?_of_block (a := ⟨q, 0, none⟩) (h.gk.eq q hB.2)).trans cq)
  clear h cp cq
  go_enter Tryz.func48, Tryz.ntmps48
  go_upto_region 1 with fail
  generalize hg : World.setCell w _ _ = w2 at c2 ⊢
  have H2 : Hid (GB w0 wb w2 L X nd B A F l J (RW rg pc st y kk wt)) := Lib.hid (by rw [← hg, ← RW_ft rg pc st ft kk wt y]; exact H.out.set 10 _)
  clear hg c1 z10 j10
  have j9 := H2.out.cell 9 (by decide)
  have z9 := H2.out.free 9 (by decide)
  go_wp2_with fail
  go_end0
  exact ⟨⟨_, rfl⟩, by rw [← RW_st rg pc st y kk wt 4]; exact H2.out.set 9 _⟩
set_option maxRecDepth 100000 in
set_option maxHeartbeats 400000 in
theorem change_up_lost (h : GS w0 w L X nd B A F l) (x : Int) (i : Nat) (hx : Hid (x = (i : Int))) (hi : i < nd) (rg : Nat → Int) (pc st ft : Int) (kk : Nat → Nat → Int) (wt : Int) (hF : Hid (F i = RW rg pc st ft kk wt)) (hR : Hid (∀ q, q < 19 → KRight kk q)) (t1 : 0 ≤ ft) (t2 : ft ≤ 6) (u1 : 0 ≤ wt) (u2 : wt ≤ 536870911) (vs vr : Value) (hE : ErrsAt vs vr w0) (p q : Nat) (hB : p ∈ A ∧ q ∈ A) (y : Int) (y0 : 0 ≤ y) (y6 : y ≤ 6) (s1 : 1 ≤ st) (s2 : st ≤ 4) (cp : w.cell? ⟨p, 0, none⟩ = some (.int .i64 y)) (cq : w.cell? ⟨q, 0, none⟩ = some (.bool false)) :
    Calls Tryz.prog 47 #[.pointer (some ⟨X.s, 0, none⟩), .int .i64 x, .func (.func 48) #[] #[.pointer (some ⟨p, 0, none⟩), .pointer (some ⟨q, 0, none⟩)]] w fun e w' => (∃ v, e = .returned v) ∧ GS w0 w' L X nd B A (setF F i (RW rg pc 4 y kk wt)) l ∧ GK A w w' := by
  have H := Lib.hid h
  have HOne : Hid (∀ j, j < 107 → (RW rg pc st ft kk wt j).oneCell' = true) := Lib.hid (fun j _ => RW_one _ _ _ _ _ _ j)
  have HOneF : Hid (∀ j, j < 107 → (F i j).oneCell' = true) := Lib.hid (by rw [hF.out]; exact HOne.out)
  have HE := Lib.hid hE
  have c1 := h.c1
  have HP := Lib.hid (And.intro hB (And.intro cp cq))
  clear h hE hB cp cq
  go_enter Tryz.func47, Tryz.ntmps47
  go_upto_region 2 with (first
    | (go_at_call 10; (with_reducible refine ((H.out).get x i hx hi HOneF).mono ?_); rintro e w1 ⟨rfl, hb⟩; have HB1 := Lib.hid hb; clear hb)
    | (refine wpList_store_mid (by rfl) _ _ _ (by rfl) w1.heap.size 0 (rowL (F i)).toArray (by rfl) (by rfl) (by rw [rowL_size]; exact nthere_new _ _ 107 zsize _) (by rw [rowL_size]; exact infoDomS) (rowL_one (F i) HOneF.out) ?_))
  generalize hg : World.setCells _ w1.heap.size 0 _ = w2
  obtain ⟨J, hJ⟩ : ∃ J, J = w1.heap.size := ⟨_, rfl⟩
  have H2 : Hid (GB w0 w w2 L X nd B A F l J (RW rg pc st ft kk wt) ∧ Below w.heap.size w w2) := Lib.hid (by rw [← hg, hJ, ← hF.out]; exact ⟨GB.made H.out HB1.out (F i) _ zsize _, nbelow_cells (HB1.out.alloc HB1.out.size _) HB1.out.size _ _⟩)
  rw [← hJ]
  clear hg hJ c1
  have HS := Lib.hid (up1_lost H2.out.1 p q HP.out.1 y HP.out.2.1 HP.out.2.2)
  go_upto_region 3 with (first | (go_at_call 48; (with_reducible refine HS.out.mono ?_); rintro e w3 ⟨⟨v, rfl⟩, hg⟩; have H3 := Lib.hid hg; clear hg))
  have HSC : Hid (∀ W, Below w3.heap.size w3 W → (World.cell? W ⟨X.s, 1, none⟩ = some (.pointer (some ⟨L.dP, 0, none⟩)) ∧ World.rangeAt W J 0 (rowL (RW rg pc 4 y kk wt)))) := (Lib.hid (fun W hW => ⟨((H3.out).below hW).gs.c1, ((H3.out).below hW).r⟩)); obtain ⟨wD, hwD⟩ : ∃ wD, wD = w3.drew := ⟨_, rfl⟩; have HBd : Hid (Below w3.heap.size w3 wD) := (Lib.hid (by rw [hwD]; exact (Below.refl _ _).drew)); refine wp_region_noPanic ?_; refine wp_region_held_drew (S := fun W => (World.cell? W ⟨X.s, 1, none⟩ = some (.pointer (some ⟨L.dP, 0, none⟩)) ∧ World.rangeAt W J 0 (rowL (RW rg pc 4 y kk wt)))) (by kernel_rfl) (by rw [← hwD]; exact HSC.out _ HBd.out) (fun hHeld => ?_); rw [← hwD] at hHeld ⊢; clear hwD; refine wpAnyH_take (i := 0) (v := ?_) (by rfl) (by kernel_rfl) (by kernel_rfl) (by kernel_rfl) (fun _ _ _ h => h) (Or.inl ⟨by kernel_rfl, ?_⟩) (by assumption) ?_; rotate_left 1; (focus (intro w hSw; (try dsimp only at hSw); simp only [List.getElem_toArray, List.getElem_cons_succ, List.getElem_cons_zero]; all_goals go_simp; all_goals (try with_reducible rfl))); (try simp only [Act.put, List.getElem_toArray, List.getElem_cons_succ, List.getElem_cons_zero, List.setIfInBounds_toArray, List.set_cons_zero, List.set_cons_succ]); refine wpAnyH_take (i := 1) (v := ?_) (by rfl) (by kernel_rfl) (by kernel_rfl) (by kernel_rfl) (fun _ _ _ h => h) (Or.inl ⟨by kernel_rfl, ?_⟩) (by assumption) ?_; rotate_left 1; (focus (intro w hSw; (try dsimp only at hSw); simp only [List.getElem_toArray, List.getElem_cons_succ, List.getElem_cons_zero]; all_goals go_simp; all_goals (try with_reducible rfl))); (try simp only [Act.put, List.getElem_toArray, List.getElem_cons_succ, List.getElem_cons_zero, List.setIfInBounds_toArray, List.set_cons_zero, List.set_cons_succ]); refine wpAnyH_take (i := 2) (v := ?_) (by rfl) (by kernel_rfl) (by kernel_rfl) (by kernel_rfl) (fun _ _ _ h => h) (Or.inl ⟨by kernel_rfl, ?_⟩) (by assumption) ?_; rotate_left 1; (focus (intro w hSw; (try dsimp only at hSw); simp only [List.getElem_toArray, List.getElem_cons_succ, List.getElem_cons_zero]; all_goals go_simp; all_goals (try with_reducible rfl))); (try simp only [Act.put, List.getElem_toArray, List.getElem_cons_succ, List.getElem_cons_zero, List.setIfInBounds_toArray, List.set_cons_zero, List.set_cons_succ]); refine wpAnyH_take (i := 3) (v := ?_) (by rfl) (by kernel_rfl) (by kernel_rfl) (by kernel_rfl) (fun _ _ _ h => h) (Or.inl ⟨by kernel_rfl, ?_⟩) (by assumption) ?_; rotate_left 1; (focus (intro w hSw; (try dsimp only at hSw); simp only [List.getElem_toArray, List.getElem_cons_succ, List.getElem_cons_zero]; all_goals go_simp; all_goals (try with_reducible rfl))); (try simp only [Act.put, List.getElem_toArray, List.getElem_cons_succ, List.getElem_cons_zero, List.setIfInBounds_toArray, List.set_cons_zero, List.set_cons_succ]); refine wpAnyH_take (i := 4) (v := ?_) (by rfl) (by kernel_rfl) (by kernel_rfl) (by kernel_rfl) (fun _ _ _ h => h) (Or.inl ⟨by kernel_rfl, ?_⟩) (by assumption) ?_; rotate_left 1; (focus (intro w hSw; (try dsimp only at hSw); simp only [List.getElem_toArray, List.getElem_cons_succ, List.getElem_cons_zero]; all_goals go_simp; all_goals (try with_reducible rfl))); (try simp only [Act.put, List.getElem_toArray, List.getElem_cons_succ, List.getElem_cons_zero, List.setIfInBounds_toArray, List.set_cons_zero, List.set_cons_succ]); refine wpAnyH_take (i := 5) (v := .agg (rowL (RW rg pc 4 y kk wt)).toArray) (by rfl) (by kernel_rfl) (by kernel_rfl) (by kernel_rfl) (fun _ _ _ h => h) (yieldsIf_load_mid (by kernel_rfl) 34 (.tmp 6) (by rfl) J 0 (by rfl) (rowL (RW rg pc 4 y kk wt)) _ (fun w h => h.2) Tryz.underlying34 rfl (by rw [rowL_len]; exact infoDomS)) (by assumption) ?_; (try simp only [Act.put, List.getElem_toArray, List.getElem_cons_succ, List.getElem_cons_zero, List.setIfInBounds_toArray, List.set_cons_zero, List.set_cons_succ]); refine wpAnyH_ready (rs := [6]) (by kernel_rfl) (by simp) ?_; refine AllReadyH.cons (by rfl) (fun K hK => ?_) AllReadyH.nil; rw [if_pos (by kernel_rfl)]; simp only [List.getElem_toArray, List.getElem_cons_succ, List.getElem_cons_zero]; go_wp2_with (first | (go_at_call 11; (with_reducible refine (((H3.out.gs.below HBd.out).put x i hx hi rg pc 4 y kk wt hR (by decide) (by decide) y0 y6 u1 u2 vs vr HE.out)).mono ?_); rintro e w4 ⟨rfl, hgs, hgk⟩; have H4 := Lib.hid hgs; have K4 := Lib.hid hgk; clear hgs hgk)); refine hK.out _ _ ⟨H4.out.c1, range_same ((H3.out).below HBd.out).r (K4.out.eq J (by simp))⟩ (fun hHeld => ?_); clear hK K; (try simp only [Act.put, List.getElem_toArray, List.getElem_cons_succ, List.getElem_cons_zero, List.setIfInBounds_toArray, List.set_cons_zero, List.set_cons_succ]); refine wpAnyH_done (by kernel_rfl) ?_ _; refine NoPanic.normal ?_
  go_wp2_with fail
  go_end0
  exact ⟨⟨_, rfl⟩, H4.out.tail, H3.out.gk.trans ((GS.keep HBd.out H3.out.gs).tail.trans K4.out.tail)⟩
end
end Go.Proofs.YtllcakiomihipaaGreatDoor
namespace Go.Proofs.YtllcakiomihipaaGreatDoor
open Go.ChangeShapes Go.WideShapes Go.ChangeAt Go.RowKit
set_option linter.unusedVariables false
set_option linter.unusedSimpArgs false
section
variable {w0 wb w w' W : World} {L : BLoc} {X : SLoc} {nd B : Nat} {A : List Nat} {F : Nat → Nat → Value} {l : List Int} {J NB : Nat} {f f' : Nat → Value}
theorem GB.turn {W W2 : World} {J B2 : Nat} {F2 : Nat → Nat → Value} {l2 : List Int} (h : GB w0 wb W L X nd B A F l J f) (hg : GS w0 W2 L X nd B2 (J :: A) F2 l2) (hk : GK (J :: A) W W2) : GB w0 wb W2 L X nd B2 A F2 l2 J f :=
  ⟨hg, h.gk.trans hk.tail, range_same h.r (hk.eq J (by simp)), nthere_same h.th (hk.eq J (by simp)), h.xj, h.nj⟩
theorem GS.key (h : GS w0 w L X nd B A F l) (x : Int) (i : Nat) (hx : Hid (x = (i : Int))) (hi : i < nd) : Calls Tryz.prog 50 #[.pointer (some ⟨L.dP, 0, none⟩), .int .i64 x] w fun e w' => e = .returned (Value.agg #[.int .i64 4, .int .i64 x, .int .i64 0, .int .i64 0, .int .u32 0]) ∧ Below w.heap.size w w' := by
  obtain ⟨D, h1, h2⟩ := h.sj
  have hn := h.nn
  exact dkey_of x 4 x 0 0 0 w (fun W hW => dkeyof_in 4 x 0 i hx (by omega) (Lib.hid (by rw [h2.dt]; exact decide_eq_true hi)) (by decide) 0 (Lib.hid (by rw [h2.dv])) W (h1.below hW).k.d)
set_option maxRecDepth 100000 in
set_option maxHeartbeats 2000000 in
theorem upcall_lost (h : GS w0 w L X nd B A F l) (x : Int) (i : Nat) (hx : Hid (x = (i : Int))) (hi : i < nd) (rg : Nat → Int) (pc ft : Int) (kk : Nat → Nat → Int) (wt : Int) (hF : Hid (F i = RW rg pc 3 ft kk wt)) (hR : Hid (∀ q, q < 19 → KRight kk q)) (t1 : 0 ≤ ft) (t2 : ft ≤ 6) (u1 : 0 ≤ wt) (u3 : wt ≤ 1000) (vs vr : Value) (hE : ErrsAt vs vr w0) (hxq : V.wfI x) (hl : l.length ≤ 1000) (y ad : Int) (y1 : 1 ≤ y) (y6 : y ≤ 6) (hK : Hid (kk 18 0 = 0 ∧ kk 18 1 = 0 ∧ kk 18 2 = 0 ∧ kk 18 3 = 0 ∧ kk 18 4 = 0)) :
    Calls Tryz.prog 24 #[.pointer (some ⟨X.s, 0, none⟩), .int .i64 x, .int .i64 y, .int .u32 ad] w fun e w' => e = .returned (.bool false) ∧ GS w0 w' L X nd B A (setF F i (RW rg pc 4 y kk wt)) (V.offI l x) ∧ GK A w w' := by
  have H := Lib.hid h
  have HOne : Hid (∀ j, j < 107 → (RW rg pc 3 ft kk wt j).oneCell' = true) := Lib.hid (fun j _ => RW_one _ _ _ _ _ _ j)
  have HOneF : Hid (∀ j, j < 107 → (F i j).oneCell' = true) := Lib.hid (by rw [hF.out]; exact HOne.out)
  have HE := Lib.hid hE
  have HXS := h.xs
  have d1 : decide (y ≤ 0) = false := decide_eq_false (by omega)
  have d2 : decide (6 < y) = false := decide_eq_false (by omega)
  have HUU := Lib.hid (show wt ≤ 536870911 ∧ (V.offI l x).length ≤ 1000 from ⟨by omega, Nat.le_trans (List.length_filter_le _ _) hl⟩)
  clear h hE
  go_enter Tryz.func24, Tryz.ntmps24
  go_upto_region 1 with fail
  generalize hgA : World.alloc w _ = wA
  obtain ⟨FB, hFB⟩ : ∃ FB, FB = w.heap.size := ⟨_, rfl⟩
  have HA : Hid (GS w0 wA L X nd B (FB :: A) F l ∧ Below w.heap.size w wA ∧ wA.cell? ⟨FB, 0, none⟩ = some (.int .i64 y)) := Lib.hid (by rw [← hgA, hFB]; exact ⟨H.out.more ((Below.refl _ _).alloc (Nat.le_refl _) _) _ (Nat.le_refl _) (by simp), (Below.refl _ _).alloc (Nat.le_refl _) _, by simp⟩)
  rw [← hFB]
  clear hgA hFB
  have c1 := HA.out.1.c1
  go_upto_region 2 with (first
    | (go_at_call 10; (with_reducible refine ((HA.out.1).get x i hx hi HOneF).mono ?_); rintro e w1 ⟨rfl, hb⟩; have HB1 := Lib.hid hb; clear hb)
    | (refine wpList_store_mid (by rfl) _ _ _ (by rfl) w1.heap.size 0 (rowL (F i)).toArray (by rfl) (by rfl) (by rw [rowL_size]; exact nthere_new _ _ 107 zsize _) (by rw [rowL_size]; exact infoDomS) (rowL_one (F i) HOneF.out) ?_))
  generalize hg : World.setCells _ w1.heap.size 0 _ = w2
  obtain ⟨J, hJ⟩ : ∃ J, J = w1.heap.size := ⟨_, rfl⟩
  have H2 : Hid (GB w0 wA w2 L X nd B (FB :: A) F l J (RW rg pc 3 ft kk wt)) := Lib.hid (by rw [← hg, hJ, ← hF.out]; exact GB.made HA.out.1 HB1.out (F i) _ zsize _)
  rw [← hJ]
  clear hg hJ c1
  have j9 := H2.out.cell 9 (by decide)
  rw [RW_9] at j9
  have cf := (World.cell?_of_block (a := ⟨FB, 0, none⟩) (H2.out.gk.eq FB (by simp))).trans HA.out.2.2
  have c5 := H2.out.gs.c5
  go_upto_region 5 with (first
    | (go_at_call 31; (with_reducible refine (H2.out.gs.drop x hxq hl).mono ?_); rintro e w3 ⟨⟨tt, rfl⟩, hg, hk⟩; have H3 := Lib.hid (H2.out.turn hg hk); clear hg hk c5 j9 cf))
  have k0 := H3.out.cell 101 (by decide)
  have k1 := H3.out.cell 102 (by decide)
  have k2 := H3.out.cell 103 (by decide)
  have k3 := H3.out.cell 104 (by decide)
  have k4 := H3.out.cell 105 (by decide)
  rw [show RW rg pc 3 ft kk wt 101 = .int .i64 0 from congrArg (Value.int .i64) hK.out.1] at k0
  rw [show RW rg pc 3 ft kk wt 102 = .int .i64 0 from congrArg (Value.int .i64) hK.out.2.1] at k1
  rw [show RW rg pc 3 ft kk wt 103 = .int .i64 0 from congrArg (Value.int .i64) hK.out.2.2.1] at k2
  rw [show RW rg pc 3 ft kk wt 104 = .int .i64 0 from congrArg (Value.int .i64) hK.out.2.2.2.1] at k3
  rw [show RW rg pc 3 ft kk wt 105 = .int .u32 0 from congrArg (Value.int .u32) hK.out.2.2.2.2] at k4
  have HS3 := Lib.hid (oseen_void X.s vs vr w3 (H3.out.gs.errs HE.out))
  go_upto_region 6 with (first
    | (go_at_call 21; (with_reducible refine HS3.out.mono ?_); rintro e w4 ⟨rfl, hb⟩; have H4 := Lib.hid (H3.out.below hb); clear hb k0 k1 k2 k3 k4))
  generalize hg : World.alloc w4 _ = w5
  obtain ⟨KB, hKB⟩ : ∃ KB, KB = w4.heap.size := ⟨_, rfl⟩
  have H5 : Hid (GB w0 wA w5 L X nd B (FB :: A) F (V.offI l x) J (RW rg pc 3 ft kk wt) ∧ GS w0 w5 L X nd B (KB :: J :: FB :: A) F (V.offI l x) ∧ KeyC w5 KB 0 0 0 0 0) := Lib.hid (by
    rw [← hg, hKB]
    exact ⟨H4.out.below ((Below.refl _ _).alloc (Nat.le_refl _) _), H4.out.gs.more ((Below.refl _ _).alloc (Nat.le_refl _) _) _ (Nat.le_refl _) (by simp), KeyC.new w4 0 0 0 0 0 _⟩)
  rw [← hKB]
  clear hg hKB
  have q0 := H5.out.2.2.c0
  have q1 := H5.out.2.2.c1
  go_upto_region 7 with fail
  obtain ⟨w6, hw6⟩ : ∃ w6, w6 = w5 := ⟨_, rfl⟩
  have H6 := H5
  rw [← hw6] at H6 ⊢
  clear hw6 q0 q1
  generalize hg : World.alloc w6 _ = w7
  obtain ⟨PB, hPB⟩ : ∃ PB, PB = w6.heap.size := ⟨_, rfl⟩
  have H7 : Hid (GB w0 wA w7 L X nd B (FB :: A) F (V.offI l x) J (RW rg pc 3 ft kk wt) ∧ GS w0 w7 L X nd B (PB :: KB :: J :: FB :: A) F (V.offI l x) ∧ KeyC w7 KB 0 0 0 0 0 ∧ w7.cell? ⟨PB, 0, none⟩ = some (.bool false)) := Lib.hid (by
    rw [← hg, hPB]
    exact ⟨H6.out.1.below ((Below.refl _ _).alloc (Nat.le_refl _) _), H6.out.2.1.more ((Below.refl _ _).alloc (Nat.le_refl _) _) _ (Nat.le_refl _) (by simp), H6.out.2.2.below ((Below.refl _ _).alloc (Nat.le_refl _) _), by simp⟩)
  rw [← hPB]
  clear hg hPB
  have HC := Lib.hid (change_up_lost H7.out.2.1 x i hx hi rg pc 3 ft kk wt hF hR t1 t2 u1 HUU.out.1 vs vr HE.out FB PB ⟨by simp, by simp⟩ y (by omega) y6 (by decide) (by decide) ((World.cell?_of_block (a := ⟨FB, 0, none⟩) (H7.out.1.gk.eq FB (by simp))).trans HA.out.2.2) H7.out.2.2.2)
  go_upto_region 8 with (first
    | (go_at_call 47; (with_reducible refine HC.out.mono ?_); rintro e w8 ⟨⟨vv, rfl⟩, hg, hk⟩; have H8 := Lib.hid hg; have K8 := Lib.hid hk; clear hg hk))
  have cp := (World.cell?_of_block (a := ⟨PB, 0, none⟩) (K8.out.eq PB (by simp))).trans H7.out.2.2.2
  go_wp2_with fail
  go_ret
  exact ⟨rfl, H8.out.tail.tail.tail.tail, (GS.keep HA.out.2.1 H.out).trans (H7.out.1.gk.tail.trans K8.out.tail.tail.tail.tail)⟩
end
end Go.Proofs.YtllcakiomihipaaGreatDoor
namespace Go.Proofs.YtllcakiomihipaaGreatDoor
open Go.ChangeShapes Go.WideShapes Go.ChangeAt Go.RowKit
set_option linter.unusedVariables false
set_option linter.unusedSimpArgs false
section
variable {w0 wb w w' W : World} {L : BLoc} {X : SLoc} {nd B : Nat} {A : List Nat} {F : Nat → Nat → Value} {l : List Int} {J NB : Nat} {f f' : Nat → Value}
set_option maxRecDepth 100000 in
set_option maxHeartbeats 2000000 in
theorem upcall_kept (h : GS w0 w L X nd B A F l) (x : Int) (i : Nat) (hx : Hid (x = (i : Int))) (hi : i < nd) (rg : Nat → Int) (pc ft : Int) (kk : Nat → Nat → Int) (wt : Int) (hF : Hid (F i = RW rg pc 3 ft kk wt)) (hR : Hid (∀ q, q < 19 → KRight kk q)) (t1 : 0 ≤ ft) (t2 : ft ≤ 6) (u1 : 0 ≤ wt) (u3 : wt ≤ 1000) (vs vr : Value) (hE : ErrsAt vs vr w0) (hxq : V.wfI x) (hl : l.length ≤ 1000) (y ad : Int) (y1 : 1 ≤ y) (y6 : y ≤ 6) (v d : Int) (j : Nat) (hv : Hid (v = (j : Int))) (hj : j < nd) (hij : j ≠ i) (rj : Nat → Int) (pj fj : Int) (kj : Nat → Nat → Int) (wj : Int) (hFj : Hid (F j = RW rj pj 1 fj kj wj)) (hRj : Hid (∀ q, q < 19 → KRight kj q)) (v1 : 0 ≤ fj) (v2 : fj ≤ 6) (v3 : 0 ≤ wj) (v4 : wj ≤ 536870911) (hvq : V.wfI v) (hr : rightB 5 v 0 0 d = true) (hB : B ≤ 1000) (hx9 : x ≤ 1000) (hx4 : rightB 4 x 0 0 0 = true) (hx6 : rightB 6 x 0 0 (wt + 1) = true) (hK : Hid (kk 18 0 = 5 ∧ kk 18 1 = v ∧ kk 18 2 = 0 ∧ kk 18 3 = 0 ∧ kk 18 4 = d)) :
    Calls Tryz.prog 24 #[.pointer (some ⟨X.s, 0, none⟩), .int .i64 x, .int .i64 y, .int .u32 ad] w fun e w' => e = .returned (.bool true) ∧ GS w0 w' L X nd (B + 1) A (setF (setF (setF F i (RW rg pc 3 y kk wt)) i (RW rg pc 2 y kk (wt + 1))) j (RW (tRg rj (1000 + y) pc ad x d) pj 3 fj (tKk kj 4 x 0 0 0 0 0 0 0 0 0 0 0 0 0 6 x 0 0 (wt + 1)) wj)) (V.putAll (V.offI l x) [v]) ∧ GK A w w' := by
  have H := Lib.hid h
  have HOne : Hid (∀ j, j < 107 → (RW rg pc 3 ft kk wt j).oneCell' = true) := Lib.hid (fun j _ => RW_one _ _ _ _ _ _ j)
  have HOneF : Hid (∀ j, j < 107 → (F i j).oneCell' = true) := Lib.hid (by rw [hF.out]; exact HOne.out)
  have HE := Lib.hid hE
  have HXS := h.xs
  have d1 : decide (y ≤ 0) = false := decide_eq_false (by omega)
  have d2 : decide (6 < y) = false := decide_eq_false (by omega)
  have HUU := Lib.hid (show wt ≤ 536870911 ∧ (V.offI l x).length ≤ 1000 from ⟨by omega, Nat.le_trans (List.length_filter_le _ _) hl⟩)
  clear h hE
  go_enter Tryz.func24, Tryz.ntmps24
  go_upto_region 1 with fail
  generalize hgA : World.alloc w _ = wA
  obtain ⟨FB, hFB⟩ : ∃ FB, FB = w.heap.size := ⟨_, rfl⟩
  have HA : Hid (GS w0 wA L X nd B (FB :: A) F l ∧ Below w.heap.size w wA ∧ wA.cell? ⟨FB, 0, none⟩ = some (.int .i64 y)) := Lib.hid (by rw [← hgA, hFB]; exact ⟨H.out.more ((Below.refl _ _).alloc (Nat.le_refl _) _) _ (Nat.le_refl _) (by simp), (Below.refl _ _).alloc (Nat.le_refl _) _, by simp⟩)
  rw [← hFB]
  clear hgA hFB
  have c1 := HA.out.1.c1
  go_upto_region 2 with (first
    | (go_at_call 10; (with_reducible refine ((HA.out.1).get x i hx hi HOneF).mono ?_); rintro e w1 ⟨rfl, hb⟩; have HB1 := Lib.hid hb; clear hb)
    | (refine wpList_store_mid (by rfl) _ _ _ (by rfl) w1.heap.size 0 (rowL (F i)).toArray (by rfl) (by rfl) (by rw [rowL_size]; exact nthere_new _ _ 107 zsize _) (by rw [rowL_size]; exact infoDomS) (rowL_one (F i) HOneF.out) ?_))
  generalize hg : World.setCells _ w1.heap.size 0 _ = w2
  obtain ⟨J, hJ⟩ : ∃ J, J = w1.heap.size := ⟨_, rfl⟩
  have H2 : Hid (GB w0 wA w2 L X nd B (FB :: A) F l J (RW rg pc 3 ft kk wt)) := Lib.hid (by rw [← hg, hJ, ← hF.out]; exact GB.made HA.out.1 HB1.out (F i) _ zsize _)
  rw [← hJ]
  clear hg hJ c1
  have j9 := H2.out.cell 9 (by decide)
  rw [RW_9] at j9
  have cf := (World.cell?_of_block (a := ⟨FB, 0, none⟩) (H2.out.gk.eq FB (by simp))).trans HA.out.2.2
  have c5 := H2.out.gs.c5
  go_upto_region 5 with (first
    | (go_at_call 31; (with_reducible refine (H2.out.gs.drop x hxq hl).mono ?_); rintro e w3 ⟨⟨tt, rfl⟩, hg, hk⟩; have H3 := Lib.hid (H2.out.turn hg hk); clear hg hk c5 j9 cf))
  have k0 := H3.out.cell 101 (by decide)
  have k1 := H3.out.cell 102 (by decide)
  have k2 := H3.out.cell 103 (by decide)
  have k3 := H3.out.cell 104 (by decide)
  have k4 := H3.out.cell 105 (by decide)
  rw [show RW rg pc 3 ft kk wt 101 = .int .i64 5 from congrArg (Value.int .i64) hK.out.1] at k0
  rw [show RW rg pc 3 ft kk wt 102 = .int .i64 v from congrArg (Value.int .i64) hK.out.2.1] at k1
  rw [show RW rg pc 3 ft kk wt 103 = .int .i64 0 from congrArg (Value.int .i64) hK.out.2.2.1] at k2
  rw [show RW rg pc 3 ft kk wt 104 = .int .i64 0 from congrArg (Value.int .i64) hK.out.2.2.2.1] at k3
  rw [show RW rg pc 3 ft kk wt 105 = .int .u32 d from congrArg (Value.int .u32) hK.out.2.2.2.2] at k4
  have HS3 := Lib.hid (H3.out.gs.seen_start v j hv hj d hr vs vr HE.out)
  go_upto_region 6 with (first
    | (go_at_call 21; (with_reducible refine HS3.out.mono ?_); rintro e w4 ⟨rfl, hb⟩; have H4 := Lib.hid (H3.out.below hb); clear hb k0 k1 k2 k3 k4))
  generalize hg : World.alloc w4 _ = w5
  obtain ⟨KB, hKB⟩ : ∃ KB, KB = w4.heap.size := ⟨_, rfl⟩
  have H5 : Hid (GB w0 wA w5 L X nd B (FB :: A) F (V.offI l x) J (RW rg pc 3 ft kk wt) ∧ GS w0 w5 L X nd B (KB :: J :: FB :: A) F (V.offI l x) ∧ KeyC w5 KB 5 v 0 0 d) := Lib.hid (by
    rw [← hg, hKB]
    exact ⟨H4.out.below ((Below.refl _ _).alloc (Nat.le_refl _) _), H4.out.gs.more ((Below.refl _ _).alloc (Nat.le_refl _) _) _ (Nat.le_refl _) (by simp), KeyC.new w4 5 v 0 0 d _⟩)
  rw [← hKB]
  clear hg hKB
  have q0 := H5.out.2.2.c0
  have q1 := H5.out.2.2.c1
  have hne : (v == x) = false := by rw [hv.out, hx.out]; simp; omega
  have hne2 : (v != x) = true := by rw [bne, hne]; rfl
  have HAV := Lib.hid (avail_is H5.out.2.1 v j hv hj rj pj 1 fj kj wj hFj)
  go_upto_region 7 with (first
    | (go_at_call 34; (with_reducible refine HAV.out.mono ?_); rintro e w6 ⟨rfl, hb⟩; have H6 := Lib.hid (show GB w0 wA w6 L X nd B (FB :: A) F (V.offI l x) J (RW rg pc 3 ft kk wt) ∧ GS w0 w6 L X nd B (KB :: J :: FB :: A) F (V.offI l x) ∧ KeyC w6 KB 5 v 0 0 d from ⟨H5.out.1.below hb, H5.out.2.1.below hb, H5.out.2.2.below hb⟩); clear hb))
  clear hne hne2 q0 q1
  generalize hg : World.alloc w6 _ = w7
  obtain ⟨PB, hPB⟩ : ∃ PB, PB = w6.heap.size := ⟨_, rfl⟩
  have H7 : Hid (GB w0 wA w7 L X nd B (FB :: A) F (V.offI l x) J (RW rg pc 3 ft kk wt) ∧ GS w0 w7 L X nd B (PB :: KB :: J :: FB :: A) F (V.offI l x) ∧ KeyC w7 KB 5 v 0 0 d ∧ w7.cell? ⟨PB, 0, none⟩ = some (.bool true)) := Lib.hid (by
    rw [← hg, hPB]
    exact ⟨H6.out.1.below ((Below.refl _ _).alloc (Nat.le_refl _) _), H6.out.2.1.more ((Below.refl _ _).alloc (Nat.le_refl _) _) _ (Nat.le_refl _) (by simp), H6.out.2.2.below ((Below.refl _ _).alloc (Nat.le_refl _) _), by simp⟩)
  rw [← hPB]
  clear hg hPB
  have HC := Lib.hid (change_up_kept H7.out.2.1 x i hx hi rg pc 3 ft kk wt hF hR t1 t2 u1 HUU.out.1 vs vr HE.out FB PB ⟨by simp, by simp⟩ y (by omega) y6 (by decide) (by decide) ((World.cell?_of_block (a := ⟨FB, 0, none⟩) (H7.out.1.gk.eq FB (by simp))).trans HA.out.2.2) H7.out.2.2.2)
  go_upto_region 8 with (first
    | (go_at_call 47; (with_reducible refine HC.out.mono ?_); rintro e w8 ⟨⟨vv, rfl⟩, hg, hk⟩; have H8 := Lib.hid hg; have K8 := Lib.hid hk; clear hg hk))
  have cp := (World.cell?_of_block (a := ⟨PB, 0, none⟩) (K8.out.eq PB (by simp))).trans H7.out.2.2.2
  have HW := Lib.hid (wait_is H8.out x i hx hi rg pc 3 y kk wt (Lib.hid (setF_at _ _ _)) hR (by omega) y6 u1 u3 vs vr HE.out)
  go_upto_region 11 with (first
    | (go_at_call 49; (with_reducible refine HW.out.mono ?_); rintro e w9 ⟨rfl, hg, hk⟩; have H9 := Lib.hid hg; have K9 := Lib.hid (GK.trans K8.out hk); clear hg hk cp))
  generalize hg : World.alloc w9 _ = w10
  obtain ⟨CB, hCB⟩ : ∃ CB, CB = w9.heap.size := ⟨_, rfl⟩
  have H10 : Hid (GS w0 w10 L X nd B (CB :: PB :: KB :: J :: FB :: A) (setF (setF F i (RW rg pc 3 y kk wt)) i (RW rg pc 2 y kk (wt + 1))) (V.offI l x) ∧ GK (PB :: KB :: J :: FB :: A) w7 w10 ∧ KeyC w10 CB 6 x 0 0 (wt + 1)) := Lib.hid (by
    rw [← hg, hCB]
    exact ⟨H9.out.more ((Below.refl _ _).alloc (Nat.le_refl _) _) _ (Nat.le_refl _) (by simp), K9.out.trans (GS.keep ((Below.refl _ _).alloc (Nat.le_refl _) _) H9.out), KeyC.new w9 6 x 0 0 (wt + 1) _⟩)
  rw [← hCB]
  clear hg hCB
  have cf := (World.cell?_of_block (a := ⟨FB, 0, none⟩) (H10.out.2.1.eq FB (by simp))).trans ((World.cell?_of_block (a := ⟨FB, 0, none⟩) (H7.out.1.gk.eq FB (by simp))).trans HA.out.2.2)
  have j8 := rangeD (range_same H7.out.1.r (H10.out.2.1.eq J (by simp))) 8 (by decide)
  rw [RW_8] at j8
  have hx32 : x % 4294967296 = x := by have := hx.out; omega
  have HNA : Hid (w10.heap.size ∉ A ∧ w10.heap.size ∉ (PB :: KB :: J :: FB :: A) ∧ CB ≠ w10.heap.size ∧ X.s < w10.heap.size) := Lib.hid (by
    have hlt : ∀ k ∈ (CB :: PB :: KB :: J :: FB :: A), k < w10.heap.size := fun k hk => (H10.out.1.a k hk).1
    refine ⟨fun hm => ?_, fun hm => ?_, fun e => ?_, H10.out.1.xs.1⟩
    · have := hlt w10.heap.size (by simp [hm]); omega
    · have := hlt w10.heap.size (List.mem_cons_of_mem _ hm); omega
    · have := hlt CB (by simp); omega)
  go_upto_region 12 with (first
    | (refine wpList_store_mid (by rfl) _ _ _ (by rfl) w10.heap.size 0 ([.int .u32 (1000 + y), .int .u32 pc, .int .u32 ad, .int .u32 x, .int .i64 0, .int .i64 0, .int .i64 0, .int .i64 0, .int .u32 0, .int .i64 0, .int .i64 0, .int .i64 0, .int .i64 0, .int .u32 0, .int .i64 0, .int .i64 0, .int .i64 0, .int .i64 0, .int .u32 0] : List Value).toArray (by rfl) (by rfl) (nthere_new _ _ 19 (by rfl) _) infoNote (by simp [Value.oneCell']) ?_; generalize hg : World.setCells _ w10.heap.size 0 _ = w11))
  obtain ⟨NB, hNB⟩ : ∃ NB, NB = w10.heap.size := ⟨_, rfl⟩
  have H11 : Hid (GS w0 w11 L X nd B (NB :: CB :: PB :: KB :: J :: FB :: A) (setF (setF F i (RW rg pc 3 y kk wt)) i (RW rg pc 2 y kk (wt + 1))) (V.offI l x) ∧ GK (PB :: KB :: J :: FB :: A) w7 w11 ∧ KeyC w11 CB 6 x 0 0 (wt + 1) ∧ w11.rangeAt NB 0 [.int .u32 (1000 + y), .int .u32 pc, .int .u32 ad, .int .u32 x, .int .i64 0, .int .i64 0, .int .i64 0, .int .i64 0, .int .u32 0, .int .i64 0, .int .i64 0, .int .i64 0, .int .i64 0, .int .u32 0, .int .i64 0, .int .i64 0, .int .i64 0, .int .i64 0, .int .u32 0] ∧ World.there w11 NB 0 19) := Lib.hid (by
    have b := nbelow_cells ((Below.refl _ _).alloc (Nat.le_refl _) _ : Below w10.heap.size w10 (w10.alloc (.cells ([.int .u32 0, .int .u32 0, .int .u32 0, .int .u32 0, .int .i64 0, .int .i64 0, .int .i64 0, .int .i64 0, .int .u32 0, .int .i64 0, .int .i64 0, .int .i64 0, .int .i64 0, .int .u32 0, .int .i64 0, .int .i64 0, .int .i64 0, .int .i64 0, .int .u32 0] : List Value).toArray 52))) (Nat.le_refl _) [.int .u32 (1000 + y), .int .u32 pc, .int .u32 ad, .int .u32 x, .int .i64 0, .int .i64 0, .int .i64 0, .int .i64 0, .int .u32 0, .int .i64 0, .int .i64 0, .int .i64 0, .int .i64 0, .int .u32 0, .int .i64 0, .int .i64 0, .int .i64 0, .int .i64 0, .int .u32 0] 0
    rw [← hg, hNB]
    exact ⟨H10.out.1.more b _ (Nat.le_refl _) (by rw [heapSize]; simp), H10.out.2.1.trans (GS.keep b H10.out.1).tail, H10.out.2.2.below b, World.rangeAt_setCells_same _ _ 0 [.int .u32 (1000 + y), .int .u32 pc, .int .u32 ad, .int .u32 x, .int .i64 0, .int .i64 0, .int .i64 0, .int .i64 0, .int .u32 0, .int .i64 0, .int .i64 0, .int .i64 0, .int .i64 0, .int .u32 0, .int .i64 0, .int .i64 0, .int .i64 0, .int .i64 0, .int .u32 0] (nthere_new _ _ 19 (by rfl) _), World.there_setCells (nthere_new _ _ 19 (by rfl) _) _ _ _⟩)
  rw [← hNB] at HNA ⊢
  clear hg hNB cf j8
  have c1 := H11.out.1.c1
  have HKY := Lib.hid (H11.out.1.key x i hx hi)
  go_upto_region 13 with (first
    | (go_at_call 50; (with_reducible refine HKY.out.mono ?_); rintro e w12 ⟨rfl, hb⟩; have H12 := Lib.hid hb; have HT12 := Lib.hid (nthere_below H11.out.2.2.2.2 hb (H11.out.1.a NB (by simp)).1); clear hb c1)
    | (refine wpList_store_mid (by rfl) _ _ _ (by rfl) NB 4 #[.int .i64 4, .int .i64 x, .int .i64 0, .int .i64 0, .int .u32 0] (by rfl) (by rfl) (fun j hj => by have hj' : j < 5 := hj; have h := HT12.out (4 + j) (by omega); rwa [Nat.zero_add] at h) keyInfo5 (by simp [Value.oneCell']) ?_; generalize hg : World.setCells w12 NB 4 _ = w13))
  have H13 : Hid (GS w0 w13 L X nd B (NB :: CB :: PB :: KB :: J :: FB :: A) (setF (setF F i (RW rg pc 3 y kk wt)) i (RW rg pc 2 y kk (wt + 1))) (V.offI l x) ∧ GK (PB :: KB :: J :: FB :: A) w7 w13 ∧ KeyC w13 CB 6 x 0 0 (wt + 1) ∧ w13.rangeAt NB 0 [.int .u32 (1000 + y), .int .u32 pc, .int .u32 ad, .int .u32 x, .int .i64 4, .int .i64 x, .int .i64 0, .int .i64 0, .int .u32 0, .int .i64 0, .int .i64 0, .int .i64 0, .int .i64 0, .int .u32 0, .int .i64 0, .int .i64 0, .int .i64 0, .int .i64 0, .int .u32 0]) := Lib.hid (by
    have hs := heapSet CB NB HNA.out.2.2.1 [.int .i64 4, .int .i64 x, .int .i64 0, .int .i64 0, .int .u32 0] w12 4
    rw [← hg]
    exact ⟨(H11.out.1.below H12.out).cells NB (by simp) HNA.out.2.2.2 4 _, H11.out.2.1.trans ((GS.keep H12.out H11.out.1).tail.tail.trans (GK.cells HNA.out.2.1 _ _ _)), (H11.out.2.2.1.below H12.out).sameg hs (by rw [heapSize]; exact Nat.le_refl _), range_key5 (range_below H11.out.2.2.2.1 H12.out (H11.out.1.a NB (by simp)).1) 4 _ _ _ _ _⟩)
  clear hg
  have HFj : Hid ((setF (setF F i (RW rg pc 3 y kk wt)) i (RW rg pc 2 y kk (wt + 1))) j = RW rj pj 1 fj kj wj) := Lib.hid (by rw [setF_ne _ _ _ _ hij, setF_ne _ _ _ _ hij]; exact hFj.out)
  have HT := Lib.hid (hand_key w13.heap.size 1 (H13.out.1.more (w' := w13.alloc (.cells #[.int .i64 6, .int .i64 x, .int .i64 0, .int .i64 0, .int .u32 (wt + 1)] 31)) ((Below.refl _ _).alloc (Nat.le_refl _) _) w13.heap.size (Nat.le_refl _) (by simp)) v j hv hj rj pj 1 fj kj wj HFj hRj v1 v2 v3 v4 vs vr HE.out hvq HUU.out.2 hB (1000 + y) pc ad x d 4 x 0 0 0 0 0 0 0 0 0 0 0 0 0 6 x 0 0 (wt + 1) (by simp) (KeyC.new w13 6 x 0 0 (wt + 1) _) hx4 (by decide) (by decide) hx6)
  have q := KeyC.sameg H7.out.2.2.1 (H13.out.2.1.eq KB (by simp)) H13.out.2.1.sz
  have q1 := q.c1
  have q4 := q.c4
  have p0 := H13.out.2.2.1.c0
  have p1 := H13.out.2.2.1.c1
  have p2 := H13.out.2.2.1.c2
  have p3 := H13.out.2.2.1.c3
  have p4 := H13.out.2.2.1.c4
  have hnc := H13.out.2.2.2
  clear q
  go_wp2_with (first
    | (refine wpList_load_mid (by rfl) _ _ (by rfl) NB 0 (by rfl) [.int .u32 (1000 + y), .int .u32 pc, .int .u32 ad, .int .u32 x, .int .i64 4, .int .i64 x, .int .i64 0, .int .i64 0, .int .u32 0, .int .i64 0, .int .i64 0, .int .i64 0, .int .i64 0, .int .u32 0, .int .i64 0, .int .i64 0, .int .i64 0, .int .i64 0, .int .u32 0] _ hnc Tryz.underlying52 rfl infoNote ?_; clear hnc)
    | (go_at_call 51; (with_reducible refine HT.out.mono ?_); rintro e w14 ⟨⟨v9, rfl⟩, hg, hk⟩; have H14 := Lib.hid hg; have K14 := Lib.hid hk; clear hg hk))
  go_ret
  exact ⟨rfl, H14.out.tail.tail.tail.tail.tail.tail.tail, (GS.keep HA.out.2.1 H.out).trans (H7.out.1.gk.tail.trans (H13.out.2.1.tail.tail.tail.tail.trans ((GS.keep ((Below.refl _ _).alloc (Nat.le_refl _) _ : Below w13.heap.size w13 (w13.alloc (.cells #[.int .i64 6, .int .i64 x, .int .i64 0, .int .i64 0, .int .u32 (wt + 1)] 31))) H13.out.1).tail.tail.tail.tail.tail.tail.trans K14.out.tail.tail.tail.tail.tail.tail.tail)))⟩
end
end Go.Proofs.YtllcakiomihipaaGreatDoor
namespace Go.Proofs.YtllcakiomihipaaGreatDoor
open Go.ChangeShapes Go.WideShapes Go.ChangeAt Go.RowKit
set_option linter.unusedVariables false
set_option linter.unusedSimpArgs false
section
variable {w0 wb w w' W : World} {L : BLoc} {X : SLoc} {nd B : Nat} {A : List Nat} {F : Nat → Nat → Value} {l : List Int} {J NB : Nat}
set_option maxRecDepth 100000 in
set_option maxHeartbeats 4000000 in
theorem inv_pass6 (h : GS w0 w L X nd B A F l) (x : Int) (i : Nat) (hx : Hid (x = (i : Int))) (hi : i < nd) (rg : Nat → Int) (pc ft : Int) (kk : Nat → Nat → Int) (wt : Int) (hF : Hid (F i = RW rg pc 3 ft kk wt)) (how : Int) (h0 : 0 ≤ how) (h2 : how ≤ 2) (hxq : V.wfI x) (hl : l.length ≤ 1000) (k0 k1 k2 k3 k4 : Int) (m0 m1 m2 m3 m4 : Int) (n0 n1 n2 n3 n4 : Int) (p0 p1 p2 p3 p4 : Int) (o a b c : Int) (u0 u1 u2 u3 u4 : Int) (hSm : ∀ W, GS w0 W L X nd B [] F (V.offI l x) → Calls Tryz.prog 21 #[.pointer (some ⟨X.s, 0, none⟩), (Value.agg #[.int .i64 m0, .int .i64 m1, .int .i64 m2, .int .i64 m3, .int .u32 m4])] W fun e w' => e = .returned (Value.agg #[.int .i64 u0, .int .i64 u1, .int .i64 u2, .int .i64 u3, .int .u32 u4]) ∧ Below W.heap.size W w') (v0 v1 v2 v3 v4 : Int) (hSn : ∀ W, GS w0 W L X nd B [] F (V.offI l x) → Calls Tryz.prog 21 #[.pointer (some ⟨X.s, 0, none⟩), (Value.agg #[.int .i64 n0, .int .i64 n1, .int .i64 n2, .int .i64 n3, .int .u32 n4])] W fun e w' => e = .returned (Value.agg #[.int .i64 v0, .int .i64 v1, .int .i64 v2, .int .i64 v3, .int .u32 v4]) ∧ Below W.heap.size W w') (z0 z1 z2 z3 z4 : Int) (hSp : ∀ W, GS w0 W L X nd B [] F (V.offI l x) → Calls Tryz.prog 21 #[.pointer (some ⟨X.s, 0, none⟩), (Value.agg #[.int .i64 p0, .int .i64 p1, .int .i64 p2, .int .i64 p3, .int .u32 p4])] W fun e w' => e = .returned (Value.agg #[.int .i64 z0, .int .i64 z1, .int .i64 z2, .int .i64 z3, .int .u32 z4]) ∧ Below W.heap.size W w') (r0 r1 r2 r3 r4 : Int) (hS : ∀ W, GS w0 W L X nd B [] F (V.offI l x) → Calls Tryz.prog 21 #[.pointer (some ⟨X.s, 0, none⟩), (Value.agg #[.int .i64 k0, .int .i64 k1, .int .i64 k2, .int .i64 k3, .int .u32 k4])] W fun e w' => e = .returned (Value.agg #[.int .i64 r0, .int .i64 r1, .int .i64 r2, .int .i64 r3, .int .u32 r4]) ∧ Below W.heap.size W w') (h5 : r0 = 6) (hAn : ∀ W, GS w0 W L X nd B [] F (V.offI l x) → Calls Tryz.prog 32 #[.pointer (some ⟨X.s, 0, none⟩), (Value.agg #[.int .i64 r0, .int .i64 r1, .int .i64 r2, .int .i64 r3, .int .u32 r4]), (Value.agg #[.int .u32 o, .int .u32 a, .int .u32 b, .int .u32 c, .int .i64 u0, .int .i64 u1, .int .i64 u2, .int .i64 u3, .int .u32 u4, .int .i64 v0, .int .i64 v1, .int .i64 v2, .int .i64 v3, .int .u32 v4, .int .i64 z0, .int .i64 z1, .int .i64 z2, .int .i64 z3, .int .u32 z4])] W fun e w' => e = .returned (.tuple #[(Value.agg #[.int .u32 0, .int .u32 0, .int .u32 0, .int .u32 0, .int .i64 0, .int .i64 0, .int .i64 0, .int .i64 0, .int .u32 0, .int .i64 0, .int .i64 0, .int .i64 0, .int .i64 0, .int .u32 0, .int .i64 0, .int .i64 0, .int .i64 0, .int .i64 0, .int .u32 0]), .bool false]) ∧ Below W.heap.size W w') (Q : Nat → (Nat → Nat → Value) → List Int → Prop) (hT : ∀ A' W, GS w0 W L X nd B A' F (V.offI l x) → Calls Tryz.prog 36 #[.pointer (some ⟨X.s, 0, none⟩), .int .i64 x, .int .i64 how, (Value.agg #[.int .i64 r0, .int .i64 r1, .int .i64 r2, .int .i64 r3, .int .u32 r4]), (Value.agg #[.int .u32 o, .int .u32 a, .int .u32 b, .int .u32 c, .int .i64 u0, .int .i64 u1, .int .i64 u2, .int .i64 u3, .int .u32 u4, .int .i64 v0, .int .i64 v1, .int .i64 v2, .int .i64 v3, .int .u32 v4, .int .i64 z0, .int .i64 z1, .int .i64 z2, .int .i64 z3, .int .u32 z4])] W fun e w' => (∃ v, e = .returned v) ∧ (∃ B' F' l', Q B' F' l' ∧ GS w0 w' L X nd B' A' F' l') ∧ GK A' W w') :
    Calls Tryz.prog 12 #[.pointer (some ⟨X.s, 0, none⟩), .int .i64 x, .int .i64 how, (Value.agg #[.int .i64 k0, .int .i64 k1, .int .i64 k2, .int .i64 k3, .int .u32 k4]), (Value.agg #[.int .u32 o, .int .u32 a, .int .u32 b, .int .u32 c, .int .i64 m0, .int .i64 m1, .int .i64 m2, .int .i64 m3, .int .u32 m4, .int .i64 n0, .int .i64 n1, .int .i64 n2, .int .i64 n3, .int .u32 n4, .int .i64 p0, .int .i64 p1, .int .i64 p2, .int .i64 p3, .int .u32 p4])] w fun e w' => e = .returned (.tuple #[.agg ([.int .i64 1, .int .i64 r1, .int .u32 0, .int .u32 0, .int .u32 0, .int .u32 0, .int .i64 0, .int .i64 0, .int .i64 0, .int .i64 0, .int .u32 0, .int .i64 0, .int .i64 0, .int .i64 0, .int .i64 0, .int .u32 0, .int .i64 0, .int .i64 0, .int .i64 0, .int .i64 0, .int .u32 0] : List Value).toArray, .nilIface]) ∧ (∃ B' F' l', Q B' F' l' ∧ GS w0 w' L X nd B' A F' l') ∧ GK A w w' := by
  have e5 : (r0 == 5) = false := by rw [h5]; rfl
  have HAn := Lib.hid hAn
  have HT := Lib.hid hT
  clear hAn hT h5
  have H := Lib.hid h
  have HOne : Hid (∀ j, j < 107 → (RW rg pc 3 ft kk wt j).oneCell' = true) := Lib.hid (fun j _ => RW_one _ _ _ _ _ _ j)
  have HOneF : Hid (∀ j, j < 107 → (F i j).oneCell' = true) := Lib.hid (by rw [hF.out]; exact HOne.out)
  have HS := Lib.hid hS
  have HM := Lib.hid hSm
  have HN2 := Lib.hid hSn
  have HP2 := Lib.hid hSp
  clear h hS hSm hSn hSp
  go_enter Tryz.func12, Tryz.ntmps12
  go_upto_region 1 with fail
  generalize hgA : World.alloc _ _ = wA; obtain ⟨KB, NB, RB, hKB, hNB, hRB⟩ : ∃ KB NB RB, KB = w.heap.size ∧ NB = w.heap.size + 1 ∧ RB = w.heap.size + 1 + 1 := ⟨_, _, _, rfl, rfl, rfl⟩; have HA : Hid (IV w0 w wA L X nd B A F l KB NB RB [.int .i64 k0, .int .i64 k1, .int .i64 k2, .int .i64 k3, .int .u32 k4] ([.int .u32 o, .int .u32 a, .int .u32 b, .int .u32 c, .int .i64 m0, .int .i64 m1, .int .i64 m2, .int .i64 m3, .int .u32 m4, .int .i64 n0, .int .i64 n1, .int .i64 n2, .int .i64 n3, .int .u32 n4, .int .i64 p0, .int .i64 p1, .int .i64 p2, .int .i64 p3, .int .u32 p4] : List Value) [.int .i64 0, .int .i64 0, .int .u32 0, .int .u32 0, .int .u32 0, .int .u32 0, .int .i64 0, .int .i64 0, .int .i64 0, .int .i64 0, .int .u32 0, .int .i64 0, .int .i64 0, .int .i64 0, .int .i64 0, .int .u32 0, .int .i64 0, .int .i64 0, .int .i64 0, .int .i64 0, .int .u32 0]) := (Lib.hid (by rw [← hgA, hKB, hNB, hRB]; exact IV.made H.out [.int .i64 k0, .int .i64 k1, .int .i64 k2, .int .i64 k3, .int .u32 k4] ([.int .u32 o, .int .u32 a, .int .u32 b, .int .u32 c, .int .i64 m0, .int .i64 m1, .int .i64 m2, .int .i64 m3, .int .u32 m4, .int .i64 n0, .int .i64 n1, .int .i64 n2, .int .i64 n3, .int .u32 n4, .int .i64 p0, .int .i64 p1, .int .i64 p2, .int .i64 p3, .int .u32 p4] : List Value) [.int .i64 0, .int .i64 0, .int .u32 0, .int .u32 0, .int .u32 0, .int .u32 0, .int .i64 0, .int .i64 0, .int .i64 0, .int .i64 0, .int .u32 0, .int .i64 0, .int .i64 0, .int .i64 0, .int .i64 0, .int .u32 0, .int .i64 0, .int .i64 0, .int .i64 0, .int .i64 0, .int .u32 0] _ _ _ rfl rfl rfl)); rw [← hRB, ← hNB, ← hKB]; clear hgA hKB hNB hRB
  have c1 := HA.out.gs.c1
  go_upto_region 2 with (first
    | (go_at_call 10; (with_reducible refine (HA.out.gs.get x i hx hi HOneF).mono ?_); rintro e w1 ⟨rfl, hb⟩; have H1 := Lib.hid (HA.out.below hb); clear hb)
    | (refine wpList_store_mid (by rfl) _ _ _ (by rfl) w1.heap.size 0 (rowL (F i)).toArray (by rfl) (by rfl) (by rw [rowL_size]; exact nthere_new _ _ 107 zsize _) (by rw [rowL_size]; exact infoDomS) (rowL_one (F i) HOneF.out) ?_))
  generalize hg : World.setCells _ w1.heap.size 0 _ = w2
  have H2 := Lib.hid (show IV w0 w w2 L X nd B A F l KB NB RB _ _ _ ∧ w2.rangeAt w1.heap.size 0 (rowL (RW rg pc 3 ft kk wt)) by rw [← hg, ← hF.out]; exact ⟨H1.out.below (nbelow_cells ((Below.refl _ _).alloc (Nat.le_refl _) _) (Nat.le_refl _) _ _), World.rangeAt_setCells_same _ _ 0 (rowL (F i)) (by rw [rowL_len]; exact nthere_new _ _ 107 zsize _)⟩)
  clear hg
  have j9 : w2.cell? ⟨w1.heap.size, 9, none⟩ = some (.int .i64 3) := rangeD H2.out.2 9 (by decide)
  have H2 := Lib.hid H2.out.1
  have c5 := H2.out.gs.c5
  go_upto_region 9 with (first
    | (go_at_call 31; (with_reducible refine (H2.out.gs.drop x hxq hl).mono ?_); rintro e w3 ⟨⟨t, rfl⟩, hg, hk⟩; have H3 := Lib.hid (H2.out.turn hg hk); clear hg hk c5 j9))
  have k1' := H3.out.kc
  go_upto_region 10 with (first
    | (refine wpList_load_mid (by rfl) _ _ (by rfl) KB 0 (by rfl) [.int .i64 k0, .int .i64 k1, .int .i64 k2, .int .i64 k3, .int .u32 k4] _ k1' Tryz.underlying31 rfl keyInfo5 ?_)
    | (go_at_call 21; (with_reducible refine (HS.out _ (H3.out.gs.sub (by simp))).mono ?_); rintro e w4 ⟨rfl, hb⟩; have H4 := Lib.hid (H3.out.below hb); clear hb k1')
    | (refine wpList_store_mid (by rfl) _ _ _ (by rfl) KB 0 #[.int .i64 r0, .int .i64 r1, .int .i64 r2, .int .i64 r3, .int .u32 r4] (by rfl) (by rfl) H4.out.kt keyInfo5 (by simp [Value.oneCell']) ?_))
  generalize hg : World.setCells w4 KB 0 _ = w5
  have H5 := Lib.hid (show IV w0 w w5 L X nd B A F (V.offI l x) KB NB RB [.int .i64 r0, .int .i64 r1, .int .i64 r2, .int .i64 r3, .int .u32 r4] _ _ by rw [← hg]; exact H4.out.putk [.int .i64 r0, .int .i64 r1, .int .i64 r2, .int .i64 r3, .int .u32 r4] rfl)
  clear hg
  have HN5 : Hid (w5.rangeAt NB 4 [.int .i64 m0, .int .i64 m1, .int .i64 m2, .int .i64 m3, .int .u32 m4, .int .i64 n0, .int .i64 n1, .int .i64 n2, .int .i64 n3, .int .u32 n4, .int .i64 p0, .int .i64 p1, .int .i64 p2, .int .i64 p3, .int .u32 p4]) := Lib.hid (fun j v hv => by
    have h := CallC.cell H5.out.nc (4 + j) v
    exact h (by
      have e : ([.int .u32 o, .int .u32 a, .int .u32 b, .int .u32 c, .int .i64 m0, .int .i64 m1, .int .i64 m2, .int .i64 m3, .int .u32 m4, .int .i64 n0, .int .i64 n1, .int .i64 n2, .int .i64 n3, .int .u32 n4, .int .i64 p0, .int .i64 p1, .int .i64 p2, .int .i64 p3, .int .u32 p4] : List Value) = [.int .u32 o, .int .u32 a, .int .u32 b, .int .u32 c] ++ [.int .i64 m0, .int .i64 m1, .int .i64 m2, .int .i64 m3, .int .u32 m4, .int .i64 n0, .int .i64 n1, .int .i64 n2, .int .i64 n3, .int .u32 n4, .int .i64 p0, .int .i64 p1, .int .i64 p2, .int .i64 p3, .int .u32 p4] := rfl
      rw [e, List.getElem?_append_right (by simp)]
      simpa using hv))
  go_wp2_with (first
    | (refine wpList_load_mid (by rfl) _ _ (by rfl) NB 4 (by rfl) [.int .i64 m0, .int .i64 m1, .int .i64 m2, .int .i64 m3, .int .u32 m4, .int .i64 n0, .int .i64 n1, .int .i64 n2, .int .i64 n3, .int .u32 n4, .int .i64 p0, .int .i64 p1, .int .i64 p2, .int .i64 p3, .int .u32 p4] _ HN5.out Tryz.underlying50 rfl (by kernel_rfl) ?_))
  refine wp_loop_rounds 4 ?_
  rw [rounds_succ]; have hix : (Instr.index 50 (.agg [.int .i64 m0, .int .i64 m1, .int .i64 m2, .int .i64 m3, .int .u32 m4, .int .i64 n0, .int .i64 n1, .int .i64 n2, .int .i64 n3, .int .u32 n4, .int .i64 p0, .int .i64 p1, .int .i64 p2, .int .i64 p3, .int .u32 p4].toArray) (.int .i64 0)).run Tryz.prog w5 = .ok (.agg (List.toArray [.int .i64 m0, .int .i64 m1, .int .i64 m2, .int .i64 m3, .int .u32 m4])) w5 := (by kernel_rfl); simp only [List.toArray] at hix; go_upto_region 13 with fail; generalize hg : World.alloc w5 _ = w6; obtain ⟨XB, hXB⟩ : ∃ XB, XB = w5.heap.size := ⟨_, rfl⟩; have H6 := Lib.hid (show IV w0 w w6 L X nd B A F (V.offI l x) KB NB RB _ _ _ ∧ w6.rangeAt XB 0 [.int .i64 m0, .int .i64 m1, .int .i64 m2, .int .i64 m3, .int .u32 m4] by rw [← hg, hXB]; exact ⟨H5.out.below ((Below.refl _ _).alloc (Nat.le_refl _) _), cbox _ [.int .i64 m0, .int .i64 m1, .int .i64 m2, .int .i64 m3, .int .u32 m4] _⟩); rw [← hXB]; clear hg hXB hix; go_upto_region 14 with (first | (refine wpList_load_mid (by rfl) _ _ (by rfl) XB 0 (by rfl) [.int .i64 m0, .int .i64 m1, .int .i64 m2, .int .i64 m3, .int .u32 m4] _ H6.out.2 Tryz.underlying31 rfl keyInfo5 ?_) | (go_at_call 21; (with_reducible refine (HM.out _ (H6.out.1.gs.sub (by simp))).mono ?_); rintro e w7 ⟨rfl, hb⟩; have H7 := Lib.hid (H6.out.1.below hb); clear hb) | (refine wpList_store_mid (by rfl) _ _ _ (by rfl) NB 4 (List.toArray [.int .i64 u0, .int .i64 u1, .int .i64 u2, .int .i64 u3, .int .u32 u4]) (by rfl) (by rfl) (fun j hj => by have hj' : j < 5 := hj; have h := H7.out.ot (4 + j) (by omega); rwa [Nat.zero_add] at h) keyInfo5 (by simp [Value.oneCell']) ?_)); generalize hg : World.setCells w7 NB 4 _ = w8; have H8 := Lib.hid (show IV w0 w w8 L X nd B A F (V.offI l x) KB NB RB _ ([.int .u32 o, .int .u32 a, .int .u32 b, .int .u32 c, .int .i64 u0, .int .i64 u1, .int .i64 u2, .int .i64 u3, .int .u32 u4, .int .i64 n0, .int .i64 n1, .int .i64 n2, .int .i64 n3, .int .u32 n4, .int .i64 p0, .int .i64 p1, .int .i64 p2, .int .i64 p3, .int .u32 p4] : List Value) _ by rw [← hg]; exact H7.out.putn 4 [.int .i64 u0, .int .i64 u1, .int .i64 u2, .int .i64 u3, .int .u32 u4] _ (range_key5 H7.out.nc 4 _ _ _ _ _)); clear hg; go_wp2_with fail
  rw [rounds_succ]; have hix : (Instr.index 50 (.agg [.int .i64 m0, .int .i64 m1, .int .i64 m2, .int .i64 m3, .int .u32 m4, .int .i64 n0, .int .i64 n1, .int .i64 n2, .int .i64 n3, .int .u32 n4, .int .i64 p0, .int .i64 p1, .int .i64 p2, .int .i64 p3, .int .u32 p4].toArray) (.int .i64 1)).run Tryz.prog w8 = .ok (.agg (List.toArray [.int .i64 n0, .int .i64 n1, .int .i64 n2, .int .i64 n3, .int .u32 n4])) w8 := (by kernel_rfl); simp only [List.toArray] at hix; go_upto_region 13 with fail; generalize hg : World.alloc w8 _ = w6; obtain ⟨XB, hXB⟩ : ∃ XB, XB = w8.heap.size := ⟨_, rfl⟩; have H6 := Lib.hid (show IV w0 w w6 L X nd B A F (V.offI l x) KB NB RB _ _ _ ∧ w6.rangeAt XB 0 [.int .i64 n0, .int .i64 n1, .int .i64 n2, .int .i64 n3, .int .u32 n4] by rw [← hg, hXB]; exact ⟨H8.out.below ((Below.refl _ _).alloc (Nat.le_refl _) _), cbox _ [.int .i64 n0, .int .i64 n1, .int .i64 n2, .int .i64 n3, .int .u32 n4] _⟩); rw [← hXB]; clear hg hXB hix; go_upto_region 14 with (first | (refine wpList_load_mid (by rfl) _ _ (by rfl) XB 0 (by rfl) [.int .i64 n0, .int .i64 n1, .int .i64 n2, .int .i64 n3, .int .u32 n4] _ H6.out.2 Tryz.underlying31 rfl keyInfo5 ?_) | (go_at_call 21; (with_reducible refine (HN2.out _ (H6.out.1.gs.sub (by simp))).mono ?_); rintro e w7 ⟨rfl, hb⟩; have H7 := Lib.hid (H6.out.1.below hb); clear hb) | (refine wpList_store_mid (by rfl) _ _ _ (by rfl) NB 9 (List.toArray [.int .i64 v0, .int .i64 v1, .int .i64 v2, .int .i64 v3, .int .u32 v4]) (by rfl) (by rfl) (fun j hj => by have hj' : j < 5 := hj; have h := H7.out.ot (9 + j) (by omega); rwa [Nat.zero_add] at h) keyInfo5 (by simp [Value.oneCell']) ?_)); generalize hg : World.setCells w7 NB 9 _ = w9; have H9 := Lib.hid (show IV w0 w w9 L X nd B A F (V.offI l x) KB NB RB _ ([.int .u32 o, .int .u32 a, .int .u32 b, .int .u32 c, .int .i64 u0, .int .i64 u1, .int .i64 u2, .int .i64 u3, .int .u32 u4, .int .i64 v0, .int .i64 v1, .int .i64 v2, .int .i64 v3, .int .u32 v4, .int .i64 p0, .int .i64 p1, .int .i64 p2, .int .i64 p3, .int .u32 p4] : List Value) _ by rw [← hg]; exact H7.out.putn 9 [.int .i64 v0, .int .i64 v1, .int .i64 v2, .int .i64 v3, .int .u32 v4] _ (range_key5 H7.out.nc 9 _ _ _ _ _)); clear hg; go_wp2_with fail
  rw [rounds_succ]; have hix : (Instr.index 50 (.agg [.int .i64 m0, .int .i64 m1, .int .i64 m2, .int .i64 m3, .int .u32 m4, .int .i64 n0, .int .i64 n1, .int .i64 n2, .int .i64 n3, .int .u32 n4, .int .i64 p0, .int .i64 p1, .int .i64 p2, .int .i64 p3, .int .u32 p4].toArray) (.int .i64 2)).run Tryz.prog w9 = .ok (.agg (List.toArray [.int .i64 p0, .int .i64 p1, .int .i64 p2, .int .i64 p3, .int .u32 p4])) w9 := (by kernel_rfl); simp only [List.toArray] at hix; go_upto_region 13 with fail; generalize hg : World.alloc w9 _ = w6; obtain ⟨XB, hXB⟩ : ∃ XB, XB = w9.heap.size := ⟨_, rfl⟩; have H6 := Lib.hid (show IV w0 w w6 L X nd B A F (V.offI l x) KB NB RB _ _ _ ∧ w6.rangeAt XB 0 [.int .i64 p0, .int .i64 p1, .int .i64 p2, .int .i64 p3, .int .u32 p4] by rw [← hg, hXB]; exact ⟨H9.out.below ((Below.refl _ _).alloc (Nat.le_refl _) _), cbox _ [.int .i64 p0, .int .i64 p1, .int .i64 p2, .int .i64 p3, .int .u32 p4] _⟩); rw [← hXB]; clear hg hXB hix; go_upto_region 14 with (first | (refine wpList_load_mid (by rfl) _ _ (by rfl) XB 0 (by rfl) [.int .i64 p0, .int .i64 p1, .int .i64 p2, .int .i64 p3, .int .u32 p4] _ H6.out.2 Tryz.underlying31 rfl keyInfo5 ?_) | (go_at_call 21; (with_reducible refine (HP2.out _ (H6.out.1.gs.sub (by simp))).mono ?_); rintro e w7 ⟨rfl, hb⟩; have H7 := Lib.hid (H6.out.1.below hb); clear hb) | (refine wpList_store_mid (by rfl) _ _ _ (by rfl) NB 14 (List.toArray [.int .i64 z0, .int .i64 z1, .int .i64 z2, .int .i64 z3, .int .u32 z4]) (by rfl) (by rfl) (fun j hj => by have hj' : j < 5 := hj; have h := H7.out.ot (14 + j) (by omega); rwa [Nat.zero_add] at h) keyInfo5 (by simp [Value.oneCell']) ?_)); generalize hg : World.setCells w7 NB 14 _ = w10; have H10 := Lib.hid (show IV w0 w w10 L X nd B A F (V.offI l x) KB NB RB _ ([.int .u32 o, .int .u32 a, .int .u32 b, .int .u32 c, .int .i64 u0, .int .i64 u1, .int .i64 u2, .int .i64 u3, .int .u32 u4, .int .i64 v0, .int .i64 v1, .int .i64 v2, .int .i64 v3, .int .u32 v4, .int .i64 z0, .int .i64 z1, .int .i64 z2, .int .i64 z3, .int .u32 z4] : List Value) _ by rw [← hg]; exact H7.out.putn 14 [.int .i64 z0, .int .i64 z1, .int .i64 z2, .int .i64 z3, .int .u32 z4] _ (range_key5 H7.out.nc 14 _ _ _ _ _)); clear hg; go_wp2_with fail
  rw [rounds_succ]
  clear H1 H2 H3 H4 H5 H6 H7 H8 H9 HA HN5
  go_upto_region 15 with fail
  have hkc := H10.out.kc
  have hnc := H10.out.nc
  have HG10 := Lib.hid (H10.out.gs.sub (A' := []) (by simp))
  go_upto_region 16 with (first
    | (refine wpList_load_mid (by rfl) _ _ (by rfl) KB 0 (by rfl) [.int .i64 r0, .int .i64 r1, .int .i64 r2, .int .i64 r3, .int .u32 r4] _ hkc Tryz.underlying31 rfl keyInfo5 ?_; clear hkc)
    | (refine wpList_load_mid (by rfl) _ _ (by rfl) NB 0 (by rfl) ([.int .u32 o, .int .u32 a, .int .u32 b, .int .u32 c, .int .i64 u0, .int .i64 u1, .int .i64 u2, .int .i64 u3, .int .u32 u4, .int .i64 v0, .int .i64 v1, .int .i64 v2, .int .i64 v3, .int .u32 v4, .int .i64 z0, .int .i64 z1, .int .i64 z2, .int .i64 z3, .int .u32 z4] : List Value) _ hnc Tryz.underlying52 rfl infoNote ?_)
    | (go_at_call 32; (with_reducible refine (HAn.out _ HG10.out).mono ?_); rintro e w11 ⟨rfl, hb⟩; have H11 := Lib.hid (H10.out.below hb); clear hb hnc)
    | (refine wpList_store_mid (by rfl) _ _ _ (by rfl) w11.heap.size 0 ([.int .u32 0, .int .u32 0, .int .u32 0, .int .u32 0, .int .i64 0, .int .i64 0, .int .i64 0, .int .i64 0, .int .u32 0, .int .i64 0, .int .i64 0, .int .i64 0, .int .i64 0, .int .u32 0, .int .i64 0, .int .i64 0, .int .i64 0, .int .i64 0, .int .u32 0] : List Value).toArray (by rfl) (by rfl) (nthere_new _ _ 19 (by rfl) _) infoNote (note_one _ _ _ _ _ _ _ _ _ _ _ _ _ _ _ _ _ _ _) ?_; generalize hg : World.setCells _ w11.heap.size 0 _ = w12))
  have H12 := Lib.hid (show IV w0 w w12 L X nd B A F (V.offI l x) KB NB RB _ _ _ by
    have b := nbelow_cells ((Below.refl _ _).alloc (Nat.le_refl _) _ : Below w11.heap.size w11 (w11.alloc (.cells ([.int .u32 0, .int .u32 0, .int .u32 0, .int .u32 0, .int .i64 0, .int .i64 0, .int .i64 0, .int .i64 0, .int .u32 0, .int .i64 0, .int .i64 0, .int .i64 0, .int .i64 0, .int .u32 0, .int .i64 0, .int .i64 0, .int .i64 0, .int .i64 0, .int .u32 0] : List Value).toArray 52))) (Nat.le_refl _) [.int .u32 0, .int .u32 0, .int .u32 0, .int .u32 0, .int .i64 0, .int .i64 0, .int .i64 0, .int .i64 0, .int .u32 0, .int .i64 0, .int .i64 0, .int .i64 0, .int .i64 0, .int .u32 0, .int .i64 0, .int .i64 0, .int .i64 0, .int .i64 0, .int .u32 0] 0
    rw [← hg]
    exact H11.out.below b)
  clear hg H10 H11 HG10
  have q0 := CallC.cell H12.out.kc 0 _ rfl
  have q1 := CallC.cell H12.out.kc 1 _ rfl
  obtain ⟨w13, hw13⟩ : ∃ w13, w13 = w12 := ⟨_, rfl⟩
  have H13 := H12
  have HG13 := Lib.hid H12.out.gs
  rw [← hw13] at H13 HG13 q0 q1 ⊢
  clear hw13 H12
  have hkc := H13.out.kc
  have hnc := H13.out.nc
  go_upto_region 23 with (first
    | (refine wpList_load_mid (by rfl) _ _ (by rfl) KB 0 (by rfl) [.int .i64 r0, .int .i64 r1, .int .i64 r2, .int .i64 r3, .int .u32 r4] _ hkc Tryz.underlying31 rfl keyInfo5 ?_; clear hkc)
    | (refine wpList_load_mid (by rfl) _ _ (by rfl) NB 0 (by rfl) ([.int .u32 o, .int .u32 a, .int .u32 b, .int .u32 c, .int .i64 u0, .int .i64 u1, .int .i64 u2, .int .i64 u3, .int .u32 u4, .int .i64 v0, .int .i64 v1, .int .i64 v2, .int .i64 v3, .int .u32 v4, .int .i64 z0, .int .i64 z1, .int .i64 z2, .int .i64 z3, .int .u32 z4] : List Value) _ hnc Tryz.underlying52 rfl infoNote ?_)
    | (go_at_call 36; (with_reducible refine (HT.out _ _ HG13.out).mono ?_); rintro e w14 ⟨⟨vT, rfl⟩, hq, hk⟩; have H14 := Lib.hid hq; have K14 := Lib.hid hk; have HR14 := Lib.hid (nthere_same H13.out.rt (hk.eq RB (by simp))); have HK14 := Lib.hid (range_same H13.out.kc (hk.eq KB (by simp))); clear hq hk q1 hnc))
  have q1 := CallC.cell HK14.out 1 _ rfl
  go_wp2_with (first
    | (refine wpList_store_mid (by rfl) _ _ _ (by rfl) RB 0 ([.int .i64 1, .int .i64 r1, .int .u32 0, .int .u32 0, .int .u32 0, .int .u32 0, .int .i64 0, .int .i64 0, .int .i64 0, .int .i64 0, .int .u32 0, .int .i64 0, .int .i64 0, .int .i64 0, .int .i64 0, .int .u32 0, .int .i64 0, .int .i64 0, .int .i64 0, .int .i64 0, .int .u32 0] : List Value).toArray (by rfl) (by rfl) HR14.out (by kernel_rfl) (by simp [Value.oneCell']) ?_; generalize hg : World.setCells _ RB 0 _ = w19))
  obtain ⟨B9, F9, l9, hQ9, hG9⟩ := H14.out
  have H19 := Lib.hid (show GS w0 w19 L X nd B9 (RB :: NB :: KB :: A) F9 l9 ∧ GK A w14 w19 ∧ w19.rangeAt RB 0 ([.int .i64 1, .int .i64 r1, .int .u32 0, .int .u32 0, .int .u32 0, .int .u32 0, .int .i64 0, .int .i64 0, .int .i64 0, .int .i64 0, .int .u32 0, .int .i64 0, .int .i64 0, .int .i64 0, .int .i64 0, .int .u32 0, .int .i64 0, .int .i64 0, .int .i64 0, .int .i64 0, .int .u32 0] : List Value) by
    have hlt := H13.out.lt
    have hxs := H13.out.xs
    have hna := H13.out.na
    rw [← hg]
    exact ⟨hG9.cells RB (by simp) (by omega) 0 _, GK.cells (fun hm => by have := hna _ hm; omega) _ _ _, World.rangeAt_setCells_same _ _ 0 ([.int .i64 1, .int .i64 r1, .int .u32 0, .int .u32 0, .int .u32 0, .int .u32 0, .int .i64 0, .int .i64 0, .int .i64 0, .int .i64 0, .int .u32 0, .int .i64 0, .int .i64 0, .int .i64 0, .int .i64 0, .int .u32 0, .int .i64 0, .int .i64 0, .int .i64 0, .int .i64 0, .int .u32 0] : List Value) HR14.out⟩)
  clear hg hG9
  go_wp2_with fail
  have hld := run_loadVar_mid (P := Tryz.prog) w19 RB 0 54 ([.int .i64 1, .int .i64 r1, .int .u32 0, .int .u32 0, .int .u32 0, .int .u32 0, .int .i64 0, .int .i64 0, .int .i64 0, .int .i64 0, .int .u32 0, .int .i64 0, .int .i64 0, .int .i64 0, .int .i64 0, .int .u32 0, .int .i64 0, .int .i64 0, .int .i64 0, .int .i64 0, .int .u32 0] : List Value) _ H19.out.2.2 Tryz.underlying54 rfl (by kernel_rfl)
  (try simp only [Exit.inBlock, Exit.then])
  exact bodyPost_ret (results_cell_tmp (a := 10) (t := 11) (by rfl) _ ⟨RB, 0, none⟩ (by rfl) _ _ _ hld) rfl ⟨rfl, ⟨B9, F9, l9, hQ9, H19.out.1.tail.tail.tail⟩, H13.out.gk.trans (K14.out.tail.tail.tail.trans H19.out.2.1)⟩
end
end Go.Proofs.YtllcakiomihipaaGreatDoor
namespace Go.Proofs.YtllcakiomihipaaGreatDoor
open Go.ChangeShapes Go.WideShapes Go.ChangeAt Go.RowKit
set_option linter.unusedVariables false
set_option linter.unusedSimpArgs false
set_option maxRecDepth 100000 in
set_option maxHeartbeats 4000000 in
theorem oanswer_no6 (s : Nat) (k0 k1 k2 k3 k4 : Int) (r0 r1 r2 r3 r4 : Int) (o a b c : Int) (m0 m1 m2 m3 m4 : Int) (n0 n1 n2 n3 n4 : Int) (p0 p1 p2 p3 p4 : Int) (x0 x1 x2 x3 x4 : Int) (y0 y1 y2 y3 y4 : Int) (z0 z1 z2 z3 z4 : Int) (h5 : r0 = 6) (w : World)
    (hk : (∀ W, Below w.heap.size w W → Calls Tryz.prog 21 #[.pointer (some ⟨s, 0, none⟩), (Value.agg #[.int .i64 k0, .int .i64 k1, .int .i64 k2, .int .i64 k3, .int .u32 k4])] W fun e w' => e = .returned (Value.agg #[.int .i64 r0, .int .i64 r1, .int .i64 r2, .int .i64 r3, .int .u32 r4]) ∧ Below W.heap.size W w')) (hm : (∀ W, Below w.heap.size w W → Calls Tryz.prog 21 #[.pointer (some ⟨s, 0, none⟩), (Value.agg #[.int .i64 m0, .int .i64 m1, .int .i64 m2, .int .i64 m3, .int .u32 m4])] W fun e w' => e = .returned (Value.agg #[.int .i64 x0, .int .i64 x1, .int .i64 x2, .int .i64 x3, .int .u32 x4]) ∧ Below W.heap.size W w')) (hn : (∀ W, Below w.heap.size w W → Calls Tryz.prog 21 #[.pointer (some ⟨s, 0, none⟩), (Value.agg #[.int .i64 n0, .int .i64 n1, .int .i64 n2, .int .i64 n3, .int .u32 n4])] W fun e w' => e = .returned (Value.agg #[.int .i64 y0, .int .i64 y1, .int .i64 y2, .int .i64 y3, .int .u32 y4]) ∧ Below W.heap.size W w')) (hp : (∀ W, Below w.heap.size w W → Calls Tryz.prog 21 #[.pointer (some ⟨s, 0, none⟩), (Value.agg #[.int .i64 p0, .int .i64 p1, .int .i64 p2, .int .i64 p3, .int .u32 p4])] W fun e w' => e = .returned (Value.agg #[.int .i64 z0, .int .i64 z1, .int .i64 z2, .int .i64 z3, .int .u32 z4]) ∧ Below W.heap.size W w')) :
    Calls Tryz.prog 32 #[.pointer (some ⟨s, 0, none⟩), (Value.agg #[.int .i64 k0, .int .i64 k1, .int .i64 k2, .int .i64 k3, .int .u32 k4]), (Value.agg #[.int .u32 o, .int .u32 a, .int .u32 b, .int .u32 c, .int .i64 m0, .int .i64 m1, .int .i64 m2, .int .i64 m3, .int .u32 m4, .int .i64 n0, .int .i64 n1, .int .i64 n2, .int .i64 n3, .int .u32 n4, .int .i64 p0, .int .i64 p1, .int .i64 p2, .int .i64 p3, .int .u32 p4])] w fun e w' => e = .returned (.tuple #[(Value.agg #[.int .u32 0, .int .u32 0, .int .u32 0, .int .u32 0, .int .i64 0, .int .i64 0, .int .i64 0, .int .i64 0, .int .u32 0, .int .i64 0, .int .i64 0, .int .i64 0, .int .i64 0, .int .u32 0, .int .i64 0, .int .i64 0, .int .i64 0, .int .i64 0, .int .u32 0]), .bool false]) ∧ Below w.heap.size w w' := by
  have e5 : (r0 == 5) = false := (by rw [h5]; rfl)
  have e6 : (r0 == 6) = true := (by rw [h5]; rfl)
  clear h5
  have HSk := Lib.hid hk
  have HSm := Lib.hid hm
  have HSn := Lib.hid hn
  have HSp := Lib.hid hp
  clear hk hm hn hp
  go_enter Tryz.func32, Tryz.ntmps32
  go_upto_region 1 with fail
  generalize hA : World.alloc w _ = wa
  obtain ⟨KB, hKB⟩ : ∃ KB, KB = w.heap.size := ⟨_, rfl⟩
  have HK : Hid (Below w.heap.size w wa ∧ KeyC wa KB k0 k1 k2 k3 k4 ∧ wa.heap.size = KB + 1 ∧ w.heap.size ≤ KB) := Lib.hid (by rw [← hA, hKB]; exact ⟨(Below.refl _ _).alloc (Nat.le_refl _) _, KeyC.new w k0 k1 k2 k3 k4 _, by simp, Nat.le_refl _⟩)
  rw [← hKB]
  clear hA hKB
  generalize hA : World.alloc wa _ = wb
  obtain ⟨J, hJ⟩ : ∃ J, J = KB + 1 := ⟨_, rfl⟩
  have HJ : Hid (Below w.heap.size w wb ∧ KeyC wb KB k0 k1 k2 k3 k4 ∧ wb.rangeAt J 0 ([.int .u32 o, .int .u32 a, .int .u32 b, .int .u32 c, .int .i64 m0, .int .i64 m1, .int .i64 m2, .int .i64 m3, .int .u32 m4, .int .i64 n0, .int .i64 n1, .int .i64 n2, .int .i64 n3, .int .u32 n4, .int .i64 p0, .int .i64 p1, .int .i64 p2, .int .i64 p3, .int .u32 p4] : List Value) ∧ wb.heap.size = J + 1 ∧ w.heap.size ≤ J) := Lib.hid (by rw [← hA, hJ, ← HK.out.2.2.1]; exact ⟨HK.out.1.alloc HK.out.1.size _, HK.out.2.1.below ((Below.refl _ _).alloc (Nat.le_refl _) _), cbox _ _ _, by simp, HK.out.1.size⟩)
  rw [← hJ]
  clear hA hJ
  generalize hA : World.alloc wb _ = wd
  obtain ⟨R, hR⟩ : ∃ R, R = J + 1 := ⟨_, rfl⟩
  have HR : Hid (Below w.heap.size w wd ∧ KeyC wd KB k0 k1 k2 k3 k4 ∧ wd.rangeAt J 0 ([.int .u32 o, .int .u32 a, .int .u32 b, .int .u32 c, .int .i64 m0, .int .i64 m1, .int .i64 m2, .int .i64 m3, .int .u32 m4, .int .i64 n0, .int .i64 n1, .int .i64 n2, .int .i64 n3, .int .u32 n4, .int .i64 p0, .int .i64 p1, .int .i64 p2, .int .i64 p3, .int .u32 p4] : List Value) ∧ World.there wd R 0 19 ∧ J < R ∧ R < wd.heap.size ∧ w.heap.size ≤ R) := Lib.hid (by rw [← hA, hR, ← HJ.out.2.2.2.1]; exact ⟨HJ.out.1.alloc HJ.out.1.size _, HJ.out.2.1.below ((Below.refl _ _).alloc (Nat.le_refl _) _), range_below HJ.out.2.2.1 ((Below.refl _ _).alloc (Nat.le_refl _) _) (by have := HJ.out.2.2.2.1; omega), nthere_new _ _ 19 (by rfl) _, by have := HJ.out.2.2.2.1; omega, by simp, HJ.out.1.size⟩)
  rw [← hR]
  clear hA hR
  go_cut [8] (fun u wx => ∃ C, u = .pointer (some ⟨C, 0, none⟩) ∧ Below wd.heap.size wd wx ∧ wx.rangeAt C 0 ([.pointer (some ⟨s, 0, none⟩), .int .i64 r0, .int .i64 r1, .int .i64 r2, .int .i64 r3, .int .u32 r4, .int .u32 o, .int .u32 a, .int .u32 b, .int .u32 c, .int .i64 m0, .int .i64 m1, .int .i64 m2, .int .i64 m3, .int .u32 m4, .int .i64 n0, .int .i64 n1, .int .i64 n2, .int .i64 n3, .int .u32 n4, .int .i64 p0, .int .i64 p1, .int .i64 p2, .int .i64 p3, .int .u32 p4] : List Value) ∧ World.there wx C 0 25 ∧ wd.heap.size ≤ C ∧ C < wx.heap.size)
  case first =>
    obtain ⟨wD, hwD⟩ : ∃ wD, wD = wd.drew := ⟨_, rfl⟩
    have HBd : Hid (Below wd.heap.size wd wD) := Lib.hid (by rw [hwD]; exact (Below.refl _ _).drew)
    have HS1 : Hid (∀ W, Below wd.heap.size wd W → ((World.cell? W ⟨KB, 0, none⟩ = some (.int .i64 k0) ∧ World.cell? W ⟨KB, 1, none⟩ = some (.int .i64 k1) ∧ World.cell? W ⟨KB, 2, none⟩ = some (.int .i64 k2) ∧ World.cell? W ⟨KB, 3, none⟩ = some (.int .i64 k3) ∧ World.cell? W ⟨KB, 4, none⟩ = some (.int .u32 k4)) ∧ World.rangeAt W J 0 ([.int .u32 o, .int .u32 a, .int .u32 b, .int .u32 c, .int .i64 m0, .int .i64 m1, .int .i64 m2, .int .i64 m3, .int .u32 m4, .int .i64 n0, .int .i64 n1, .int .i64 n2, .int .i64 n3, .int .u32 n4, .int .i64 p0, .int .i64 p1, .int .i64 p2, .int .i64 p3, .int .u32 p4] : List Value))) := Lib.hid (fun W hW => ⟨ofive (HR.out.2.1.below hW), range_below HR.out.2.2.1 hW (Nat.lt_trans HR.out.2.2.2.2.1 HR.out.2.2.2.2.2.1)⟩)
    refine wp_region_noPanic ?_
    refine wp_region_held_drew (S := fun w' => ((World.cell? w' ⟨KB, 0, none⟩ = some (.int .i64 k0) ∧ World.cell? w' ⟨KB, 1, none⟩ = some (.int .i64 k1) ∧ World.cell? w' ⟨KB, 2, none⟩ = some (.int .i64 k2) ∧ World.cell? w' ⟨KB, 3, none⟩ = some (.int .i64 k3) ∧ World.cell? w' ⟨KB, 4, none⟩ = some (.int .u32 k4)) ∧ World.rangeAt w' J 0 ([.int .u32 o, .int .u32 a, .int .u32 b, .int .u32 c, .int .i64 m0, .int .i64 m1, .int .i64 m2, .int .i64 m3, .int .u32 m4, .int .i64 n0, .int .i64 n1, .int .i64 n2, .int .i64 n3, .int .u32 n4, .int .i64 p0, .int .i64 p1, .int .i64 p2, .int .i64 p3, .int .u32 p4] : List Value))) (by kernel_rfl) (by rw [← hwD]; exact HS1.out _ HBd.out) (fun hHeld => ?_)
    rw [← hwD] at hHeld ⊢
    clear hwD
    refine wpAnyH_take (i := 0) (v := ?_) (by rfl) (by kernel_rfl) (by kernel_rfl) (by kernel_rfl) (fun _ _ _ h => h) (Or.inl ⟨by kernel_rfl, ?_⟩) (by assumption) ?_; rotate_left 1; (focus (intro w hSw; (try dsimp only at hSw); simp only [List.getElem_toArray, List.getElem_cons_succ, List.getElem_cons_zero]; all_goals go_simp; all_goals (try with_reducible rfl))); (try simp only [Act.put, List.getElem_toArray, List.getElem_cons_succ, List.getElem_cons_zero, List.setIfInBounds_toArray, List.set_cons_zero, List.set_cons_succ])
    refine wpAnyH_take (i := 1) (v := ?_) (by rfl) (by kernel_rfl) (by kernel_rfl) (by kernel_rfl) (fun _ _ _ h => h) (Or.inl ⟨by kernel_rfl, ?_⟩) (by assumption) ?_; rotate_left 1; (focus (intro w hSw; (try dsimp only at hSw); simp only [List.getElem_toArray, List.getElem_cons_succ, List.getElem_cons_zero]; all_goals go_simp; all_goals (try with_reducible rfl))); (try simp only [Act.put, List.getElem_toArray, List.getElem_cons_succ, List.getElem_cons_zero, List.setIfInBounds_toArray, List.set_cons_zero, List.set_cons_succ])
    refine wpAnyH_take (i := 2) (v := ?_) (by rfl) (by kernel_rfl) (by kernel_rfl) (by kernel_rfl) (fun _ _ _ h => h) (Or.inl ⟨by kernel_rfl, ?_⟩) (by assumption) ?_; rotate_left 1; (focus (intro w hSw; (try dsimp only at hSw); simp only [List.getElem_toArray, List.getElem_cons_succ, List.getElem_cons_zero]; all_goals go_simp; all_goals (try with_reducible rfl))); (try simp only [Act.put, List.getElem_toArray, List.getElem_cons_succ, List.getElem_cons_zero, List.setIfInBounds_toArray, List.set_cons_zero, List.set_cons_succ])
    refine wpAnyH_take (i := 4) (v := (Value.agg #[.int .u32 o, .int .u32 a, .int .u32 b, .int .u32 c, .int .i64 m0, .int .i64 m1, .int .i64 m2, .int .i64 m3, .int .u32 m4, .int .i64 n0, .int .i64 n1, .int .i64 n2, .int .i64 n3, .int .u32 n4, .int .i64 p0, .int .i64 p1, .int .i64 p2, .int .i64 p3, .int .u32 p4])) (by rfl) (by kernel_rfl) (by kernel_rfl) (by kernel_rfl) (fun _ _ _ h => h) (Or.inl ⟨by kernel_rfl, ?_⟩) (by assumption) ?_
    focus
      intro w hSw
      exact nload_exec (Operand.tmp 5) (by rfl) (by rfl) (by rfl) hSw.2
    (try simp only [Act.put, List.getElem_toArray, List.getElem_cons_succ, List.getElem_cons_zero, List.setIfInBounds_toArray, List.set_cons_zero, List.set_cons_succ])
    refine wpAnyH_ready (rs := [3, 6]) (by kernel_rfl) (by simp) ?_
    refine AllReadyH.cons (by rfl) (fun K1 hK => ?_) (AllReadyH.cons (by rfl) (fun K1 hK => ?_) AllReadyH.nil)
    · rw [if_pos (by kernel_rfl)]; simp only [List.getElem_toArray, List.getElem_cons_succ, List.getElem_cons_zero]
      go_wp2_with (first | (go_at_call 21; (with_reducible refine (HSk.out _ (HR.out.1.trans (HBd.out.mono HR.out.1.size))).mono ?_); rintro e w2 ⟨rfl, hb⟩; have HB2 := Lib.hid (HBd.out.trans (hb.mono HBd.out.size)); clear hb))
      refine hK.out _ _ (HS1.out _ HB2.out) (fun hHeld => ?_)
      clear hK K1
      (try simp only [Act.put, List.getElem_toArray, List.getElem_cons_succ, List.getElem_cons_zero, List.setIfInBounds_toArray, List.set_cons_zero, List.set_cons_succ])
      refine wpAnyH_take (i := 5) (v := ?_) (by rfl) (by kernel_rfl) (by kernel_rfl) (by kernel_rfl) (fun _ _ _ h => h) (Or.inl ⟨by kernel_rfl, ?_⟩) (by assumption) ?_; rotate_left 1; (focus (intro w hSw; (try dsimp only at hSw); simp only [List.getElem_toArray, List.getElem_cons_succ, List.getElem_cons_zero]; all_goals go_simp; all_goals (try with_reducible rfl))); (try simp only [Act.put, List.getElem_toArray, List.getElem_cons_succ, List.getElem_cons_zero, List.setIfInBounds_toArray, List.set_cons_zero, List.set_cons_succ])
      refine wpAnyH_ready (rs := [6]) (by kernel_rfl) (by simp) ?_; refine AllReadyH.cons (by rfl) (fun K hK => ?_) AllReadyH.nil; rw [if_pos (by kernel_rfl)]; simp only [List.getElem_toArray, List.getElem_cons_succ, List.getElem_cons_zero]
      go_wp2_with fail
      generalize hE : World.alloc w2 _ = wE
      obtain ⟨C, hC⟩ : ∃ C, C = w2.heap.size := ⟨_, rfl⟩
      have HE : Hid (Below wd.heap.size wd wE ∧ World.there wE C 0 25 ∧ wd.heap.size ≤ C ∧ C < wE.heap.size) := Lib.hid (by rw [← hE, hC]; exact ⟨HB2.out.alloc HB2.out.size _, nthere_new _ _ 25 (by rfl) _, HB2.out.size, by simp⟩)
      rw [← hC]
      clear hE hC
      refine hK.out _ _ (HS1.out _ HE.out.1) (fun hHeld => ?_)
      clear hK K
      (try simp only [Act.put, List.getElem_toArray, List.getElem_cons_succ, List.getElem_cons_zero, List.setIfInBounds_toArray, List.set_cons_zero, List.set_cons_succ])
      refine wpAnyH_ready (rs := [7]) (by kernel_rfl) (by simp) ?_; refine AllReadyH.cons (by rfl) (fun K hK => ?_) AllReadyH.nil; rw [if_pos (by kernel_rfl)]; simp only [List.getElem_toArray, List.getElem_cons_succ, List.getElem_cons_zero]
      refine wp_store_mid 142 (Operand.tmp 8) (Operand.tmp 16) (by rfl) C 0 ([.pointer (some ⟨s, 0, none⟩), .int .i64 r0, .int .i64 r1, .int .i64 r2, .int .i64 r3, .int .u32 r4, .int .u32 o, .int .u32 a, .int .u32 b, .int .u32 c, .int .i64 m0, .int .i64 m1, .int .i64 m2, .int .i64 m3, .int .u32 m4, .int .i64 n0, .int .i64 n1, .int .i64 n2, .int .i64 n3, .int .u32 n4, .int .i64 p0, .int .i64 p1, .int .i64 p2, .int .i64 p3, .int .u32 p4] : List Value).toArray (by rfl) (by rfl) HE.out.2.1 infoCall (c25_one _ _ _ _ _ _ _ _ _ _ _ _ _ _ _ _ _ _ _ _ _ _ _ _ _) ?_
      generalize hF : World.setCells wE _ _ _ = wF
      have HF : Hid (Below wd.heap.size wd wF ∧ wF.rangeAt C 0 ([.pointer (some ⟨s, 0, none⟩), .int .i64 r0, .int .i64 r1, .int .i64 r2, .int .i64 r3, .int .u32 r4, .int .u32 o, .int .u32 a, .int .u32 b, .int .u32 c, .int .i64 m0, .int .i64 m1, .int .i64 m2, .int .i64 m3, .int .u32 m4, .int .i64 n0, .int .i64 n1, .int .i64 n2, .int .i64 n3, .int .u32 n4, .int .i64 p0, .int .i64 p1, .int .i64 p2, .int .i64 p3, .int .u32 p4] : List Value) ∧ World.there wF C 0 25) := Lib.hid (by rw [← hF]; exact ⟨nbelow_cells HE.out.1 HE.out.2.2.1 _ _, World.rangeAt_setCells_same wE C 0 ([.pointer (some ⟨s, 0, none⟩), .int .i64 r0, .int .i64 r1, .int .i64 r2, .int .i64 r3, .int .u32 r4, .int .u32 o, .int .u32 a, .int .u32 b, .int .u32 c, .int .i64 m0, .int .i64 m1, .int .i64 m2, .int .i64 m3, .int .u32 m4, .int .i64 n0, .int .i64 n1, .int .i64 n2, .int .i64 n3, .int .u32 n4, .int .i64 p0, .int .i64 p1, .int .i64 p2, .int .i64 p3, .int .u32 p4] : List Value) HE.out.2.1, World.there_setCells HE.out.2.1 _ _ _⟩)
      clear hF
      refine hK.out _ _ (HS1.out _ HF.out.1) (fun hHeld => ?_)
      clear hK K
      (try simp only [Act.put, List.getElem_toArray, List.getElem_cons_succ, List.getElem_cons_zero, List.setIfInBounds_toArray, List.set_cons_zero, List.set_cons_succ])
      refine wpAnyH_done (by kernel_rfl) ?_ _
      refine NoPanic.normal ?_
      go_wp2_with fail
      go_meet
      exact ⟨C, rfl, HF.out.1, HF.out.2.1, HF.out.2.2, HE.out.2.2.1, cell_lt (CallC.cell HF.out.2.1 0 _ rfl)⟩
    · rw [if_pos (by kernel_rfl)]; simp only [List.getElem_toArray, List.getElem_cons_succ, List.getElem_cons_zero]
      go_wp2_with fail
      generalize hE : World.alloc wD _ = wE
      obtain ⟨C, hC⟩ : ∃ C, C = wD.heap.size := ⟨_, rfl⟩
      have HE : Hid (Below wd.heap.size wd wE ∧ World.there wE C 0 25 ∧ wd.heap.size ≤ C ∧ C < wE.heap.size) := Lib.hid (by rw [← hE, hC]; exact ⟨HBd.out.alloc HBd.out.size _, nthere_new _ _ 25 (by rfl) _, HBd.out.size, by simp⟩)
      rw [← hC]
      clear hE hC
      refine hK.out _ _ (HS1.out _ HE.out.1) (fun hHeld => ?_)
      clear hK K1
      (try simp only [Act.put, List.getElem_toArray, List.getElem_cons_succ, List.getElem_cons_zero, List.setIfInBounds_toArray, List.set_cons_zero, List.set_cons_succ])
      refine wpAnyH_ready (rs := [3]) (by kernel_rfl) (by simp) ?_; refine AllReadyH.cons (by rfl) (fun K hK => ?_) AllReadyH.nil; rw [if_pos (by kernel_rfl)]; simp only [List.getElem_toArray, List.getElem_cons_succ, List.getElem_cons_zero]
      go_wp2_with (first | (go_at_call 21; (with_reducible refine (HSk.out _ (HR.out.1.trans (HE.out.1.mono HR.out.1.size))).mono ?_); rintro e w2 ⟨rfl, hb⟩; have HB2 : Hid (Below wd.heap.size wd w2 ∧ World.there w2 C 0 25) := Lib.hid ⟨HE.out.1.trans (hb.mono HE.out.1.size), nthere_below HE.out.2.1 hb HE.out.2.2.2⟩; clear hb))
      refine hK.out _ _ (HS1.out _ HB2.out.1) (fun hHeld => ?_)
      clear hK K
      (try simp only [Act.put, List.getElem_toArray, List.getElem_cons_succ, List.getElem_cons_zero, List.setIfInBounds_toArray, List.set_cons_zero, List.set_cons_succ])
      refine wpAnyH_take (i := 5) (v := ?_) (by rfl) (by kernel_rfl) (by kernel_rfl) (by kernel_rfl) (fun _ _ _ h => h) (Or.inl ⟨by kernel_rfl, ?_⟩) (by assumption) ?_; rotate_left 1; (focus (intro w hSw; (try dsimp only at hSw); simp only [List.getElem_toArray, List.getElem_cons_succ, List.getElem_cons_zero]; all_goals go_simp; all_goals (try with_reducible rfl))); (try simp only [Act.put, List.getElem_toArray, List.getElem_cons_succ, List.getElem_cons_zero, List.setIfInBounds_toArray, List.set_cons_zero, List.set_cons_succ])
      refine wpAnyH_ready (rs := [7]) (by kernel_rfl) (by simp) ?_; refine AllReadyH.cons (by rfl) (fun K hK => ?_) AllReadyH.nil; rw [if_pos (by kernel_rfl)]; simp only [List.getElem_toArray, List.getElem_cons_succ, List.getElem_cons_zero]
      refine wp_store_mid 142 (Operand.tmp 8) (Operand.tmp 16) (by rfl) C 0 ([.pointer (some ⟨s, 0, none⟩), .int .i64 r0, .int .i64 r1, .int .i64 r2, .int .i64 r3, .int .u32 r4, .int .u32 o, .int .u32 a, .int .u32 b, .int .u32 c, .int .i64 m0, .int .i64 m1, .int .i64 m2, .int .i64 m3, .int .u32 m4, .int .i64 n0, .int .i64 n1, .int .i64 n2, .int .i64 n3, .int .u32 n4, .int .i64 p0, .int .i64 p1, .int .i64 p2, .int .i64 p3, .int .u32 p4] : List Value).toArray (by rfl) (by rfl) HB2.out.2 infoCall (c25_one _ _ _ _ _ _ _ _ _ _ _ _ _ _ _ _ _ _ _ _ _ _ _ _ _) ?_
      generalize hF : World.setCells w2 _ _ _ = wF
      have HF : Hid (Below wd.heap.size wd wF ∧ wF.rangeAt C 0 ([.pointer (some ⟨s, 0, none⟩), .int .i64 r0, .int .i64 r1, .int .i64 r2, .int .i64 r3, .int .u32 r4, .int .u32 o, .int .u32 a, .int .u32 b, .int .u32 c, .int .i64 m0, .int .i64 m1, .int .i64 m2, .int .i64 m3, .int .u32 m4, .int .i64 n0, .int .i64 n1, .int .i64 n2, .int .i64 n3, .int .u32 n4, .int .i64 p0, .int .i64 p1, .int .i64 p2, .int .i64 p3, .int .u32 p4] : List Value) ∧ World.there wF C 0 25) := Lib.hid (by rw [← hF]; exact ⟨nbelow_cells HB2.out.1 HE.out.2.2.1 _ _, World.rangeAt_setCells_same w2 C 0 ([.pointer (some ⟨s, 0, none⟩), .int .i64 r0, .int .i64 r1, .int .i64 r2, .int .i64 r3, .int .u32 r4, .int .u32 o, .int .u32 a, .int .u32 b, .int .u32 c, .int .i64 m0, .int .i64 m1, .int .i64 m2, .int .i64 m3, .int .u32 m4, .int .i64 n0, .int .i64 n1, .int .i64 n2, .int .i64 n3, .int .u32 n4, .int .i64 p0, .int .i64 p1, .int .i64 p2, .int .i64 p3, .int .u32 p4] : List Value) HB2.out.2, World.there_setCells HB2.out.2 _ _ _⟩)
      clear hF
      refine hK.out _ _ (HS1.out _ HF.out.1) (fun hHeld => ?_)
      clear hK K
      (try simp only [Act.put, List.getElem_toArray, List.getElem_cons_succ, List.getElem_cons_zero, List.setIfInBounds_toArray, List.set_cons_zero, List.set_cons_succ])
      refine wpAnyH_done (by kernel_rfl) ?_ _
      refine NoPanic.normal ?_
      go_wp2_with fail
      go_meet
      exact ⟨C, rfl, HF.out.1, HF.out.2.1, HF.out.2.2, HE.out.2.2.1, cell_lt (CallC.cell HF.out.2.1 0 _ rfl)⟩
  case rest =>
    obtain ⟨C, rfl, hb, hr, ht, hC1, hC2⟩ := hcut
    have HC := Lib.hid (⟨HR.out.1.trans (hb.mono HR.out.1.size), hr, ht, Nat.le_trans HR.out.1.size hC1, nthere_below HR.out.2.2.2.1 hb HR.out.2.2.2.2.2.1, Nat.lt_of_lt_of_le HR.out.2.2.2.2.2.1 hC1, hC2⟩ : Below w.heap.size w wc ∧ wc.rangeAt C 0 ([.pointer (some ⟨s, 0, none⟩), .int .i64 r0, .int .i64 r1, .int .i64 r2, .int .i64 r3, .int .u32 r4, .int .u32 o, .int .u32 a, .int .u32 b, .int .u32 c, .int .i64 m0, .int .i64 m1, .int .i64 m2, .int .i64 m3, .int .u32 m4, .int .i64 n0, .int .i64 n1, .int .i64 n2, .int .i64 n3, .int .u32 n4, .int .i64 p0, .int .i64 p1, .int .i64 p2, .int .i64 p3, .int .u32 p4] : List Value) ∧ World.there wc C 0 25 ∧ w.heap.size ≤ C ∧ World.there wc R 0 19 ∧ R < C ∧ C < wc.heap.size)
    have HJ4 : Hid (wc.rangeAt J 4 ([.int .i64 m0, .int .i64 m1, .int .i64 m2, .int .i64 m3, .int .u32 m4, .int .i64 n0, .int .i64 n1, .int .i64 n2, .int .i64 n3, .int .u32 n4, .int .i64 p0, .int .i64 p1, .int .i64 p2, .int .i64 p3, .int .u32 p4] : List Value)) := Lib.hid (range_drop (k := 4) (range_below HR.out.2.2.1 hb (Nat.lt_trans HR.out.2.2.2.2.1 HR.out.2.2.2.2.2.1)))
    clear hb hr ht hC1 hC2
    have hi0 : ∀ W, (Instr.index 50 (.agg ([.int .i64 m0, .int .i64 m1, .int .i64 m2, .int .i64 m3, .int .u32 m4, .int .i64 n0, .int .i64 n1, .int .i64 n2, .int .i64 n3, .int .u32 n4, .int .i64 p0, .int .i64 p1, .int .i64 p2, .int .i64 p3, .int .u32 p4] : List Value).toArray) (.int .i64 0)).run Tryz.prog W = .ok (Value.agg #[.int .i64 m0, .int .i64 m1, .int .i64 m2, .int .i64 m3, .int .u32 m4]) W := by intro W; kernel_rfl
    have hi1 : ∀ W, (Instr.index 50 (.agg ([.int .i64 m0, .int .i64 m1, .int .i64 m2, .int .i64 m3, .int .u32 m4, .int .i64 n0, .int .i64 n1, .int .i64 n2, .int .i64 n3, .int .u32 n4, .int .i64 p0, .int .i64 p1, .int .i64 p2, .int .i64 p3, .int .u32 p4] : List Value).toArray) (.int .i64 1)).run Tryz.prog W = .ok (Value.agg #[.int .i64 n0, .int .i64 n1, .int .i64 n2, .int .i64 n3, .int .u32 n4]) W := by intro W; kernel_rfl
    have hi2 : ∀ W, (Instr.index 50 (.agg ([.int .i64 m0, .int .i64 m1, .int .i64 m2, .int .i64 m3, .int .u32 m4, .int .i64 n0, .int .i64 n1, .int .i64 n2, .int .i64 n3, .int .u32 n4, .int .i64 p0, .int .i64 p1, .int .i64 p2, .int .i64 p3, .int .u32 p4] : List Value).toArray) (.int .i64 2)).run Tryz.prog W = .ok (Value.agg #[.int .i64 p0, .int .i64 p1, .int .i64 p2, .int .i64 p3, .int .u32 p4]) W := by intro W; kernel_rfl
    go_wp2_with (first
      | (refine wpList_load_mid (by rfl) _ _ (by rfl) J 4 (by rfl) ([.int .i64 m0, .int .i64 m1, .int .i64 m2, .int .i64 m3, .int .u32 m4, .int .i64 n0, .int .i64 n1, .int .i64 n2, .int .i64 n3, .int .u32 n4, .int .i64 p0, .int .i64 p1, .int .i64 p2, .int .i64 p3, .int .u32 p4] : List Value) _ HJ4.out Tryz.underlying50 rfl (by kernel_rfl) ?_))
    refine wp_loop_rounds 4 ?_
    rw [rounds_succ]
    go_upto_region 5 with fail; generalize hA : World.alloc wc _ = wg; obtain ⟨XB, hXB⟩ : ∃ XB, XB = wc.heap.size := ⟨_, rfl⟩; have HG : Hid (Below wc.heap.size wc wg ∧ KeyC wg XB m0 m1 m2 m3 m4 ∧ World.rangeAt wg C 0 ([.pointer (some ⟨s, 0, none⟩), .int .i64 r0, .int .i64 r1, .int .i64 r2, .int .i64 r3, .int .u32 r4, .int .u32 o, .int .u32 a, .int .u32 b, .int .u32 c, .int .i64 m0, .int .i64 m1, .int .i64 m2, .int .i64 m3, .int .u32 m4, .int .i64 n0, .int .i64 n1, .int .i64 n2, .int .i64 n3, .int .u32 n4, .int .i64 p0, .int .i64 p1, .int .i64 p2, .int .i64 p3, .int .u32 p4] : List Value) ∧ World.there wg C 0 25 ∧ Below w.heap.size w wg ∧ C < wg.heap.size) := Lib.hid (by rw [← hA, hXB]; exact ⟨(Below.refl _ _).alloc (Nat.le_refl _) _, KeyC.new _ _ _ _ _ _ _, range_below (HC).out.2.1 ((Below.refl _ _).alloc (Nat.le_refl _) _) (HC).out.2.2.2.2.2.2, nthere_below (HC).out.2.2.1 ((Below.refl _ _).alloc (Nat.le_refl _) _) (HC).out.2.2.2.2.2.2, (HC).out.1.trans (Below.mono ((Below.refl _ _).alloc (Nat.le_refl _) _) (HC).out.1.size), Nat.lt_of_lt_of_le (HC).out.2.2.2.2.2.2 (by simp)⟩); rw [← hXB]; clear hA hXB; obtain ⟨q0, q1, q2, q3, q4⟩ := ofive (HG).out.2.1; go_upto_region 6 with (first | (go_at_call 21; (with_reducible refine ((HSm).out _ (HG).out.2.2.2.2.1).mono ?_); rintro e wg2 ⟨rfl, hb⟩; have HGx : Hid (Below w.heap.size w wg2 ∧ World.rangeAt wg2 C 0 ([.pointer (some ⟨s, 0, none⟩), .int .i64 r0, .int .i64 r1, .int .i64 r2, .int .i64 r3, .int .u32 r4, .int .u32 o, .int .u32 a, .int .u32 b, .int .u32 c, .int .i64 m0, .int .i64 m1, .int .i64 m2, .int .i64 m3, .int .u32 m4, .int .i64 n0, .int .i64 n1, .int .i64 n2, .int .i64 n3, .int .u32 n4, .int .i64 p0, .int .i64 p1, .int .i64 p2, .int .i64 p3, .int .u32 p4] : List Value) ∧ World.there wg2 C 0 25 ∧ World.there wg2 R 0 19) := (Lib.hid ⟨(HG).out.2.2.2.2.1.trans (hb.mono (HG).out.2.2.2.2.1.size), range_below (HG).out.2.2.1 hb (HG).out.2.2.2.2.2, nthere_below (HG).out.2.2.2.1 hb (HG).out.2.2.2.2.2, nthere_below (HC).out.2.2.2.2.1 ((HG).out.1.trans (hb.mono (HG).out.1.size)) (Nat.lt_trans (HC).out.2.2.2.2.2.1 (HC).out.2.2.2.2.2.2)⟩); clear hb q0 q1 q2 q3 q4) | (refine wpList_store_mid (by rfl) _ _ _ (by rfl) C 10 ([.int .i64 x0, .int .i64 x1, .int .i64 x2, .int .i64 x3, .int .u32 x4] : List Value).toArray (by rfl) (by rfl) (there_part (HGx).out.2.2.1 10 (by decide)) infoK5 (akey_one _ _ _ _ _) ?_)); generalize hA : World.setCells wg2 _ _ _ = wh; have HH : Hid (Below w.heap.size w wh ∧ World.rangeAt wh C 0 ([.pointer (some ⟨s, 0, none⟩), .int .i64 r0, .int .i64 r1, .int .i64 r2, .int .i64 r3, .int .u32 r4, .int .u32 o, .int .u32 a, .int .u32 b, .int .u32 c, .int .i64 x0, .int .i64 x1, .int .i64 x2, .int .i64 x3, .int .u32 x4, .int .i64 n0, .int .i64 n1, .int .i64 n2, .int .i64 n3, .int .u32 n4, .int .i64 p0, .int .i64 p1, .int .i64 p2, .int .i64 p3, .int .u32 p4] : List Value) ∧ World.there wh C 0 25 ∧ w.heap.size ≤ C ∧ World.there wh R 0 19 ∧ R < C ∧ C < wh.heap.size) := (Lib.hid (by rw [← hA]; exact ⟨nbelow_cells (HGx).out.1 (HC).out.2.2.2.1 _ _, range_set5 (HGx).out.2.1 10 _ _ _ _ _, World.there_setCells (HGx).out.2.2.1 _ _ _, (HC).out.2.2.2.1, World.there_setCells (HGx).out.2.2.2 _ _ _, (HC).out.2.2.2.2.2.1, cell_lt (CallC.cell (range_set5 (HGx).out.2.1 10 _ _ _ _ _) 0 _ rfl)⟩)); clear hA; go_wp2_with fail
    rw [rounds_succ]
    go_upto_region 5 with fail; generalize hA : World.alloc wh _ = wi; obtain ⟨XB, hXB⟩ : ∃ XB, XB = wh.heap.size := ⟨_, rfl⟩; have HI : Hid (Below wh.heap.size wh wi ∧ KeyC wi XB n0 n1 n2 n3 n4 ∧ World.rangeAt wi C 0 ([.pointer (some ⟨s, 0, none⟩), .int .i64 r0, .int .i64 r1, .int .i64 r2, .int .i64 r3, .int .u32 r4, .int .u32 o, .int .u32 a, .int .u32 b, .int .u32 c, .int .i64 x0, .int .i64 x1, .int .i64 x2, .int .i64 x3, .int .u32 x4, .int .i64 n0, .int .i64 n1, .int .i64 n2, .int .i64 n3, .int .u32 n4, .int .i64 p0, .int .i64 p1, .int .i64 p2, .int .i64 p3, .int .u32 p4] : List Value) ∧ World.there wi C 0 25 ∧ Below w.heap.size w wi ∧ C < wi.heap.size) := Lib.hid (by rw [← hA, hXB]; exact ⟨(Below.refl _ _).alloc (Nat.le_refl _) _, KeyC.new _ _ _ _ _ _ _, range_below (HH).out.2.1 ((Below.refl _ _).alloc (Nat.le_refl _) _) (HH).out.2.2.2.2.2.2, nthere_below (HH).out.2.2.1 ((Below.refl _ _).alloc (Nat.le_refl _) _) (HH).out.2.2.2.2.2.2, (HH).out.1.trans (Below.mono ((Below.refl _ _).alloc (Nat.le_refl _) _) (HH).out.1.size), Nat.lt_of_lt_of_le (HH).out.2.2.2.2.2.2 (by simp)⟩); rw [← hXB]; clear hA hXB; obtain ⟨q0, q1, q2, q3, q4⟩ := ofive (HI).out.2.1; go_upto_region 6 with (first | (go_at_call 21; (with_reducible refine ((HSn).out _ (HI).out.2.2.2.2.1).mono ?_); rintro e wi2 ⟨rfl, hb⟩; have HIx : Hid (Below w.heap.size w wi2 ∧ World.rangeAt wi2 C 0 ([.pointer (some ⟨s, 0, none⟩), .int .i64 r0, .int .i64 r1, .int .i64 r2, .int .i64 r3, .int .u32 r4, .int .u32 o, .int .u32 a, .int .u32 b, .int .u32 c, .int .i64 x0, .int .i64 x1, .int .i64 x2, .int .i64 x3, .int .u32 x4, .int .i64 n0, .int .i64 n1, .int .i64 n2, .int .i64 n3, .int .u32 n4, .int .i64 p0, .int .i64 p1, .int .i64 p2, .int .i64 p3, .int .u32 p4] : List Value) ∧ World.there wi2 C 0 25 ∧ World.there wi2 R 0 19) := (Lib.hid ⟨(HI).out.2.2.2.2.1.trans (hb.mono (HI).out.2.2.2.2.1.size), range_below (HI).out.2.2.1 hb (HI).out.2.2.2.2.2, nthere_below (HI).out.2.2.2.1 hb (HI).out.2.2.2.2.2, nthere_below (HH).out.2.2.2.2.1 ((HI).out.1.trans (hb.mono (HI).out.1.size)) (Nat.lt_trans (HH).out.2.2.2.2.2.1 (HH).out.2.2.2.2.2.2)⟩); clear hb q0 q1 q2 q3 q4) | (refine wpList_store_mid (by rfl) _ _ _ (by rfl) C 15 ([.int .i64 y0, .int .i64 y1, .int .i64 y2, .int .i64 y3, .int .u32 y4] : List Value).toArray (by rfl) (by rfl) (there_part (HIx).out.2.2.1 15 (by decide)) infoK5 (akey_one _ _ _ _ _) ?_)); generalize hA : World.setCells wi2 _ _ _ = wj; have HJ2 : Hid (Below w.heap.size w wj ∧ World.rangeAt wj C 0 ([.pointer (some ⟨s, 0, none⟩), .int .i64 r0, .int .i64 r1, .int .i64 r2, .int .i64 r3, .int .u32 r4, .int .u32 o, .int .u32 a, .int .u32 b, .int .u32 c, .int .i64 x0, .int .i64 x1, .int .i64 x2, .int .i64 x3, .int .u32 x4, .int .i64 y0, .int .i64 y1, .int .i64 y2, .int .i64 y3, .int .u32 y4, .int .i64 p0, .int .i64 p1, .int .i64 p2, .int .i64 p3, .int .u32 p4] : List Value) ∧ World.there wj C 0 25 ∧ w.heap.size ≤ C ∧ World.there wj R 0 19 ∧ R < C ∧ C < wj.heap.size) := (Lib.hid (by rw [← hA]; exact ⟨nbelow_cells (HIx).out.1 (HH).out.2.2.2.1 _ _, range_set5 (HIx).out.2.1 15 _ _ _ _ _, World.there_setCells (HIx).out.2.2.1 _ _ _, (HH).out.2.2.2.1, World.there_setCells (HIx).out.2.2.2 _ _ _, (HH).out.2.2.2.2.2.1, cell_lt (CallC.cell (range_set5 (HIx).out.2.1 15 _ _ _ _ _) 0 _ rfl)⟩)); clear hA; go_wp2_with fail
    rw [rounds_succ]
    go_upto_region 5 with fail; generalize hA : World.alloc wj _ = wk; obtain ⟨XB, hXB⟩ : ∃ XB, XB = wj.heap.size := ⟨_, rfl⟩; have HL : Hid (Below wj.heap.size wj wk ∧ KeyC wk XB p0 p1 p2 p3 p4 ∧ World.rangeAt wk C 0 ([.pointer (some ⟨s, 0, none⟩), .int .i64 r0, .int .i64 r1, .int .i64 r2, .int .i64 r3, .int .u32 r4, .int .u32 o, .int .u32 a, .int .u32 b, .int .u32 c, .int .i64 x0, .int .i64 x1, .int .i64 x2, .int .i64 x3, .int .u32 x4, .int .i64 y0, .int .i64 y1, .int .i64 y2, .int .i64 y3, .int .u32 y4, .int .i64 p0, .int .i64 p1, .int .i64 p2, .int .i64 p3, .int .u32 p4] : List Value) ∧ World.there wk C 0 25 ∧ Below w.heap.size w wk ∧ C < wk.heap.size) := Lib.hid (by rw [← hA, hXB]; exact ⟨(Below.refl _ _).alloc (Nat.le_refl _) _, KeyC.new _ _ _ _ _ _ _, range_below (HJ2).out.2.1 ((Below.refl _ _).alloc (Nat.le_refl _) _) (HJ2).out.2.2.2.2.2.2, nthere_below (HJ2).out.2.2.1 ((Below.refl _ _).alloc (Nat.le_refl _) _) (HJ2).out.2.2.2.2.2.2, (HJ2).out.1.trans (Below.mono ((Below.refl _ _).alloc (Nat.le_refl _) _) (HJ2).out.1.size), Nat.lt_of_lt_of_le (HJ2).out.2.2.2.2.2.2 (by simp)⟩); rw [← hXB]; clear hA hXB; obtain ⟨q0, q1, q2, q3, q4⟩ := ofive (HL).out.2.1; go_upto_region 6 with (first | (go_at_call 21; (with_reducible refine ((HSp).out _ (HL).out.2.2.2.2.1).mono ?_); rintro e wk2 ⟨rfl, hb⟩; have HLx : Hid (Below w.heap.size w wk2 ∧ World.rangeAt wk2 C 0 ([.pointer (some ⟨s, 0, none⟩), .int .i64 r0, .int .i64 r1, .int .i64 r2, .int .i64 r3, .int .u32 r4, .int .u32 o, .int .u32 a, .int .u32 b, .int .u32 c, .int .i64 x0, .int .i64 x1, .int .i64 x2, .int .i64 x3, .int .u32 x4, .int .i64 y0, .int .i64 y1, .int .i64 y2, .int .i64 y3, .int .u32 y4, .int .i64 p0, .int .i64 p1, .int .i64 p2, .int .i64 p3, .int .u32 p4] : List Value) ∧ World.there wk2 C 0 25 ∧ World.there wk2 R 0 19) := (Lib.hid ⟨(HL).out.2.2.2.2.1.trans (hb.mono (HL).out.2.2.2.2.1.size), range_below (HL).out.2.2.1 hb (HL).out.2.2.2.2.2, nthere_below (HL).out.2.2.2.1 hb (HL).out.2.2.2.2.2, nthere_below (HJ2).out.2.2.2.2.1 ((HL).out.1.trans (hb.mono (HL).out.1.size)) (Nat.lt_trans (HJ2).out.2.2.2.2.2.1 (HJ2).out.2.2.2.2.2.2)⟩); clear hb q0 q1 q2 q3 q4) | (refine wpList_store_mid (by rfl) _ _ _ (by rfl) C 20 ([.int .i64 z0, .int .i64 z1, .int .i64 z2, .int .i64 z3, .int .u32 z4] : List Value).toArray (by rfl) (by rfl) (there_part (HLx).out.2.2.1 20 (by decide)) infoK5 (akey_one _ _ _ _ _) ?_)); generalize hA : World.setCells wk2 _ _ _ = wl; have HM : Hid (Below w.heap.size w wl ∧ World.rangeAt wl C 0 ([.pointer (some ⟨s, 0, none⟩), .int .i64 r0, .int .i64 r1, .int .i64 r2, .int .i64 r3, .int .u32 r4, .int .u32 o, .int .u32 a, .int .u32 b, .int .u32 c, .int .i64 x0, .int .i64 x1, .int .i64 x2, .int .i64 x3, .int .u32 x4, .int .i64 y0, .int .i64 y1, .int .i64 y2, .int .i64 y3, .int .u32 y4, .int .i64 z0, .int .i64 z1, .int .i64 z2, .int .i64 z3, .int .u32 z4] : List Value) ∧ World.there wl C 0 25 ∧ w.heap.size ≤ C ∧ World.there wl R 0 19 ∧ R < C ∧ C < wl.heap.size) := (Lib.hid (by rw [← hA]; exact ⟨nbelow_cells (HLx).out.1 (HJ2).out.2.2.2.1 _ _, range_set5 (HLx).out.2.1 20 _ _ _ _ _, World.there_setCells (HLx).out.2.2.1 _ _ _, (HJ2).out.2.2.2.1, World.there_setCells (HLx).out.2.2.2 _ _ _, (HJ2).out.2.2.2.2.2.1, cell_lt (CallC.cell (range_set5 (HLx).out.2.1 20 _ _ _ _ _) 0 _ rfl)⟩)); clear hA; go_wp2_with fail
    rw [rounds_succ]
    have q1 := CallC.cell HM.out.2.1 1 _ rfl
    have hRn : w.heap.size ≤ R := HR.out.2.2.2.2.2.2
    have q1 := CallC.cell HM.out.2.1 1 _ rfl
    have hRn : w.heap.size ≤ R := HR.out.2.2.2.2.2.2
    have HTR : Hid (World.there wl R 0 19) := Lib.hid HM.out.2.2.2.2.1
    have HBR : Hid (Below w.heap.size w wl) := Lib.hid HM.out.1
    clear HM HL HLx HJ2 HIx HI HH HGx HG HC HJ4 HR HJ HK HSk HSm HSn HSp
    go_wp2_with (first
      | (refine wpList_store_mid (by rfl) _ _ _ (by rfl) R 0 ([.int .u32 0, .int .u32 0, .int .u32 0, .int .u32 0, .int .i64 0, .int .i64 0, .int .i64 0, .int .i64 0, .int .u32 0, .int .i64 0, .int .i64 0, .int .i64 0, .int .i64 0, .int .u32 0, .int .i64 0, .int .i64 0, .int .i64 0, .int .i64 0, .int .u32 0] : List Value).toArray (by rfl) (by rfl) HTR.out infoNote (note_one _ _ _ _ _ _ _ _ _ _ _ _ _ _ _ _ _ _ _) ?_))
    generalize hS : World.setCells wl _ _ _ = wS
    have HS : Hid (Below w.heap.size w wS ∧ wS.rangeAt R 0 [.int .u32 0, .int .u32 0, .int .u32 0, .int .u32 0, .int .i64 0, .int .i64 0, .int .i64 0, .int .i64 0, .int .u32 0, .int .i64 0, .int .i64 0, .int .i64 0, .int .i64 0, .int .u32 0, .int .i64 0, .int .i64 0, .int .i64 0, .int .i64 0, .int .u32 0]) := Lib.hid (by rw [← hS]; exact ⟨nbelow_cells HBR.out hRn _ _, World.rangeAt_setCells_same wl R 0 [.int .u32 0, .int .u32 0, .int .u32 0, .int .u32 0, .int .i64 0, .int .i64 0, .int .i64 0, .int .i64 0, .int .u32 0, .int .i64 0, .int .i64 0, .int .i64 0, .int .i64 0, .int .u32 0, .int .i64 0, .int .i64 0, .int .i64 0, .int .i64 0, .int .u32 0] HTR.out⟩)
    have hld := nload rfl HS.out.2
    refine bodyPost_ret (v := (.tuple #[(Value.agg #[.int .u32 0, .int .u32 0, .int .u32 0, .int .u32 0, .int .i64 0, .int .i64 0, .int .i64 0, .int .i64 0, .int .u32 0, .int .i64 0, .int .i64 0, .int .i64 0, .int .i64 0, .int .u32 0, .int .i64 0, .int .i64 0, .int .i64 0, .int .i64 0, .int .u32 0]), .bool false])) (by simp [results, Tryz.results32, Act.put, asAddr, hld]) rfl ⟨rfl, HS.out.1⟩
section
variable {w0 w w' W : World} {L : BLoc} {X : SLoc} {nd B : Nat} {A : List Nat} {F : Nat → Nat → Value} {l : List Int}
theorem GS.len (h : GS w0 w L X nd B A F l) (n : Nat) (hn : l.length = n) : Calls Tryz.prog 25 #[.pointer (some ⟨X.q, 0, none⟩)] w fun e w' => e = .returned (.int .i64 n) ∧ w = w' := by
  obtain ⟨b, S, _, h3, _⟩ := h.q
  obtain ⟨a, c, h0, _⟩ := h3.row
  rw [hn] at h0
  exact V.qlen_is w h0
/-- The key of a wait is seen while that wait lasts. -/
theorem GS.seen_resume (h : GS w0 w L X nd B A F l) (x : Int) (i : Nat) (hx : Hid (x = (i : Int))) (hi : i < nd) (hf : Hid (∀ j, j < 107 → (F i j).oneCell' = true)) (wt : Int) (hF : F i 9 = .int .i64 2 ∧ F i 106 = .int .i64 wt) (u1 : 0 ≤ wt) (u2 : wt ≤ 536870911) (hr : rightB 6 x 0 0 wt = true) (vs vr : Value) (hE : ErrsAt vs vr w0) : Calls Tryz.prog 21 #[.pointer (some ⟨X.s, 0, none⟩), (Value.agg #[.int .i64 6, .int .i64 x, .int .i64 0, .int .i64 0, .int .u32 wt])] w fun e w' => e = .returned (Value.agg #[.int .i64 6, .int .i64 x, .int .i64 0, .int .i64 0, .int .u32 wt]) ∧ Below w.heap.size w w' := by
  refine oseen_live 6 x 0 0 wt w (fun V hV => nvalid_ok 6 x 0 0 wt (Lib.hid hr) vs vr V ((h.errs hE).below hV)) (fun V hV => slive_resume x 0 0 wt true V (fun U hU => ?_))
  have hg := h.below (hV.trans (hU.mono hV.size))
  obtain ⟨D, h1, h2⟩ := hg.sj
  refine swaits_yes x 0 0 wt L.dp (F i) hf (Lib.hid hF.1) (Lib.hid hF.2) u1 u2 U h1.b h1.k.d.pl.f0 (fun V2 hV2 => (hg.below hV2).get x i hx hi hf) (fun V2 hV2 => ?_)
  obtain ⟨D2, h3, h4⟩ := (hg.below hV2).sj
  have hn := hg.nn
  rw [hx.out]
  exact aver_in i (by omega) 0 (Lib.hid (by rw [h4.dv])) V2 h3.k.d.pl.ar
end
end Go.Proofs.YtllcakiomihipaaGreatDoor
namespace Go.Proofs.YtllcakiomihipaaGreatDoor
open Go.ChangeShapes Go.WideShapes Go.ChangeAt Go.RowKit
set_option linter.unusedVariables false
set_option linter.unusedSimpArgs false
section
variable {w0 w w' W : World} {L : BLoc} {X : SLoc} {nd B : Nat} {A : List Nat} {F : Nat → Nat → Value} {l : List Int}
theorem gi_resume (h : GS w0 w L X nd B A F l) (y : Int) (i : Nat) (hy : Hid (y = (i : Int))) (hi : i < nd) (rg : Nat → Int) (pc ft : Int) (kk : Nat → Nat → Int) (wt : Int) (hF : Hid (F i = RW rg pc 2 ft kk wt)) (hR : Hid (∀ q, q < 19 → KRight kk q)) (t1 : 0 ≤ ft) (t2 : ft ≤ 6) (u1' : 0 ≤ wt) (u2' : wt ≤ 536870911)
    (x : Int) (j : Nat) (hx : Hid (x = (j : Int))) (hj : j < nd) (hij : j ≠ i) (rj : Nat → Int) (pj fj : Int) (kj : Nat → Nat → Int) (wj : Int) (hFj : Hid (F j = RW rj pj 3 fj kj wj)) (hRj : Hid (∀ q, q < 19 → KRight kj q)) (v1' : 0 ≤ fj) (v2' : fj ≤ 6) (v3' : 0 ≤ wj) (v4' : wj ≤ 536870911)
    (vs vr : Value) (hE : ErrsAt vs vr w0) (hyq : V.wfI y) (hxq : V.wfI x) (hl : l.length ≤ 1000) (hB : B ≤ 1000) (hr : rightB 6 y 0 0 wt = true) (o a b c : Int) (m0 m1 m2 m3 m4 : Int) (n0 n1 n2 n3 n4 : Int) (p0 p1 p2 p3 p4 : Int) (u0 u1 u2 u3 u4 : Int) (v0 v1 v2 v3 v4 : Int) (z0 z1 z2 z3 z4 : Int) (hm : rightB u0 u1 u2 u3 u4 = true) (hn : rightB v0 v1 v2 v3 v4 = true) (hp : rightB z0 z1 z2 z3 z4 = true)
    (sm : (∀ (W : World) (B : Nat) (A : List Nat) (l : List Int), GS w0 W L X nd B A F l → Calls Tryz.prog 21 #[.pointer (some ⟨X.s, 0, none⟩), (Value.agg #[.int .i64 m0, .int .i64 m1, .int .i64 m2, .int .i64 m3, .int .u32 m4])] W fun e w' => e = .returned (Value.agg #[.int .i64 u0, .int .i64 u1, .int .i64 u2, .int .i64 u3, .int .u32 u4]) ∧ Below W.heap.size W w')) (sn : (∀ (W : World) (B : Nat) (A : List Nat) (l : List Int), GS w0 W L X nd B A F l → Calls Tryz.prog 21 #[.pointer (some ⟨X.s, 0, none⟩), (Value.agg #[.int .i64 n0, .int .i64 n1, .int .i64 n2, .int .i64 n3, .int .u32 n4])] W fun e w' => e = .returned (Value.agg #[.int .i64 v0, .int .i64 v1, .int .i64 v2, .int .i64 v3, .int .u32 v4]) ∧ Below W.heap.size W w')) (sp : (∀ (W : World) (B : Nat) (A : List Nat) (l : List Int), GS w0 W L X nd B A F l → Calls Tryz.prog 21 #[.pointer (some ⟨X.s, 0, none⟩), (Value.agg #[.int .i64 p0, .int .i64 p1, .int .i64 p2, .int .i64 p3, .int .u32 p4])] W fun e w' => e = .returned (Value.agg #[.int .i64 z0, .int .i64 z1, .int .i64 z2, .int .i64 z3, .int .u32 z4]) ∧ Below W.heap.size W w')) (su : (∀ (W : World) (B : Nat) (A : List Nat) (l : List Int), GS w0 W L X nd B A F l → Calls Tryz.prog 21 #[.pointer (some ⟨X.s, 0, none⟩), (Value.agg #[.int .i64 u0, .int .i64 u1, .int .i64 u2, .int .i64 u3, .int .u32 u4])] W fun e w' => e = .returned (Value.agg #[.int .i64 u0, .int .i64 u1, .int .i64 u2, .int .i64 u3, .int .u32 u4]) ∧ Below W.heap.size W w')) (sv : (∀ (W : World) (B : Nat) (A : List Nat) (l : List Int), GS w0 W L X nd B A F l → Calls Tryz.prog 21 #[.pointer (some ⟨X.s, 0, none⟩), (Value.agg #[.int .i64 v0, .int .i64 v1, .int .i64 v2, .int .i64 v3, .int .u32 v4])] W fun e w' => e = .returned (Value.agg #[.int .i64 v0, .int .i64 v1, .int .i64 v2, .int .i64 v3, .int .u32 v4]) ∧ Below W.heap.size W w')) (sz : (∀ (W : World) (B : Nat) (A : List Nat) (l : List Int), GS w0 W L X nd B A F l → Calls Tryz.prog 21 #[.pointer (some ⟨X.s, 0, none⟩), (Value.agg #[.int .i64 z0, .int .i64 z1, .int .i64 z2, .int .i64 z3, .int .u32 z4])] W fun e w' => e = .returned (Value.agg #[.int .i64 z0, .int .i64 z1, .int .i64 z2, .int .i64 z3, .int .u32 z4]) ∧ Below W.heap.size W w')) :
    Calls Tryz.prog 12 #[.pointer (some ⟨X.s, 0, none⟩), .int .i64 x, .int .i64 1, (Value.agg #[.int .i64 6, .int .i64 y, .int .i64 0, .int .i64 0, .int .u32 wt]), (Value.agg #[.int .u32 o, .int .u32 a, .int .u32 b, .int .u32 c, .int .i64 m0, .int .i64 m1, .int .i64 m2, .int .i64 m3, .int .u32 m4, .int .i64 n0, .int .i64 n1, .int .i64 n2, .int .i64 n3, .int .u32 n4, .int .i64 p0, .int .i64 p1, .int .i64 p2, .int .i64 p3, .int .u32 p4])] w fun e w' => e = .returned (.tuple #[.agg ([.int .i64 1, .int .i64 y, .int .u32 0, .int .u32 0, .int .u32 0, .int .u32 0, .int .i64 0, .int .i64 0, .int .i64 0, .int .i64 0, .int .u32 0, .int .i64 0, .int .i64 0, .int .i64 0, .int .i64 0, .int .u32 0, .int .i64 0, .int .i64 0, .int .i64 0, .int .i64 0, .int .u32 0] : List Value).toArray, .nilIface]) ∧ GS w0 w' L X nd (B + 1) A (setF (setF F i (RW (tRg rg o a b c 0) pc 3 ft (tKk kk u0 u1 u2 u3 u4 v0 v1 v2 v3 v4 z0 z1 z2 z3 z4 0 0 0 0 0) wt)) j (RW rj pj 1 fj kj wj)) (V.putAll (V.offI l x) [y]) ∧ GK A w w' := by
  have hf : Hid (∀ q, q < 107 → (F i q).oneCell' = true) := Lib.hid (by rw [hF.out]; exact fun q _ => RW_one _ _ _ _ _ _ q)
  have hs : ∀ (W : World) (B : Nat) (A : List Nat) (l : List Int), GS w0 W L X nd B A F l → Calls Tryz.prog 21 #[.pointer (some ⟨X.s, 0, none⟩), (Value.agg #[.int .i64 6, .int .i64 y, .int .i64 0, .int .i64 0, .int .u32 wt])] W fun e w' => e = .returned (Value.agg #[.int .i64 6, .int .i64 y, .int .i64 0, .int .i64 0, .int .u32 wt]) ∧ Below W.heap.size W w' := fun W B A l hg => hg.seen_resume y i hy hi hf wt ⟨by rw [hF.out]; rfl, by rw [hF.out]; rfl⟩ u1' u2' hr vs vr hE
  have hlo : (V.offI l x).length ≤ 1000 := Nat.le_trans (off_len l x) hl
  refine (inv_pass6 h x j hx hj rj pj fj kj wj hFj 1 (by decide) (by decide) hxq hl 6 y 0 0 wt m0 m1 m2 m3 m4 n0 n1 n2 n3 n4 p0 p1 p2 p3 p4 o a b c u0 u1 u2 u3 u4 (fun W hW => sm W _ _ _ hW) v0 v1 v2 v3 v4 (fun W hW => sn W _ _ _ hW) z0 z1 z2 z3 z4 (fun W hW => sp W _ _ _ hW) 6 y 0 0 wt (fun W hW => hs W _ _ _ hW) rfl (fun W hW => oanswer_no6 X.s 6 y 0 0 wt 6 y 0 0 wt o a b c u0 u1 u2 u3 u4 v0 v1 v2 v3 v4 z0 z1 z2 z3 z4 u0 u1 u2 u3 u4 v0 v1 v2 v3 v4 z0 z1 z2 z3 z4 rfl W (fun W2 hW2 => hs W2 _ _ _ (hW.below hW2)) (fun W2 hW2 => su W2 _ _ _ (hW.below hW2)) (fun W2 hW2 => sv W2 _ _ _ (hW.below hW2)) (fun W2 hW2 => sz W2 _ _ _ (hW.below hW2))) (fun B' F' l' => B' = B + 1 ∧ F' = setF (setF F i (RW (tRg rg o a b c 0) pc 3 ft (tKk kk u0 u1 u2 u3 u4 v0 v1 v2 v3 v4 z0 z1 z2 z3 z4 0 0 0 0 0) wt)) j (RW rj pj 1 fj kj wj) ∧ l' = V.putAll (V.offI l x) [y]) (fun A' W hW => ?_)).mono ?_
  · refine (pass6_ret hW y i hy hi rg pc 2 ft kk wt hF hR t1 t2 u1' u2' vs vr hE hyq hlo hB x j hx hj hij rj pj 3 fj kj wj hFj hRj v1' v2' v3' v4' 0 0 wt o a b c u0 u1 u2 u3 u4 v0 v1 v2 v3 v4 z0 z1 z2 z3 z4 hm hn hp).mono ?_
    rintro e w9 ⟨h1, h2, h3⟩
    exact ⟨h1, ⟨_, _, _, ⟨rfl, rfl, rfl⟩, h2⟩, h3⟩
  · rintro e w9 ⟨rfl, ⟨B', F', l', ⟨rfl, rfl, rfl⟩, hg⟩, hk⟩
    exact ⟨rfl, hg, hk⟩
end
end Go.Proofs.YtllcakiomihipaaGreatDoor
namespace Go.Proofs.YtllcakiomihipaaGreatDoor
open Go.ChangeShapes Go.WideShapes Go.ChangeAt Go.RowKit
set_option linter.unusedVariables false
set_option linter.unusedSimpArgs false
set_option maxRecDepth 100000 in
set_option maxHeartbeats 2000000 in
theorem faults_lost (a0 a1 : Int) (r : Nat) (hr : r < 6) (CR : ∀ w, Calls Tryz.prog 8 #[.int .i64 a0, .int .i64 6] w fun e w' => e = .returned (.int .i64 r) ∧ w = w') (g1 : 0 ≤ a1 ∧ a1 ≤ 4294967295) (w : World) (vs vr : Value) (hE : ErrsAt vs vr w) :
    Calls Tryz.prog 6 #[.int .i64 a0, .int .u32 a1, .bool false] w fun e w' => e = .returned (.bool true) ∧ Below w.heap.size w w' := by
  have HE := Lib.hid hE
  have HC := Lib.hid CR
  obtain ⟨y, hy⟩ : ∃ y : Int, y = (r : Int) + 1 := ⟨_, rfl⟩
  have hw1 : IntKind.i64.wrap ((r : Int) + 1) = y := by rw [IntKind.wrap_i64]; omega
  have hs1 : 1 ≤ y := by omega
  have hs6 : y ≤ 6 := by omega
  clear hE CR hy
  go_enter Tryz.func6, Tryz.ntmps6
  go_upto_region 6 with (first
    | (go_at_call 7; (with_reducible refine (gs_first vs vr _ HE.out).mono ?_); rintro e w1 ⟨rfl, hb⟩; have HB1 := Lib.hid hb; have HE1 := Lib.hid (HE.out.below hb); clear hb)
    | (go_at_call 8; (with_reducible refine (HC.out _).mono ?_); rintro e w2 ⟨rfl, rfl⟩)
    | (go_at_call 9; (with_reducible refine (two_is vs vr _ HE1.out).mono ?_); rintro e w3 ⟨L, X, rfl, hg⟩; have H3 := Lib.hid hg; have c1 := hg.c1; clear hg))
  have HOneF : Hid (∀ j, j < 107 → (F1 0 j).oneCell' = true) := Lib.hid (fun j _ => RW_one (fun _ => 0) 0 3 0 (fun _ _ => 0) 0 j)
  obtain ⟨rg, kk, hFr, hRr, hKr⟩ : ∃ (rg : Nat → Int) (kk : Nat → Nat → Int), Hid (F1 0 = RW rg 0 3 0 kk 0) ∧ Hid (∀ q, q < 19 → KRight kk q) ∧ Hid (∀ q r, kk q r = 0) := ⟨fun _ => 0, fun _ _ => 0, Lib.hid rfl, (Lib.hid (fun _ _ => (show rightB 0 0 0 0 0 = true by decide))), Lib.hid (fun _ _ => rfl)⟩
  have HG := Lib.hid (H3.out.get 0 0 (Lib.hid rfl) (by decide) HOneF)
  go_upto_region 7 with (first
    | (go_at_call 10; (with_reducible refine HG.out.mono ?_); rintro e w4 ⟨rfl, hb⟩; have HB4 := Lib.hid hb; clear hb)
    | (refine wpList_store_mid (by rfl) _ _ _ (by rfl) w4.heap.size 0 (rowL (F1 0)).toArray (by rfl) (by rfl) (by rw [rowL_size]; exact nthere_new _ _ 107 zsize _) (by rw [rowL_size]; exact infoDomS) (rowL_one (F1 0) HOneF.out) ?_))
  generalize hg : World.setCells _ w4.heap.size 0 _ = w5
  obtain ⟨J, hJ⟩ : ∃ J, J = w4.heap.size := ⟨_, rfl⟩
  have H5 : Hid (GB w1 w3 w5 L X 4 0 [] F1 [] J (RW rg 0 3 0 kk 0)) := Lib.hid (by rw [← hg, hJ, ← hFr.out]; exact GB.made H3.out HB4.out (F1 0) _ zsize _)
  rw [← hJ]
  clear hg hJ c1
  have j8 := H5.out.cell 8 (by decide)
  have z8 := H5.out.free 8 (by decide)
  go_upto_region 8 with fail
  generalize hg : World.setCell w5 _ _ = w6
  have H6 : Hid (GB w1 w3 w6 L X 4 0 [] F1 [] J (RW rg 5 3 0 kk 0)) := Lib.hid (by rw [← hg, ← RW_pc rg 0 3 0 kk 0 5]; exact H5.out.set 8 _)
  clear hg j8 z8 H5
  go_upto_region 10 with fail
  obtain ⟨w7, hw7⟩ : ∃ w7, w7 = w6 := ⟨_, rfl⟩
  have H7 := H6
  rw [← hw7] at H7 ⊢
  clear hw7 H6
  have HR7 := hRr
  obtain ⟨kq, hkq⟩ : ∃ kq, kq = kk := ⟨_, rfl⟩
  rw [← hkq] at H7 HR7
  have HKK : Hid (kq 18 0 = 0 ∧ kq 18 1 = 0 ∧ kq 18 2 = 0 ∧ kq 18 3 = 0 ∧ kq 18 4 = 0) := Lib.hid (by rw [hkq]; exact ⟨hKr.out _ _, hKr.out _ _, hKr.out _ _, hKr.out _ _, hKr.out _ _⟩)
  clear hkq
  have HSC : Hid (∀ W, Below w7.heap.size w7 W → (World.cell? W ⟨X.s, 1, none⟩ = some (.pointer (some ⟨L.dP, 0, none⟩)) ∧ World.rangeAt W J 0 (rowL (RW rg 5 3 0 kq 0)))) := (Lib.hid (fun W hW => ⟨((H7.out).below hW).gs.c1, ((H7.out).below hW).r⟩)); obtain ⟨wD, hwD⟩ : ∃ wD, wD = w7.drew := ⟨_, rfl⟩; have HBd : Hid (Below w7.heap.size w7 wD) := (Lib.hid (by rw [hwD]; exact (Below.refl _ _).drew)); refine wp_region_noPanic ?_; refine wp_region_held_drew (S := fun W => (World.cell? W ⟨X.s, 1, none⟩ = some (.pointer (some ⟨L.dP, 0, none⟩)) ∧ World.rangeAt W J 0 (rowL (RW rg 5 3 0 kq 0)))) (by kernel_rfl) (by rw [← hwD]; exact HSC.out _ HBd.out) (fun hHeld => ?_); rw [← hwD] at hHeld ⊢; clear hwD; refine wpAnyH_take (i := 0) (v := ?_) (by rfl) (by kernel_rfl) (by kernel_rfl) (by kernel_rfl) (fun _ _ _ h => h) (Or.inl ⟨by kernel_rfl, ?_⟩) (by assumption) ?_; rotate_left 1; (focus (intro w hSw; (try dsimp only at hSw); simp only [List.getElem_toArray, List.getElem_cons_succ, List.getElem_cons_zero]; all_goals go_simp; all_goals (try with_reducible rfl))); (try simp only [Act.put, List.getElem_toArray, List.getElem_cons_succ, List.getElem_cons_zero, List.setIfInBounds_toArray, List.set_cons_zero, List.set_cons_succ]); refine wpAnyH_take (i := 1) (v := ?_) (by rfl) (by kernel_rfl) (by kernel_rfl) (by kernel_rfl) (fun _ _ _ h => h) (Or.inl ⟨by kernel_rfl, ?_⟩) (by assumption) ?_; rotate_left 1; (focus (intro w hSw; (try dsimp only at hSw); simp only [List.getElem_toArray, List.getElem_cons_succ, List.getElem_cons_zero]; all_goals go_simp; all_goals (try with_reducible rfl))); (try simp only [Act.put, List.getElem_toArray, List.getElem_cons_succ, List.getElem_cons_zero, List.setIfInBounds_toArray, List.set_cons_zero, List.set_cons_succ]); refine wpAnyH_take (i := 2) (v := ?_) (by rfl) (by kernel_rfl) (by kernel_rfl) (by kernel_rfl) (fun _ _ _ h => h) (Or.inl ⟨by kernel_rfl, ?_⟩) (by assumption) ?_; rotate_left 1; (focus (intro w hSw; (try dsimp only at hSw); simp only [List.getElem_toArray, List.getElem_cons_succ, List.getElem_cons_zero]; all_goals go_simp; all_goals (try with_reducible rfl))); (try simp only [Act.put, List.getElem_toArray, List.getElem_cons_succ, List.getElem_cons_zero, List.setIfInBounds_toArray, List.set_cons_zero, List.set_cons_succ]); refine wpAnyH_take (i := 3) (v := ?_) (by rfl) (by kernel_rfl) (by kernel_rfl) (by kernel_rfl) (fun _ _ _ h => h) (Or.inl ⟨by kernel_rfl, ?_⟩) (by assumption) ?_; rotate_left 1; (focus (intro w hSw; (try dsimp only at hSw); simp only [List.getElem_toArray, List.getElem_cons_succ, List.getElem_cons_zero]; all_goals go_simp; all_goals (try with_reducible rfl))); (try simp only [Act.put, List.getElem_toArray, List.getElem_cons_succ, List.getElem_cons_zero, List.setIfInBounds_toArray, List.set_cons_zero, List.set_cons_succ]); refine wpAnyH_take (i := 4) (v := .agg (rowL (RW rg 5 3 0 kq 0)).toArray) (by rfl) (by kernel_rfl) (by kernel_rfl) (by kernel_rfl) (fun _ _ _ h => h) (yieldsIf_load_mid (by kernel_rfl) 34 (.tmp 9) (by rfl) J 0 (by rfl) (rowL (RW rg 5 3 0 kq 0)) _ (fun w h => h.2) Tryz.underlying34 rfl (by rw [rowL_len]; exact infoDomS)) (by assumption) ?_; (try simp only [Act.put, List.getElem_toArray, List.getElem_cons_succ, List.getElem_cons_zero, List.setIfInBounds_toArray, List.set_cons_zero, List.set_cons_succ]); refine wpAnyH_ready (rs := [5]) (by kernel_rfl) (by simp) ?_; refine AllReadyH.cons (by rfl) (fun K hK => ?_) AllReadyH.nil; rw [if_pos (by kernel_rfl)]; simp only [List.getElem_toArray, List.getElem_cons_succ, List.getElem_cons_zero]; go_wp2_with (first | (go_at_call 11; (with_reducible refine (((H7.out.gs.below HBd.out).put 0 0 (Lib.hid rfl) (by decide) rg 5 3 0 kq 0 HR7 (by decide) (by decide) (by decide) (by decide) (by decide) (by decide) vs vr HE1.out)).mono ?_); rintro e w4 ⟨rfl, hgs, hgk⟩; have H4 := Lib.hid hgs; have K4 := Lib.hid hgk; clear hgs hgk)); refine hK.out _ _ ⟨H4.out.c1, range_same ((H7.out).below HBd.out).r (K4.out.eq J (by simp))⟩ (fun hHeld => ?_); clear hK K; (try simp only [Act.put, List.getElem_toArray, List.getElem_cons_succ, List.getElem_cons_zero, List.setIfInBounds_toArray, List.set_cons_zero, List.set_cons_succ]); refine wpAnyH_done (by kernel_rfl) ?_ _; refine NoPanic.normal ?_
  have HF2 : Hid (GS w1 w4 L X 4 0 [J] (setF F1 0 (RW rg 5 3 0 kq 0)) [] ∧ World.there w4 J 0 107) := Lib.hid ⟨H4.out, nthere_same (H7.out.below HBd.out).th (K4.out.eq J (by simp))⟩
  have HXJ := Lib.hid H7.out.xj
  clear H7 H4 K4
  have HU := Lib.hid (upcall_lost HF2.out.1 0 0 (Lib.hid rfl) (by decide) rg 5 0 kq 0 (Lib.hid (setF_at _ _ _)) HR7 (by decide) (by decide) (by decide) (by decide) vs vr HE1.out (by unfold V.wfI; decide) (by decide) y a1 hs1 hs6 HKK)
  go_upto_region 13 with (first
    | (go_at_call 24; (with_reducible refine HU.out.mono ?_); rintro e w8 ⟨rfl, hg, hk⟩; have H8 := Lib.hid hg; have HT8 := Lib.hid (nthere_same HF2.out.2 (hk.eq J (by simp))); clear hg hk))
  obtain ⟨F3, hF3, hF30⟩ : ∃ F3, F3 = setF (setF F1 0 (RW rg 5 3 0 kq 0)) 0 (RW rg 5 4 y kq 0) ∧ Hid (F3 0 = RW rg 5 4 y kq 0) := ⟨_, rfl, Lib.hid (setF_at _ _ _)⟩
  rw [← hF3] at H8
  have hF31 : Hid (F3 1 = RW (fun _ => 0) 0 1 0 (fun _ _ => 0) 0) := Lib.hid (by rw [hF3]; rfl)
  clear hF3
  have hO0 : Hid (∀ j, j < 107 → (F3 0 j).oneCell' = true) := Lib.hid (by rw [hF30.out]; exact fun j _ => RW_one _ _ _ _ _ _ j)
  have hO1 : Hid (∀ j, j < 107 → (F3 1 j).oneCell' = true) := Lib.hid (by rw [hF31.out]; exact fun j _ => RW_one _ _ _ _ _ _ j)
  have HG9 := Lib.hid (H8.out.get 0 0 (Lib.hid rfl) (by decide) hO0)
  have c1 := H8.out.c1
  go_upto_region 14 with (first
    | (go_at_call 10; (with_reducible refine HG9.out.mono ?_); rintro e w9 ⟨rfl, hb⟩; have HB9 := Lib.hid hb; have HT9 := Lib.hid (nthere_below HT8.out hb (H8.out.a J (by simp)).1); clear hb)
    | (refine wpList_store_mid (by rfl) _ _ _ (by rfl) J 0 (rowL (F3 0)).toArray (by rfl) (by rfl) (by rw [rowL_size]; exact HT9.out) (by rw [rowL_size]; exact infoDomS) (rowL_one (F3 0) hO0.out) ?_; generalize hg : World.setCells w9 J 0 _ = w9b))
  have H9 := Lib.hid (show GS w1 w9b L X 4 0 [J] F3 (V.offI [] 0) ∧ w9b.rangeAt J 0 (rowL (F3 0)) ∧ World.there w9b J 0 107 by
    rw [← hg]
    exact ⟨(H8.out.below HB9.out).cells J (by simp) HXJ.out 0 _, World.rangeAt_setCells_same _ _ 0 (rowL (F3 0)) (by rw [rowL_len]; exact HT9.out), World.there_setCells HT9.out _ _ _⟩)
  clear hg c1 HG9 HT9
  have HG := Lib.hid (H9.out.1.get 1 1 (Lib.hid rfl) (by decide) hO1)
  have c1 := H9.out.1.c1
  go_upto_region 15 with (first
    | (go_at_call 10; (with_reducible refine HG.out.mono ?_); rintro e w10 ⟨rfl, hb⟩; have HB10 := Lib.hid hb; clear hb)
    | (refine wpList_store_mid (by rfl) _ _ _ (by rfl) w10.heap.size 0 (rowL (F3 1)).toArray (by rfl) (by rfl) (by rw [rowL_size]; exact nthere_new _ _ 107 zsize _) (by rw [rowL_size]; exact infoDomS) (rowL_one (F3 1) hO1.out) ?_))
  generalize hg : World.setCells _ w10.heap.size 0 _ = w11
  obtain ⟨K, hK⟩ : ∃ K, K = w10.heap.size := ⟨_, rfl⟩
  have H11 := Lib.hid (show GS w1 w11 L X 4 0 [J] F3 (V.offI [] 0) ∧ w11.rangeAt J 0 (rowL (RW rg 5 4 y kq 0)) ∧ w11.rangeAt K 0 (rowL (F3 1)) ∧ World.there w11 J 0 107 by
    have b := nbelow_cells (HB10.out.alloc HB10.out.size (.cells (rowL zd).toArray 34)) HB10.out.size (rowL (F3 1)) 0
    rw [← hg, hK, ← hF30.out]
    exact ⟨H9.out.1.below b, range_below H9.out.2.1 b (H9.out.1.a J (by simp)).1, World.rangeAt_setCells_same _ _ 0 (rowL (F3 1)) (by rw [rowL_len]; exact nthere_new _ _ 107 zsize _), nthere_below H9.out.2.2 b (H9.out.1.a J (by simp)).1⟩)
  rw [← hK]
  clear hg hK c1 HG
  have j9 := rangeD H11.out.2.1 9 (by decide)
  have j10 := rangeD H11.out.2.1 10 (by decide)
  rw [RW_9] at j9
  rw [RW_10] at j10
  have c5 := H11.out.1.c5
  have HLN := Lib.hid (H11.out.1.len 0 rfl)
  go_wp2_with (first
    | (go_at_call 25; (with_reducible refine HLN.out.mono ?_); rintro e w12 ⟨rfl, rfl⟩))
  go_ret
  exact ⟨rfl, HB1.out.trans (H11.out.1.bel.mono HB1.out.size)⟩
end Go.Proofs.YtllcakiomihipaaGreatDoor
namespace Go.Proofs.YtllcakiomihipaaGreatDoor
open Go.ChangeShapes Go.WideShapes Go.ChangeAt Go.RowKit
set_option linter.unusedVariables false
set_option linter.unusedSimpArgs false
set_option maxRecDepth 100000 in
set_option maxHeartbeats 2000000 in
theorem faults_kept (a0 a1 : Int) (r : Nat) (hr : r < 6) (CR : ∀ w, Calls Tryz.prog 8 #[.int .i64 a0, .int .i64 6] w fun e w' => e = .returned (.int .i64 r) ∧ w = w') (g1 : 0 ≤ a1 ∧ a1 ≤ 4294967295) (w : World) (vs vr : Value) (hE : ErrsAt vs vr w) :
    Calls Tryz.prog 6 #[.int .i64 a0, .int .u32 a1, .bool true] w fun e w' => e = .returned (.bool true) ∧ Below w.heap.size w w' := by
  have HE := Lib.hid hE
  have HC := Lib.hid CR
  obtain ⟨y, hy⟩ : ∃ y : Int, y = (r : Int) + 1 := ⟨_, rfl⟩
  have hw1 : IntKind.i64.wrap ((r : Int) + 1) = y := by rw [IntKind.wrap_i64]; omega
  have hs1 : 1 ≤ y := by omega
  have hs6 : y ≤ 6 := by omega
  clear hE CR hy
  go_enter Tryz.func6, Tryz.ntmps6
  go_upto_region 6 with (first
    | (go_at_call 7; (with_reducible refine (gs_first vs vr _ HE.out).mono ?_); rintro e w1 ⟨rfl, hb⟩; have HB1 := Lib.hid hb; have HE1 := Lib.hid (HE.out.below hb); clear hb)
    | (go_at_call 8; (with_reducible refine (HC.out _).mono ?_); rintro e w2 ⟨rfl, rfl⟩)
    | (go_at_call 9; (with_reducible refine (two_is vs vr _ HE1.out).mono ?_); rintro e w3 ⟨L, X, rfl, hg⟩; have H3 := Lib.hid hg; have c1 := hg.c1; clear hg))
  have HOneF : Hid (∀ j, j < 107 → (F1 0 j).oneCell' = true) := Lib.hid (fun j _ => RW_one (fun _ => 0) 0 3 0 (fun _ _ => 0) 0 j)
  obtain ⟨rg, kk, hFr, hRr, hKr⟩ : ∃ (rg : Nat → Int) (kk : Nat → Nat → Int), Hid (F1 0 = RW rg 0 3 0 kk 0) ∧ Hid (∀ q, q < 19 → KRight kk q) ∧ Hid (∀ q r, kk q r = 0) := ⟨fun _ => 0, fun _ _ => 0, Lib.hid rfl, (Lib.hid (fun _ _ => (show rightB 0 0 0 0 0 = true by decide))), Lib.hid (fun _ _ => rfl)⟩
  have HG := Lib.hid (H3.out.get 0 0 (Lib.hid rfl) (by decide) HOneF)
  go_upto_region 7 with (first
    | (go_at_call 10; (with_reducible refine HG.out.mono ?_); rintro e w4 ⟨rfl, hb⟩; have HB4 := Lib.hid hb; clear hb)
    | (refine wpList_store_mid (by rfl) _ _ _ (by rfl) w4.heap.size 0 (rowL (F1 0)).toArray (by rfl) (by rfl) (by rw [rowL_size]; exact nthere_new _ _ 107 zsize _) (by rw [rowL_size]; exact infoDomS) (rowL_one (F1 0) HOneF.out) ?_))
  generalize hg : World.setCells _ w4.heap.size 0 _ = w5
  obtain ⟨J, hJ⟩ : ∃ J, J = w4.heap.size := ⟨_, rfl⟩
  have H5 : Hid (GB w1 w3 w5 L X 4 0 [] F1 [] J (RW rg 0 3 0 kk 0)) := Lib.hid (by rw [← hg, hJ, ← hFr.out]; exact GB.made H3.out HB4.out (F1 0) _ zsize _)
  rw [← hJ]
  clear hg hJ c1
  have j8 := H5.out.cell 8 (by decide)
  have z8 := H5.out.free 8 (by decide)
  go_upto_region 8 with fail
  generalize hg : World.setCell w5 _ _ = w6
  have H6 : Hid (GB w1 w3 w6 L X 4 0 [] F1 [] J (RW rg 5 3 0 kk 0)) := Lib.hid (by rw [← hg, ← RW_pc rg 0 3 0 kk 0 5]; exact H5.out.set 8 _)
  clear hg j8 z8 H5
  have c1 := H6.out.gs.c1
  have HD := Lib.hid (H6.out.gs.door 1 1 (Lib.hid rfl) (by decide) 77 (by decide))
  go_upto_region 10 with (first
    | (go_at_call 15; (with_reducible refine HD.out.mono ?_); rintro e w6b ⟨rfl, hb⟩; have H6b := Lib.hid (H6.out.below hb); have HT6 := Lib.hid H6b.out.th; clear hb c1)
    | (refine wpList_store_mid (by rfl) _ _ _ (by rfl) J 101 #[.int .i64 5, .int .i64 1, .int .i64 0, .int .i64 0, .int .u32 77] (by rfl) (by rfl) (fun j hj => by have hj' : j < 5 := hj; have h := HT6.out (101 + j) (by omega); rwa [Nat.zero_add] at h) keyInfo5 (by simp [Value.oneCell']) ?_; generalize hg : World.setCells w6b J 101 _ = w7))
  have H7 : Hid (GB w1 w3 w7 L X 4 0 [] F1 [] J (RW rg 5 3 0 (sK kk 18 5 1 0 0 77) 0)) := Lib.hid (by rw [← hg]; exact H6b.out.key 18 (by decide) 5 1 0 0 77)
  clear hg H6 H6b HD HT6
  have HR7 : Hid (∀ q, q < 19 → KRight (sK kk 18 5 1 0 0 77) q) := Lib.hid (sK_right hRr.out 18 5 1 0 0 77 (by decide))
  obtain ⟨kq, hkq⟩ : ∃ kq, kq = (sK kk 18 5 1 0 0 77) := ⟨_, rfl⟩
  rw [← hkq] at H7 HR7
  have HKK : Hid (kq 18 0 = 5 ∧ kq 18 1 = 1 ∧ kq 18 2 = 0 ∧ kq 18 3 = 0 ∧ kq 18 4 = 77) := Lib.hid (by rw [hkq]; exact ⟨rfl, rfl, rfl, rfl, rfl⟩)
  clear hkq
  have HSC : Hid (∀ W, Below w7.heap.size w7 W → (World.cell? W ⟨X.s, 1, none⟩ = some (.pointer (some ⟨L.dP, 0, none⟩)) ∧ World.rangeAt W J 0 (rowL (RW rg 5 3 0 kq 0)))) := (Lib.hid (fun W hW => ⟨((H7.out).below hW).gs.c1, ((H7.out).below hW).r⟩)); obtain ⟨wD, hwD⟩ : ∃ wD, wD = w7.drew := ⟨_, rfl⟩; have HBd : Hid (Below w7.heap.size w7 wD) := (Lib.hid (by rw [hwD]; exact (Below.refl _ _).drew)); refine wp_region_noPanic ?_; refine wp_region_held_drew (S := fun W => (World.cell? W ⟨X.s, 1, none⟩ = some (.pointer (some ⟨L.dP, 0, none⟩)) ∧ World.rangeAt W J 0 (rowL (RW rg 5 3 0 kq 0)))) (by kernel_rfl) (by rw [← hwD]; exact HSC.out _ HBd.out) (fun hHeld => ?_); rw [← hwD] at hHeld ⊢; clear hwD; refine wpAnyH_take (i := 0) (v := ?_) (by rfl) (by kernel_rfl) (by kernel_rfl) (by kernel_rfl) (fun _ _ _ h => h) (Or.inl ⟨by kernel_rfl, ?_⟩) (by assumption) ?_; rotate_left 1; (focus (intro w hSw; (try dsimp only at hSw); simp only [List.getElem_toArray, List.getElem_cons_succ, List.getElem_cons_zero]; all_goals go_simp; all_goals (try with_reducible rfl))); (try simp only [Act.put, List.getElem_toArray, List.getElem_cons_succ, List.getElem_cons_zero, List.setIfInBounds_toArray, List.set_cons_zero, List.set_cons_succ]); refine wpAnyH_take (i := 1) (v := ?_) (by rfl) (by kernel_rfl) (by kernel_rfl) (by kernel_rfl) (fun _ _ _ h => h) (Or.inl ⟨by kernel_rfl, ?_⟩) (by assumption) ?_; rotate_left 1; (focus (intro w hSw; (try dsimp only at hSw); simp only [List.getElem_toArray, List.getElem_cons_succ, List.getElem_cons_zero]; all_goals go_simp; all_goals (try with_reducible rfl))); (try simp only [Act.put, List.getElem_toArray, List.getElem_cons_succ, List.getElem_cons_zero, List.setIfInBounds_toArray, List.set_cons_zero, List.set_cons_succ]); refine wpAnyH_take (i := 2) (v := ?_) (by rfl) (by kernel_rfl) (by kernel_rfl) (by kernel_rfl) (fun _ _ _ h => h) (Or.inl ⟨by kernel_rfl, ?_⟩) (by assumption) ?_; rotate_left 1; (focus (intro w hSw; (try dsimp only at hSw); simp only [List.getElem_toArray, List.getElem_cons_succ, List.getElem_cons_zero]; all_goals go_simp; all_goals (try with_reducible rfl))); (try simp only [Act.put, List.getElem_toArray, List.getElem_cons_succ, List.getElem_cons_zero, List.setIfInBounds_toArray, List.set_cons_zero, List.set_cons_succ]); refine wpAnyH_take (i := 3) (v := ?_) (by rfl) (by kernel_rfl) (by kernel_rfl) (by kernel_rfl) (fun _ _ _ h => h) (Or.inl ⟨by kernel_rfl, ?_⟩) (by assumption) ?_; rotate_left 1; (focus (intro w hSw; (try dsimp only at hSw); simp only [List.getElem_toArray, List.getElem_cons_succ, List.getElem_cons_zero]; all_goals go_simp; all_goals (try with_reducible rfl))); (try simp only [Act.put, List.getElem_toArray, List.getElem_cons_succ, List.getElem_cons_zero, List.setIfInBounds_toArray, List.set_cons_zero, List.set_cons_succ]); refine wpAnyH_take (i := 4) (v := .agg (rowL (RW rg 5 3 0 kq 0)).toArray) (by rfl) (by kernel_rfl) (by kernel_rfl) (by kernel_rfl) (fun _ _ _ h => h) (yieldsIf_load_mid (by kernel_rfl) 34 (.tmp 9) (by rfl) J 0 (by rfl) (rowL (RW rg 5 3 0 kq 0)) _ (fun w h => h.2) Tryz.underlying34 rfl (by rw [rowL_len]; exact infoDomS)) (by assumption) ?_; (try simp only [Act.put, List.getElem_toArray, List.getElem_cons_succ, List.getElem_cons_zero, List.setIfInBounds_toArray, List.set_cons_zero, List.set_cons_succ]); refine wpAnyH_ready (rs := [5]) (by kernel_rfl) (by simp) ?_; refine AllReadyH.cons (by rfl) (fun K hK => ?_) AllReadyH.nil; rw [if_pos (by kernel_rfl)]; simp only [List.getElem_toArray, List.getElem_cons_succ, List.getElem_cons_zero]; go_wp2_with (first | (go_at_call 11; (with_reducible refine (((H7.out.gs.below HBd.out).put 0 0 (Lib.hid rfl) (by decide) rg 5 3 0 kq 0 HR7 (by decide) (by decide) (by decide) (by decide) (by decide) (by decide) vs vr HE1.out)).mono ?_); rintro e w4 ⟨rfl, hgs, hgk⟩; have H4 := Lib.hid hgs; have K4 := Lib.hid hgk; clear hgs hgk)); refine hK.out _ _ ⟨H4.out.c1, range_same ((H7.out).below HBd.out).r (K4.out.eq J (by simp))⟩ (fun hHeld => ?_); clear hK K; (try simp only [Act.put, List.getElem_toArray, List.getElem_cons_succ, List.getElem_cons_zero, List.setIfInBounds_toArray, List.set_cons_zero, List.set_cons_succ]); refine wpAnyH_done (by kernel_rfl) ?_ _; refine NoPanic.normal ?_
  have HF2 : Hid (GS w1 w4 L X 4 0 [J] (setF F1 0 (RW rg 5 3 0 kq 0)) [] ∧ World.there w4 J 0 107) := Lib.hid ⟨H4.out, nthere_same (H7.out.below HBd.out).th (K4.out.eq J (by simp))⟩
  have HXJ := Lib.hid H7.out.xj
  clear H7 H4 K4
  have HU := Lib.hid (upcall_kept HF2.out.1 0 0 (Lib.hid rfl) (by decide) rg 5 0 kq 0 (Lib.hid (setF_at _ _ _)) HR7 (by decide) (by decide) (by decide) (by decide) vs vr HE1.out (by unfold V.wfI; decide) (by decide) y a1 hs1 hs6 1 77 1 (Lib.hid rfl) (by decide) (by decide) (fun _ => 0) 0 0 (fun _ _ => 0) 0 (Lib.hid rfl) (Lib.hid (fun _ _ => (show rightB 0 0 0 0 0 = true by decide))) (by decide) (by decide) (by decide) (by decide) (by unfold V.wfI; decide) (by decide) (by decide) (by decide) (by decide) (by decide) HKK)
  go_upto_region 13 with (first
    | (go_at_call 24; (with_reducible refine HU.out.mono ?_); rintro e w8 ⟨rfl, hg, hk⟩; have H8 := Lib.hid hg; have HT8 := Lib.hid (nthere_same HF2.out.2 (hk.eq J (by simp))); clear hg hk))
  obtain ⟨F3, hF3⟩ : ∃ F3, F3 = setF (setF (setF (setF F1 0 (RW rg 5 3 0 kq 0)) 0 (RW rg 5 3 y kq 0)) 0 (RW rg 5 2 y kq (0 + 1))) 1 (RW (tRg (fun _ => 0) (1000 + y) 5 a1 0 77) 0 3 0 (tKk (fun _ _ => 0) 4 0 0 0 0 0 0 0 0 0 0 0 0 0 0 6 0 0 0 (0 + 1)) 0) := ⟨_, rfl⟩
  rw [← hF3] at H8
  have hF30 : Hid (F3 0 = RW rg 5 2 y kq 1) := Lib.hid (by rw [hF3, setF_ne _ _ _ _ (by decide), setF_at]; rfl)
  obtain ⟨rk, kk2, hF31, hRk, hk0, hk1, hk2, hk4, hk120, hk121, hk15⟩ : ∃ (rk : Nat → Int) (kk2 : Nat → Nat → Int), Hid (F3 1 = RW rk 0 3 0 kk2 0) ∧ Hid (∀ q, q < 19 → KRight kk2 q) ∧ rk 0 = 1000 + y ∧ rk 1 = 5 ∧ rk 2 = a1 ∧ rk 4 = 77 ∧ kk2 12 0 = 4 ∧ kk2 12 1 = 0 ∧ Hid (kk2 15 0 = 6 ∧ kk2 15 1 = 0 ∧ kk2 15 2 = 0 ∧ kk2 15 3 = 0 ∧ kk2 15 4 = 1) := ⟨_, _, Lib.hid (by rw [hF3, setF_at]), Lib.hid (tKk_right (kk := fun _ _ => 0) (fun _ _ => (show rightB 0 0 0 0 0 = true by decide)) 4 0 0 0 0 0 0 0 0 0 0 0 0 0 0 6 0 0 0 (0 + 1) (by decide) (by decide) (by decide) (by decide)), rfl, rfl, rfl, rfl, rfl, rfl, Lib.hid ⟨rfl, rfl, rfl, rfl, rfl⟩⟩
  clear hF3
  have hO0 : Hid (∀ j, j < 107 → (F3 0 j).oneCell' = true) := Lib.hid (by rw [hF30.out]; exact fun j _ => RW_one _ _ _ _ _ _ j)
  have hO1 : Hid (∀ j, j < 107 → (F3 1 j).oneCell' = true) := Lib.hid (by rw [hF31.out]; exact fun j _ => RW_one _ _ _ _ _ _ j)
  have HG9 := Lib.hid (H8.out.get 0 0 (Lib.hid rfl) (by decide) hO0)
  have c1 := H8.out.c1
  go_upto_region 14 with (first
    | (go_at_call 10; (with_reducible refine HG9.out.mono ?_); rintro e w9 ⟨rfl, hb⟩; have HB9 := Lib.hid hb; have HT9 := Lib.hid (nthere_below HT8.out hb (H8.out.a J (by simp)).1); clear hb)
    | (refine wpList_store_mid (by rfl) _ _ _ (by rfl) J 0 (rowL (F3 0)).toArray (by rfl) (by rfl) (by rw [rowL_size]; exact HT9.out) (by rw [rowL_size]; exact infoDomS) (rowL_one (F3 0) hO0.out) ?_; generalize hg : World.setCells w9 J 0 _ = w9b))
  have H9 := Lib.hid (show GS w1 w9b L X 4 1 [J] F3 (V.putAll (V.offI [] 0) [1]) ∧ w9b.rangeAt J 0 (rowL (F3 0)) ∧ World.there w9b J 0 107 by
    rw [← hg]
    exact ⟨(H8.out.below HB9.out).cells J (by simp) HXJ.out 0 _, World.rangeAt_setCells_same _ _ 0 (rowL (F3 0)) (by rw [rowL_len]; exact HT9.out), World.there_setCells HT9.out _ _ _⟩)
  clear hg c1 HG9 HT9
  have HG := Lib.hid (H9.out.1.get 1 1 (Lib.hid rfl) (by decide) hO1)
  have c1 := H9.out.1.c1
  go_upto_region 15 with (first
    | (go_at_call 10; (with_reducible refine HG.out.mono ?_); rintro e w10 ⟨rfl, hb⟩; have HB10 := Lib.hid hb; clear hb)
    | (refine wpList_store_mid (by rfl) _ _ _ (by rfl) w10.heap.size 0 (rowL (F3 1)).toArray (by rfl) (by rfl) (by rw [rowL_size]; exact nthere_new _ _ 107 zsize _) (by rw [rowL_size]; exact infoDomS) (rowL_one (F3 1) hO1.out) ?_))
  generalize hg : World.setCells _ w10.heap.size 0 _ = w11
  obtain ⟨K, hK⟩ : ∃ K, K = w10.heap.size := ⟨_, rfl⟩
  have H11 := Lib.hid (show GS w1 w11 L X 4 1 [J] F3 (V.putAll (V.offI [] 0) [1]) ∧ w11.rangeAt J 0 (rowL (RW rg 5 2 y kq 1)) ∧ w11.rangeAt K 0 (rowL (F3 1)) ∧ World.there w11 J 0 107 by
    have b := nbelow_cells (HB10.out.alloc HB10.out.size (.cells (rowL zd).toArray 34)) HB10.out.size (rowL (F3 1)) 0
    rw [← hg, hK, ← hF30.out]
    exact ⟨H9.out.1.below b, range_below H9.out.2.1 b (H9.out.1.a J (by simp)).1, World.rangeAt_setCells_same _ _ 0 (rowL (F3 1)) (by rw [rowL_len]; exact nthere_new _ _ 107 zsize _), nthere_below H9.out.2.2 b (H9.out.1.a J (by simp)).1⟩)
  rw [← hK]
  clear hg hK c1 HG
  have j9 := rangeD H11.out.2.1 9 (by decide)
  have j10 := rangeD H11.out.2.1 10 (by decide)
  rw [RW_9] at j9
  rw [RW_10] at j10
  have HRK := Lib.hid (show w11.rangeAt K 0 (rowL (RW rk 0 3 0 kk2 0)) by rw [← hF31.out]; exact H11.out.2.2.1)
  have i0 : w11.cell? ⟨K, 0, none⟩ = some (.int .u32 (1000 + y)) := (rangeD HRK.out 0 (by decide)).trans (by rw [← hk0]; rfl)
  have i1 : w11.cell? ⟨K, 1, none⟩ = some (.int .u32 5) := (rangeD HRK.out 1 (by decide)).trans (by rw [← hk1]; rfl)
  have i2 : w11.cell? ⟨K, 2, none⟩ = some (.int .u32 a1) := (rangeD HRK.out 2 (by decide)).trans (by rw [← hk2]; rfl)
  have i4 : w11.cell? ⟨K, 4, none⟩ = some (.int .u32 77) := (rangeD HRK.out 4 (by decide)).trans (by rw [← hk4]; rfl)
  have i9 := rangeD HRK.out 9 (by decide)
  rw [RW_9] at i9
  have i71 : w11.cell? ⟨K, 71, none⟩ = some (.int .i64 4) := (rangeD HRK.out 71 (by decide)).trans (by rw [← hk120]; rfl)
  have i72 : w11.cell? ⟨K, 72, none⟩ = some (.int .i64 0) := (rangeD HRK.out 72 (by decide)).trans (by rw [← hk121]; rfl)
  have i86 : w11.cell? ⟨K, 86, none⟩ = some (.int .i64 6) := (rangeD HRK.out 86 (by decide)).trans (by rw [← hk15.out.1]; rfl)
  have i87 : w11.cell? ⟨K, 87, none⟩ = some (.int .i64 0) := (rangeD HRK.out 87 (by decide)).trans (by rw [← hk15.out.2.1]; rfl)
  have i88 : w11.cell? ⟨K, 88, none⟩ = some (.int .i64 0) := (rangeD HRK.out 88 (by decide)).trans (by rw [← hk15.out.2.2.1]; rfl)
  have i89 : w11.cell? ⟨K, 89, none⟩ = some (.int .i64 0) := (rangeD HRK.out 89 (by decide)).trans (by rw [← hk15.out.2.2.2.1]; rfl)
  have i90 : w11.cell? ⟨K, 90, none⟩ = some (.int .u32 1) := (rangeD HRK.out 90 (by decide)).trans (by rw [← hk15.out.2.2.2.2]; rfl)
  clear hk0 hk1 hk2 hk4 hk120 hk121
  go_upto_region 19 with fail
  clear j9 j10 i0 i1 i2 i4 i9 i71 i72
  have HI := Lib.hid (gi_resume H11.out.1 0 0 (Lib.hid rfl) (by decide) rg 5 y kq 1 hF30 HR7 (by omega) hs6 (by decide) (by decide) 1 1 (Lib.hid rfl) (by decide) (by decide) rk 0 0 kk2 0 hF31 hRk (by decide) (by decide) (by decide) (by decide) vs vr HE1.out (by unfold V.wfI; decide) (by unfold V.wfI; decide) (by decide) (by decide) (by decide) 3 0 0 0 0 0 0 0 0 0 0 0 0 0 0 0 0 0 0 0 0 0 0 0 0 0 0 0 0 0 0 0 0 0 (by decide) (by decide) (by decide) (fun W B A l hg => oseen_void X.s vs vr W (hg.errs HE1.out)) (fun W B A l hg => oseen_void X.s vs vr W (hg.errs HE1.out)) (fun W B A l hg => oseen_void X.s vs vr W (hg.errs HE1.out)) (fun W B A l hg => oseen_void X.s vs vr W (hg.errs HE1.out)) (fun W B A l hg => oseen_void X.s vs vr W (hg.errs HE1.out)) (fun W B A l hg => oseen_void X.s vs vr W (hg.errs HE1.out)))
  go_upto_region 20 with (first
    | (go_at_call 12; (with_reducible refine HI.out.mono ?_); rintro e w12 ⟨rfl, hg, hk⟩; have H12 := Lib.hid hg; have HT12 := Lib.hid (nthere_same H11.out.2.2.2 (hk.eq J (by simp))); clear hg hk i86 i87 i88 i89 i90)
    | (refine wpList_store_mid (by rfl) _ _ _ (by rfl) w12.heap.size 0 ([.int .i64 1, .int .i64 0, .int .u32 0, .int .u32 0, .int .u32 0, .int .u32 0, .int .i64 0, .int .i64 0, .int .i64 0, .int .i64 0, .int .u32 0, .int .i64 0, .int .i64 0, .int .i64 0, .int .i64 0, .int .u32 0, .int .i64 0, .int .i64 0, .int .i64 0, .int .i64 0, .int .u32 0] : List Value).toArray (by rfl) (by rfl) (nthere_new _ _ 21 (by rfl) _) resInfo (by simp [Value.oneCell']) ?_; generalize hg : World.setCells _ w12.heap.size 0 _ = w13))
  obtain ⟨F4, rg4, kk4, hF4, hF40, hrg4⟩ : ∃ (F4 : Nat → Nat → Value) (rg4 : Nat → Int) (kk4 : Nat → Nat → Int), F4 = setF (setF F3 0 (RW (tRg rg 3 0 0 0 0) 5 3 y (tKk kq 0 0 0 0 0 0 0 0 0 0 0 0 0 0 0 0 0 0 0 0) 1)) 1 (RW rk 0 1 0 kk2 0) ∧ Hid (F4 0 = RW rg4 5 3 y kk4 1) ∧ rg4 0 = 3 := ⟨_, _, _, rfl, Lib.hid (by rw [setF_ne _ _ _ _ (by decide), setF_at]), rfl⟩
  rw [← hF4] at H12
  clear hF4
  have H13 := Lib.hid (show GS w1 w13 L X 4 (1 + 1) [J] F4 _ ∧ World.there w13 J 0 107 by
    have b := nbelow_cells ((Below.refl _ _).alloc (Nat.le_refl _) _ : Below w12.heap.size w12 (w12.alloc (.cells ([.int .i64 0, .int .i64 0, .int .u32 0, .int .u32 0, .int .u32 0, .int .u32 0, .int .i64 0, .int .i64 0, .int .i64 0, .int .i64 0, .int .u32 0, .int .i64 0, .int .i64 0, .int .i64 0, .int .i64 0, .int .u32 0, .int .i64 0, .int .i64 0, .int .i64 0, .int .i64 0, .int .u32 0] : List Value).toArray 54))) (Nat.le_refl _) ([.int .i64 1, .int .i64 0, .int .u32 0, .int .u32 0, .int .u32 0, .int .u32 0, .int .i64 0, .int .i64 0, .int .i64 0, .int .i64 0, .int .u32 0, .int .i64 0, .int .i64 0, .int .i64 0, .int .i64 0, .int .u32 0, .int .i64 0, .int .i64 0, .int .i64 0, .int .i64 0, .int .u32 0] : List Value) 0
    rw [← hg]
    exact ⟨H12.out.below b, nthere_below HT12.out b (H12.out.a J (by simp)).1⟩)
  clear hg
  have hO4 : Hid (∀ j, j < 107 → (F4 0 j).oneCell' = true) := Lib.hid (by rw [hF40.out]; exact fun j _ => RW_one _ _ _ _ _ _ j)
  have HG14 := Lib.hid (H13.out.1.get 0 0 (Lib.hid rfl) (by decide) hO4)
  have c1 := H13.out.1.c1
  go_upto_region 21 with (first
    | (go_at_call 10; (with_reducible refine HG14.out.mono ?_); rintro e w14 ⟨rfl, hb⟩; have HB14 := Lib.hid hb; have HT14 := Lib.hid (nthere_below H13.out.2 hb (H13.out.1.a J (by simp)).1); clear hb)
    | (refine wpList_store_mid (by rfl) _ _ _ (by rfl) J 0 (rowL (F4 0)).toArray (by rfl) (by rfl) (by rw [rowL_size]; exact HT14.out) (by rw [rowL_size]; exact infoDomS) (rowL_one (F4 0) hO4.out) ?_; generalize hg : World.setCells w14 J 0 _ = w14b))
  have H14 := Lib.hid (show GS w1 w14b L X 4 (1 + 1) [J] F4 _ ∧ w14b.rangeAt J 0 (rowL (F4 0)) ∧ World.there w14b J 0 107 by
    rw [← hg]
    exact ⟨(H13.out.1.below HB14.out).cells J (by simp) HXJ.out 0 _, World.rangeAt_setCells_same _ _ 0 (rowL (F4 0)) (by rw [rowL_len]; exact HT14.out), World.there_setCells HT14.out _ _ _⟩)
  clear hg c1 HG14 HT14
  have HRJ := Lib.hid (show w14b.rangeAt J 0 (rowL (RW rg4 5 3 y kk4 1)) by rw [← hF40.out]; exact H14.out.2.1)
  have j9 := rangeD HRJ.out 9 (by decide)
  have j8 := rangeD HRJ.out 8 (by decide)
  rw [RW_9] at j9
  rw [RW_8] at j8
  have j0 : w14b.cell? ⟨J, 0, none⟩ = some (.int .u32 3) := (rangeD HRJ.out 0 (by decide)).trans (by rw [← hrg4]; rfl)
  clear hrg4
  go_wp2_with fail
  go_ret
  exact ⟨rfl, HB1.out.trans (H14.out.1.bel.mono HB1.out.size)⟩
end Go.Proofs.YtllcakiomihipaaGreatDoor
namespace Go.Proofs.YtllcakiomihipaaGreatDoor
open Go.ChangeShapes Go.WideShapes Go.ChangeAt Go.RowKit
set_option linter.unusedVariables false
theorem walk_GateFaults (a0 : Int) (a1 : Int) (a2 : Bool) (w : World) (w0 : (Lit.int .i64 a0).wf = true) (w1 : (Lit.int .u32 a1).wf = true) (hL : laidMetH Tryz.prog Rows.gateFaultsRow.laid w) :
    Calls Tryz.prog 6 #[.int .i64 a0, .int .u32 a1, .bool a2] w fun e w' => e = .returned (.bool true) ∧ Below w.heap.size w w' := by
  obtain ⟨vs, vr, hE⟩ := (errs2 hL ⟨_, by repeat (first | exact List.Mem.head _ | apply List.Mem.tail)⟩ ⟨_, by repeat (first | exact List.Mem.head _ | apply List.Mem.tail)⟩)
  clear hL
  obtain ⟨R, hR, CR⟩ := number_nat a0 6 6 rfl (by decide) (by decide) (fit64 w0).1 (fit64 w0).2
  cases a2
  · exact faults_lost a0 a1 R hR CR (fit32 w1) w vs vr hE
  · exact faults_kept a0 a1 R hR CR (fit32 w1) w vs vr hE
end Go.Proofs.YtllcakiomihipaaGreatDoor
