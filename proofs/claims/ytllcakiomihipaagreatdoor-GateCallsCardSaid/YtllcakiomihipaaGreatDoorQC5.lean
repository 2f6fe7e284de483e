/-
  Gw, Gt, G8, G9, Gy, Gz, GCa, Reads, GCb, Yx, Yy, Yz, G2, GCc: what GateCalls reaches of them.
-/
import Derived.Test.YtllcakiomihipaaGreatDoorQC4
namespace Go.Proofs.YtllcakiomihipaaGreatDoor
open Go.ChangeShapes Go.WideShapes Go.ChangeAt Go.RowKit
set_option linter.unusedVariables false
set_option linter.unusedSimpArgs false
section
variable {w0 wb w w' W : World} {L : BLoc} {X : SLoc} {nd B : Nat} {A : List Nat} {F : Nat → Nat → Value} {l : List Int} {J NB : Nat}
set_option maxRecDepth 100000 in
set_option maxHeartbeats 4000000 in
theorem inv_pass5 (h : GS w0 w L X nd B A F l) (x : Int) (i : Nat) (hx : Hid (x = (i : Int))) (hi : i < nd) (rg : Nat → Int) (pc ft : Int) (kk : Nat → Nat → Int) (wt : Int) (hF : Hid (F i = RW rg pc 3 ft kk wt)) (how : Int) (h0 : 0 ≤ how) (h2 : how ≤ 2) (hxq : V.wfI x) (hl : l.length ≤ 1000) (k0 k1 k2 k3 k4 : Int) (m0 m1 m2 m3 m4 : Int) (n0 n1 n2 n3 n4 : Int) (p0 p1 p2 p3 p4 : Int) (o a b c : Int) (u0 u1 u2 u3 u4 : Int) (hSm : ∀ W, GS w0 W L X nd B [] F (V.offI l x) → Calls Tryz.prog 21 #[.pointer (some ⟨X.s, 0, none⟩), (Value.agg #[.int .i64 m0, .int .i64 m1, .int .i64 m2, .int .i64 m3, .int .u32 m4])] W fun e w' => e = .returned (Value.agg #[.int .i64 u0, .int .i64 u1, .int .i64 u2, .int .i64 u3, .int .u32 u4]) ∧ Below W.heap.size W w') (v0 v1 v2 v3 v4 : Int) (hSn : ∀ W, GS w0 W L X nd B [] F (V.offI l x) → Calls Tryz.prog 21 #[.pointer (some ⟨X.s, 0, none⟩), (Value.agg #[.int .i64 n0, .int .i64 n1, .int .i64 n2, .int .i64 n3, .int .u32 n4])] W fun e w' => e = .returned (Value.agg #[.int .i64 v0, .int .i64 v1, .int .i64 v2, .int .i64 v3, .int .u32 v4]) ∧ Below W.heap.size W w') (z0 z1 z2 z3 z4 : Int) (hSp : ∀ W, GS w0 W L X nd B [] F (V.offI l x) → Calls Tryz.prog 21 #[.pointer (some ⟨X.s, 0, none⟩), (Value.agg #[.int .i64 p0, .int .i64 p1, .int .i64 p2, .int .i64 p3, .int .u32 p4])] W fun e w' => e = .returned (Value.agg #[.int .i64 z0, .int .i64 z1, .int .i64 z2, .int .i64 z3, .int .u32 z4]) ∧ Below W.heap.size W w') (r0 r1 r2 r3 r4 : Int) (hS : ∀ W, GS w0 W L X nd B [] F (V.offI l x) → Calls Tryz.prog 21 #[.pointer (some ⟨X.s, 0, none⟩), (Value.agg #[.int .i64 k0, .int .i64 k1, .int .i64 k2, .int .i64 k3, .int .u32 k4])] W fun e w' => e = .returned (Value.agg #[.int .i64 r0, .int .i64 r1, .int .i64 r2, .int .i64 r3, .int .u32 r4]) ∧ Below W.heap.size W w') (h5 : r0 = 5) (hAn : ∀ W, GS w0 W L X nd B [] F (V.offI l x) → Calls Tryz.prog 32 #[.pointer (some ⟨X.s, 0, none⟩), (Value.agg #[.int .i64 r0, .int .i64 r1, .int .i64 r2, .int .i64 r3, .int .u32 r4]), (Value.agg #[.int .u32 o, .int .u32 a, .int .u32 b, .int .u32 c, .int .i64 u0, .int .i64 u1, .int .i64 u2, .int .i64 u3, .int .u32 u4, .int .i64 v0, .int .i64 v1, .int .i64 v2, .int .i64 v3, .int .u32 v4, .int .i64 z0, .int .i64 z1, .int .i64 z2, .int .i64 z3, .int .u32 z4])] W fun e w' => e = .returned (.tuple #[(Value.agg #[.int .u32 0, .int .u32 0, .int .u32 0, .int .u32 0, .int .i64 0, .int .i64 0, .int .i64 0, .int .i64 0, .int .u32 0, .int .i64 0, .int .i64 0, .int .i64 0, .int .i64 0, .int .u32 0, .int .i64 0, .int .i64 0, .int .i64 0, .int .i64 0, .int .u32 0]), .bool false]) ∧ Below W.heap.size W w') (hAv : ∀ W, GS w0 W L X nd B [] F (V.offI l x) → Calls Tryz.prog 34 #[.pointer (some ⟨X.s, 0, none⟩), .int .i64 r1] W fun e w' => e = .returned (.bool true) ∧ Below W.heap.size W w') (Q : Nat → (Nat → Nat → Value) → List Int → Prop) (hT : ∀ A' W, GS w0 W L X nd B A' F (V.offI l x) → Calls Tryz.prog 36 #[.pointer (some ⟨X.s, 0, none⟩), .int .i64 x, .int .i64 how, (Value.agg #[.int .i64 r0, .int .i64 r1, .int .i64 r2, .int .i64 r3, .int .u32 r4]), (Value.agg #[.int .u32 o, .int .u32 a, .int .u32 b, .int .u32 c, .int .i64 u0, .int .i64 u1, .int .i64 u2, .int .i64 u3, .int .u32 u4, .int .i64 v0, .int .i64 v1, .int .i64 v2, .int .i64 v3, .int .u32 v4, .int .i64 z0, .int .i64 z1, .int .i64 z2, .int .i64 z3, .int .u32 z4])] W fun e w' => (∃ v, e = .returned v) ∧ (∃ B' F' l', Q B' F' l' ∧ GS w0 w' L X nd B' A' F' l') ∧ GK A' W w') :
    Calls Tryz.prog 12 #[.pointer (some ⟨X.s, 0, none⟩), .int .i64 x, .int .i64 how, (Value.agg #[.int .i64 k0, .int .i64 k1, .int .i64 k2, .int .i64 k3, .int .u32 k4]), (Value.agg #[.int .u32 o, .int .u32 a, .int .u32 b, .int .u32 c, .int .i64 m0, .int .i64 m1, .int .i64 m2, .int .i64 m3, .int .u32 m4, .int .i64 n0, .int .i64 n1, .int .i64 n2, .int .i64 n3, .int .u32 n4, .int .i64 p0, .int .i64 p1, .int .i64 p2, .int .i64 p3, .int .u32 p4])] w fun e w' => e = .returned (.tuple #[.agg ([.int .i64 1, .int .i64 r1, .int .u32 0, .int .u32 0, .int .u32 0, .int .u32 0, .int .i64 0, .int .i64 0, .int .i64 0, .int .i64 0, .int .u32 0, .int .i64 0, .int .i64 0, .int .i64 0, .int .i64 0, .int .u32 0, .int .i64 0, .int .i64 0, .int .i64 0, .int .i64 0, .int .u32 0] : List Value).toArray, .nilIface]) ∧ (∃ B' F' l', Q B' F' l' ∧ GS w0 w' L X nd B' A F' l') ∧ GK A w w' := by
  have e5 : (r0 == 5) = true := by rw [h5]; rfl
  have HAn := Lib.hid hAn
  have HT := Lib.hid hT
  have HAv := Lib.hid hAv
  clear hAn hT h5 hAv
  have H := Lib.hid h
  have HOne : Hid (∀ j, j < 107 → (RW rg pc 3 ft kk wt j).oneCell' = true) := Lib.hid (fun j _ => RW_one _ _ _ _ _ _ j)
  have HOneF : Hid (∀ j, j < 107 → (F i j).oneCell' = true) := Lib.hid (by rw [hF.out]; exact HOne.out)
  have HS := Lib.hid hS
  have HM := Lib.hid hSm
  have HN2 := Lib.hid hSn
  have HP2 := Lib.hid hSp
  clear h hS hSm hSn hSp
  go_enter Tryz.func12, Tryz.ntmps12
  go_upto_region 1 with fail
  generalize hgA : World.alloc _ _ = wA; obtain ⟨KB, NB, RB, hKB, hNB, hRB⟩ : ∃ KB NB RB, KB = w.heap.size ∧ NB = w.heap.size + 1 ∧ RB = w.heap.size + 1 + 1 := ⟨_, _, _, rfl, rfl, rfl⟩; have HA : Hid (IV w0 w wA L X nd B A F l KB NB RB [.int .i64 k0, .int .i64 k1, .int .i64 k2, .int .i64 k3, .int .u32 k4] ([.int .u32 o, .int .u32 a, .int .u32 b, .int .u32 c, .int .i64 m0, .int .i64 m1, .int .i64 m2, .int .i64 m3, .int .u32 m4, .int .i64 n0, .int .i64 n1, .int .i64 n2, .int .i64 n3, .int .u32 n4, .int .i64 p0, .int .i64 p1, .int .i64 p2, .int .i64 p3, .int .u32 p4] : List Value) [.int .i64 0, .int .i64 0, .int .u32 0, .int .u32 0, .int .u32 0, .int .u32 0, .int .i64 0, .int .i64 0, .int .i64 0, .int .i64 0, .int .u32 0, .int .i64 0, .int .i64 0, .int .i64 0, .int .i64 0, .int .u32 0, .int .i64 0, .int .i64 0, .int .i64 0, .int .i64 0, .int .u32 0]) := (Lib.hid (by rw [← hgA, hKB, hNB, hRB]; exact IV.made H.out [.int .i64 k0, .int .i64 k1, .int .i64 k2, .int .i64 k3, .int .u32 k4] ([.int .u32 o, .int .u32 a, .int .u32 b, .int .u32 c, .int .i64 m0, .int .i64 m1, .int .i64 m2, .int .i64 m3, .int .u32 m4, .int .i64 n0, .int .i64 n1, .int .i64 n2, .int .i64 n3, .int .u32 n4, .int .i64 p0, .int .i64 p1, .int .i64 p2, .int .i64 p3, .int .u32 p4] : List Value) [.int .i64 0, .int .i64 0, .int .u32 0, .int .u32 0, .int .u32 0, .int .u32 0, .int .i64 0, .int .i64 0, .int .i64 0, .int .i64 0, .int .u32 0, .int .i64 0, .int .i64 0, .int .i64 0, .int .i64 0, .int .u32 0, .int .i64 0, .int .i64 0, .int .i64 0, .int .i64 0, .int .u32 0] _ _ _ rfl rfl rfl)); rw [← hRB, ← hNB, ← hKB]; clear hgA hKB hNB hRB
  have c1 := HA.out.gs.c1
  go_upto_region 2 with (first
    | (go_at_call 10; (with_reducible refine (HA.out.gs.get x i hx hi HOneF).mono ?_); rintro e w1 ⟨rfl, hb⟩; have H1 := Lib.hid (HA.out.below hb); clear hb)
    | (refine wpList_store_mid (by rfl) _ _ _ (by rfl) w1.heap.size 0 (rowL (F i)).toArray (by rfl) (by rfl) (by rw [rowL_size]; exact nthere_new _ _ 107 zsize _) (by rw [rowL_size]; exact infoDomS) (rowL_one (F i) HOneF.out) ?_))
  generalize hg : World.setCells _ w1.heap.size 0 _ = w2
  have H2 := Lib.hid (show IV w0 w w2 L X nd B A F l KB NB RB _ _ _ ∧ w2.rangeAt w1.heap.size 0 (rowL (RW rg pc 3 ft kk wt)) by rw [← hg, ← hF.out]; exact ⟨H1.out.below (nbelow_cells ((Below.refl _ _).alloc (Nat.le_refl _) _) (Nat.le_refl _) _ _), World.rangeAt_setCells_same _ _ 0 (rowL (F i)) (by rw [rowL_len]; exact nthere_new _ _ 107 zsize _)⟩)
  clear hg
  have j9 : w2.cell? ⟨w1.heap.size, 9, none⟩ = some (.int .i64 3) := rangeD H2.out.2 9 (by decide)
  have H2 := Lib.hid H2.out.1
  have c5 := H2.out.gs.c5
  go_upto_region 9 with (first
    | (go_at_call 31; (with_reducible refine (H2.out.gs.drop x hxq hl).mono ?_); rintro e w3 ⟨⟨t, rfl⟩, hg, hk⟩; have H3 := Lib.hid (H2.out.turn hg hk); clear hg hk c5 j9))
  have k1' := H3.out.kc
  go_upto_region 10 with (first
    | (refine wpList_load_mid (by rfl) _ _ (by rfl) KB 0 (by rfl) [.int .i64 k0, .int .i64 k1, .int .i64 k2, .int .i64 k3, .int .u32 k4] _ k1' Tryz.underlying31 rfl keyInfo5 ?_)
    | (go_at_call 21; (with_reducible refine (HS.out _ (H3.out.gs.sub (by simp))).mono ?_); rintro e w4 ⟨rfl, hb⟩; have H4 := Lib.hid (H3.out.below hb); clear hb k1')
    | (refine wpList_store_mid (by rfl) _ _ _ (by rfl) KB 0 #[.int .i64 r0, .int .i64 r1, .int .i64 r2, .int .i64 r3, .int .u32 r4] (by rfl) (by rfl) H4.out.kt keyInfo5 (by simp [Value.oneCell']) ?_))
  generalize hg : World.setCells w4 KB 0 _ = w5
  have H5 := Lib.hid (show IV w0 w w5 L X nd B A F (V.offI l x) KB NB RB [.int .i64 r0, .int .i64 r1, .int .i64 r2, .int .i64 r3, .int .u32 r4] _ _ by rw [← hg]; exact H4.out.putk [.int .i64 r0, .int .i64 r1, .int .i64 r2, .int .i64 r3, .int .u32 r4] rfl)
  clear hg
  have HN5 : Hid (w5.rangeAt NB 4 [.int .i64 m0, .int .i64 m1, .int .i64 m2, .int .i64 m3, .int .u32 m4, .int .i64 n0, .int .i64 n1, .int .i64 n2, .int .i64 n3, .int .u32 n4, .int .i64 p0, .int .i64 p1, .int .i64 p2, .int .i64 p3, .int .u32 p4]) := Lib.hid (fun j v hv => by
    have h := CallC.cell H5.out.nc (4 + j) v
    exact h (by
      have e : ([.int .u32 o, .int .u32 a, .int .u32 b, .int .u32 c, .int .i64 m0, .int .i64 m1, .int .i64 m2, .int .i64 m3, .int .u32 m4, .int .i64 n0, .int .i64 n1, .int .i64 n2, .int .i64 n3, .int .u32 n4, .int .i64 p0, .int .i64 p1, .int .i64 p2, .int .i64 p3, .int .u32 p4] : List Value) = [.int .u32 o, .int .u32 a, .int .u32 b, .int .u32 c] ++ [.int .i64 m0, .int .i64 m1, .int .i64 m2, .int .i64 m3, .int .u32 m4, .int .i64 n0, .int .i64 n1, .int .i64 n2, .int .i64 n3, .int .u32 n4, .int .i64 p0, .int .i64 p1, .int .i64 p2, .int .i64 p3, .int .u32 p4] := rfl
      rw [e, List.getElem?_append_right (by simp)]
      simpa using hv))
  go_wp2_with (first
    | (refine wpList_load_mid (by rfl) _ _ (by rfl) NB 4 (by rfl) [.int .i64 m0, .int .i64 m1, .int .i64 m2, .int .i64 m3, .int .u32 m4, .int .i64 n0, .int .i64 n1, .int .i64 n2, .int .i64 n3, .int .u32 n4, .int .i64 p0, .int .i64 p1, .int .i64 p2, .int .i64 p3, .int .u32 p4] _ HN5.out Tryz.underlying50 rfl (by kernel_rfl) ?_))
  refine wp_loop_rounds 4 ?_
  rw [rounds_succ]; have hix : (Instr.index 50 (.agg [.int .i64 m0, .int .i64 m1, .int .i64 m2, .int .i64 m3, .int .u32 m4, .int .i64 n0, .int .i64 n1, .int .i64 n2, .int .i64 n3, .int .u32 n4, .int .i64 p0, .int .i64 p1, .int .i64 p2, .int .i64 p3, .int .u32 p4].toArray) (.int .i64 0)).run Tryz.prog w5 = .ok (.agg (List.toArray [.int .i64 m0, .int .i64 m1, .int .i64 m2, .int .i64 m3, .int .u32 m4])) w5 := (by kernel_rfl); simp only [List.toArray] at hix; go_upto_region 13 with fail; generalize hg : World.alloc w5 _ = w6; obtain ⟨XB, hXB⟩ : ∃ XB, XB = w5.heap.size := ⟨_, rfl⟩; have H6 := Lib.hid (show IV w0 w w6 L X nd B A F (V.offI l x) KB NB RB _ _ _ ∧ w6.rangeAt XB 0 [.int .i64 m0, .int .i64 m1, .int .i64 m2, .int .i64 m3, .int .u32 m4] by rw [← hg, hXB]; exact ⟨H5.out.below ((Below.refl _ _).alloc (Nat.le_refl _) _), cbox _ [.int .i64 m0, .int .i64 m1, .int .i64 m2, .int .i64 m3, .int .u32 m4] _⟩); rw [← hXB]; clear hg hXB hix; go_upto_region 14 with (first | (refine wpList_load_mid (by rfl) _ _ (by rfl) XB 0 (by rfl) [.int .i64 m0, .int .i64 m1, .int .i64 m2, .int .i64 m3, .int .u32 m4] _ H6.out.2 Tryz.underlying31 rfl keyInfo5 ?_) | (go_at_call 21; (with_reducible refine (HM.out _ (H6.out.1.gs.sub (by simp))).mono ?_); rintro e w7 ⟨rfl, hb⟩; have H7 := Lib.hid (H6.out.1.below hb); clear hb) | (refine wpList_store_mid (by rfl) _ _ _ (by rfl) NB 4 (List.toArray [.int .i64 u0, .int .i64 u1, .int .i64 u2, .int .i64 u3, .int .u32 u4]) (by rfl) (by rfl) (fun j hj => by have hj' : j < 5 := hj; have h := H7.out.ot (4 + j) (by omega); rwa [Nat.zero_add] at h) keyInfo5 (by simp [Value.oneCell']) ?_)); generalize hg : World.setCells w7 NB 4 _ = w8; have H8 := Lib.hid (show IV w0 w w8 L X nd B A F (V.offI l x) KB NB RB _ ([.int .u32 o, .int .u32 a, .int .u32 b, .int .u32 c, .int .i64 u0, .int .i64 u1, .int .i64 u2, .int .i64 u3, .int .u32 u4, .int .i64 n0, .int .i64 n1, .int .i64 n2, .int .i64 n3, .int .u32 n4, .int .i64 p0, .int .i64 p1, .int .i64 p2, .int .i64 p3, .int .u32 p4] : List Value) _ by rw [← hg]; exact H7.out.putn 4 [.int .i64 u0, .int .i64 u1, .int .i64 u2, .int .i64 u3, .int .u32 u4] _ (range_key5 H7.out.nc 4 _ _ _ _ _)); clear hg; go_wp2_with fail
  rw [rounds_succ]; have hix : (Instr.index 50 (.agg [.int .i64 m0, .int .i64 m1, .int .i64 m2, .int .i64 m3, .int .u32 m4, .int .i64 n0, .int .i64 n1, .int .i64 n2, .int .i64 n3, .int .u32 n4, .int .i64 p0, .int .i64 p1, .int .i64 p2, .int .i64 p3, .int .u32 p4].toArray) (.int .i64 1)).run Tryz.prog w8 = .ok (.agg (List.toArray [.int .i64 n0, .int .i64 n1, .int .i64 n2, .int .i64 n3, .int .u32 n4])) w8 := (by kernel_rfl); simp only [List.toArray] at hix; go_upto_region 13 with fail; generalize hg : World.alloc w8 _ = w6; obtain ⟨XB, hXB⟩ : ∃ XB, XB = w8.heap.size := ⟨_, rfl⟩; have H6 := Lib.hid (show IV w0 w w6 L X nd B A F (V.offI l x) KB NB RB _ _ _ ∧ w6.rangeAt XB 0 [.int .i64 n0, .int .i64 n1, .int .i64 n2, .int .i64 n3, .int .u32 n4] by rw [← hg, hXB]; exact ⟨H8.out.below ((Below.refl _ _).alloc (Nat.le_refl _) _), cbox _ [.int .i64 n0, .int .i64 n1, .int .i64 n2, .int .i64 n3, .int .u32 n4] _⟩); rw [← hXB]; clear hg hXB hix; go_upto_region 14 with (first | (refine wpList_load_mid (by rfl) _ _ (by rfl) XB 0 (by rfl) [.int .i64 n0, .int .i64 n1, .int .i64 n2, .int .i64 n3, .int .u32 n4] _ H6.out.2 Tryz.underlying31 rfl keyInfo5 ?_) | (go_at_call 21; (with_reducible refine (HN2.out _ (H6.out.1.gs.sub (by simp))).mono ?_); rintro e w7 ⟨rfl, hb⟩; have H7 := Lib.hid (H6.out.1.below hb); clear hb) | (refine wpList_store_mid (by rfl) _ _ _ (by rfl) NB 9 (List.toArray [.int .i64 v0, .int .i64 v1, .int .i64 v2, .int .i64 v3, .int .u32 v4]) (by rfl) (by rfl) (fun j hj => by have hj' : j < 5 := hj; have h := H7.out.ot (9 + j) (by omega); rwa [Nat.zero_add] at h) keyInfo5 (by simp [Value.oneCell']) ?_)); generalize hg : World.setCells w7 NB 9 _ = w9; have H9 := Lib.hid (show IV w0 w w9 L X nd B A F (V.offI l x) KB NB RB _ ([.int .u32 o, .int .u32 a, .int .u32 b, .int .u32 c, .int .i64 u0, .int .i64 u1, .int .i64 u2, .int .i64 u3, .int .u32 u4, .int .i64 v0, .int .i64 v1, .int .i64 v2, .int .i64 v3, .int .u32 v4, .int .i64 p0, .int .i64 p1, .int .i64 p2, .int .i64 p3, .int .u32 p4] : List Value) _ by rw [← hg]; exact H7.out.putn 9 [.int .i64 v0, .int .i64 v1, .int .i64 v2, .int .i64 v3, .int .u32 v4] _ (range_key5 H7.out.nc 9 _ _ _ _ _)); clear hg; go_wp2_with fail
  rw [rounds_succ]; have hix : (Instr.index 50 (.agg [.int .i64 m0, .int .i64 m1, .int .i64 m2, .int .i64 m3, .int .u32 m4, .int .i64 n0, .int .i64 n1, .int .i64 n2, .int .i64 n3, .int .u32 n4, .int .i64 p0, .int .i64 p1, .int .i64 p2, .int .i64 p3, .int .u32 p4].toArray) (.int .i64 2)).run Tryz.prog w9 = .ok (.agg (List.toArray [.int .i64 p0, .int .i64 p1, .int .i64 p2, .int .i64 p3, .int .u32 p4])) w9 := (by kernel_rfl); simp only [List.toArray] at hix; go_upto_region 13 with fail; generalize hg : World.alloc w9 _ = w6; obtain ⟨XB, hXB⟩ : ∃ XB, XB = w9.heap.size := ⟨_, rfl⟩; have H6 := Lib.hid (show IV w0 w w6 L X nd B A F (V.offI l x) KB NB RB _ _ _ ∧ w6.rangeAt XB 0 [.int .i64 p0, .int .i64 p1, .int .i64 p2, .int .i64 p3, .int .u32 p4] by rw [← hg, hXB]; exact ⟨H9.out.below ((Below.refl _ _).alloc (Nat.le_refl _) _), cbox _ [.int .i64 p0, .int .i64 p1, .int .i64 p2, .int .i64 p3, .int .u32 p4] _⟩); rw [← hXB]; clear hg hXB hix; go_upto_region 14 with (first | (refine wpList_load_mid (by rfl) _ _ (by rfl) XB 0 (by rfl) [.int .i64 p0, .int .i64 p1, .int .i64 p2, .int .i64 p3, .int .u32 p4] _ H6.out.2 Tryz.underlying31 rfl keyInfo5 ?_) | (go_at_call 21; (with_reducible refine (HP2.out _ (H6.out.1.gs.sub (by simp))).mono ?_); rintro e w7 ⟨rfl, hb⟩; have H7 := Lib.hid (H6.out.1.below hb); clear hb) | (refine wpList_store_mid (by rfl) _ _ _ (by rfl) NB 14 (List.toArray [.int .i64 z0, .int .i64 z1, .int .i64 z2, .int .i64 z3, .int .u32 z4]) (by rfl) (by rfl) (fun j hj => by have hj' : j < 5 := hj; have h := H7.out.ot (14 + j) (by omega); rwa [Nat.zero_add] at h) keyInfo5 (by simp [Value.oneCell']) ?_)); generalize hg : World.setCells w7 NB 14 _ = w10; have H10 := Lib.hid (show IV w0 w w10 L X nd B A F (V.offI l x) KB NB RB _ ([.int .u32 o, .int .u32 a, .int .u32 b, .int .u32 c, .int .i64 u0, .int .i64 u1, .int .i64 u2, .int .i64 u3, .int .u32 u4, .int .i64 v0, .int .i64 v1, .int .i64 v2, .int .i64 v3, .int .u32 v4, .int .i64 z0, .int .i64 z1, .int .i64 z2, .int .i64 z3, .int .u32 z4] : List Value) _ by rw [← hg]; exact H7.out.putn 14 [.int .i64 z0, .int .i64 z1, .int .i64 z2, .int .i64 z3, .int .u32 z4] _ (range_key5 H7.out.nc 14 _ _ _ _ _)); clear hg; go_wp2_with fail
  rw [rounds_succ]
  clear H1 H2 H3 H4 H5 H6 H7 H8 H9 HA HN5
  go_upto_region 15 with fail
  have hkc := H10.out.kc
  have hnc := H10.out.nc
  have HG10 := Lib.hid (H10.out.gs.sub (A' := []) (by simp))
  go_upto_region 16 with (first
    | (refine wpList_load_mid (by rfl) _ _ (by rfl) KB 0 (by rfl) [.int .i64 r0, .int .i64 r1, .int .i64 r2, .int .i64 r3, .int .u32 r4] _ hkc Tryz.underlying31 rfl keyInfo5 ?_; clear hkc)
    | (refine wpList_load_mid (by rfl) _ _ (by rfl) NB 0 (by rfl) ([.int .u32 o, .int .u32 a, .int .u32 b, .int .u32 c, .int .i64 u0, .int .i64 u1, .int .i64 u2, .int .i64 u3, .int .u32 u4, .int .i64 v0, .int .i64 v1, .int .i64 v2, .int .i64 v3, .int .u32 v4, .int .i64 z0, .int .i64 z1, .int .i64 z2, .int .i64 z3, .int .u32 z4] : List Value) _ hnc Tryz.underlying52 rfl infoNote ?_)
    | (go_at_call 32; (with_reducible refine (HAn.out _ HG10.out).mono ?_); rintro e w11 ⟨rfl, hb⟩; have H11 := Lib.hid (H10.out.below hb); clear hb hnc)
    | (refine wpList_store_mid (by rfl) _ _ _ (by rfl) w11.heap.size 0 ([.int .u32 0, .int .u32 0, .int .u32 0, .int .u32 0, .int .i64 0, .int .i64 0, .int .i64 0, .int .i64 0, .int .u32 0, .int .i64 0, .int .i64 0, .int .i64 0, .int .i64 0, .int .u32 0, .int .i64 0, .int .i64 0, .int .i64 0, .int .i64 0, .int .u32 0] : List Value).toArray (by rfl) (by rfl) (nthere_new _ _ 19 (by rfl) _) infoNote (note_one _ _ _ _ _ _ _ _ _ _ _ _ _ _ _ _ _ _ _) ?_; generalize hg : World.setCells _ w11.heap.size 0 _ = w12))
  have H12 := Lib.hid (show IV w0 w w12 L X nd B A F (V.offI l x) KB NB RB _ _ _ by
    have b := nbelow_cells ((Below.refl _ _).alloc (Nat.le_refl _) _ : Below w11.heap.size w11 (w11.alloc (.cells ([.int .u32 0, .int .u32 0, .int .u32 0, .int .u32 0, .int .i64 0, .int .i64 0, .int .i64 0, .int .i64 0, .int .u32 0, .int .i64 0, .int .i64 0, .int .i64 0, .int .i64 0, .int .u32 0, .int .i64 0, .int .i64 0, .int .i64 0, .int .i64 0, .int .u32 0] : List Value).toArray 52))) (Nat.le_refl _) [.int .u32 0, .int .u32 0, .int .u32 0, .int .u32 0, .int .i64 0, .int .i64 0, .int .i64 0, .int .i64 0, .int .u32 0, .int .i64 0, .int .i64 0, .int .i64 0, .int .i64 0, .int .u32 0, .int .i64 0, .int .i64 0, .int .i64 0, .int .i64 0, .int .u32 0] 0
    rw [← hg]
    exact H11.out.below b)
  clear hg H10 H11 HG10
  have q0 := CallC.cell H12.out.kc 0 _ rfl
  have q1 := CallC.cell H12.out.kc 1 _ rfl
  have HG12 := Lib.hid (H12.out.gs.sub (A' := []) (by simp))
  go_upto_region 22 with (first | (go_at_call 34; (with_reducible refine (HAv.out _ HG12.out).mono ?_); rintro e w13 ⟨rfl, hb⟩; have H13 := Lib.hid (H12.out.below hb); clear hb q0 q1; have q1 := CallC.cell H13.out.kc 1 _ rfl; have HG13 := Lib.hid H13.out.gs))
  have hkc := H13.out.kc
  have hnc := H13.out.nc
  go_upto_region 23 with (first
    | (refine wpList_load_mid (by rfl) _ _ (by rfl) KB 0 (by rfl) [.int .i64 r0, .int .i64 r1, .int .i64 r2, .int .i64 r3, .int .u32 r4] _ hkc Tryz.underlying31 rfl keyInfo5 ?_; clear hkc)
    | (refine wpList_load_mid (by rfl) _ _ (by rfl) NB 0 (by rfl) ([.int .u32 o, .int .u32 a, .int .u32 b, .int .u32 c, .int .i64 u0, .int .i64 u1, .int .i64 u2, .int .i64 u3, .int .u32 u4, .int .i64 v0, .int .i64 v1, .int .i64 v2, .int .i64 v3, .int .u32 v4, .int .i64 z0, .int .i64 z1, .int .i64 z2, .int .i64 z3, .int .u32 z4] : List Value) _ hnc Tryz.underlying52 rfl infoNote ?_)
    | (go_at_call 36; (with_reducible refine (HT.out _ _ HG13.out).mono ?_); rintro e w14 ⟨⟨vT, rfl⟩, hq, hk⟩; have H14 := Lib.hid hq; have K14 := Lib.hid hk; have HR14 := Lib.hid (nthere_same H13.out.rt (hk.eq RB (by simp))); have HK14 := Lib.hid (range_same H13.out.kc (hk.eq KB (by simp))); clear hq hk q1 hnc))
  have q1 := CallC.cell HK14.out 1 _ rfl
  go_wp2_with (first
    | (refine wpList_store_mid (by rfl) _ _ _ (by rfl) RB 0 ([.int .i64 1, .int .i64 r1, .int .u32 0, .int .u32 0, .int .u32 0, .int .u32 0, .int .i64 0, .int .i64 0, .int .i64 0, .int .i64 0, .int .u32 0, .int .i64 0, .int .i64 0, .int .i64 0, .int .i64 0, .int .u32 0, .int .i64 0, .int .i64 0, .int .i64 0, .int .i64 0, .int .u32 0] : List Value).toArray (by rfl) (by rfl) HR14.out (by kernel_rfl) (by simp [Value.oneCell']) ?_; generalize hg : World.setCells _ RB 0 _ = w19))
  obtain ⟨B9, F9, l9, hQ9, hG9⟩ := H14.out
  have H19 := Lib.hid (show GS w0 w19 L X nd B9 (RB :: NB :: KB :: A) F9 l9 ∧ GK A w14 w19 ∧ w19.rangeAt RB 0 ([.int .i64 1, .int .i64 r1, .int .u32 0, .int .u32 0, .int .u32 0, .int .u32 0, .int .i64 0, .int .i64 0, .int .i64 0, .int .i64 0, .int .u32 0, .int .i64 0, .int .i64 0, .int .i64 0, .int .i64 0, .int .u32 0, .int .i64 0, .int .i64 0, .int .i64 0, .int .i64 0, .int .u32 0] : List Value) by
    have hlt := H13.out.lt
    have hxs := H13.out.xs
    have hna := H13.out.na
    rw [← hg]
    exact ⟨hG9.cells RB (by simp) (by omega) 0 _, GK.cells (fun hm => by have := hna _ hm; omega) _ _ _, World.rangeAt_setCells_same _ _ 0 ([.int .i64 1, .int .i64 r1, .int .u32 0, .int .u32 0, .int .u32 0, .int .u32 0, .int .i64 0, .int .i64 0, .int .i64 0, .int .i64 0, .int .u32 0, .int .i64 0, .int .i64 0, .int .i64 0, .int .i64 0, .int .u32 0, .int .i64 0, .int .i64 0, .int .i64 0, .int .i64 0, .int .u32 0] : List Value) HR14.out⟩)
  clear hg hG9
  go_wp2_with fail
  have hld := run_loadVar_mid (P := Tryz.prog) w19 RB 0 54 ([.int .i64 1, .int .i64 r1, .int .u32 0, .int .u32 0, .int .u32 0, .int .u32 0, .int .i64 0, .int .i64 0, .int .i64 0, .int .i64 0, .int .u32 0, .int .i64 0, .int .i64 0, .int .i64 0, .int .i64 0, .int .u32 0, .int .i64 0, .int .i64 0, .int .i64 0, .int .i64 0, .int .u32 0] : List Value) _ H19.out.2.2 Tryz.underlying54 rfl (by kernel_rfl)
  (try simp only [Exit.inBlock, Exit.then])
  exact bodyPost_ret (results_cell_tmp (a := 10) (t := 11) (by rfl) _ ⟨RB, 0, none⟩ (by rfl) _ _ _ hld) rfl ⟨rfl, ⟨B9, F9, l9, hQ9, H19.out.1.tail.tail.tail⟩, H13.out.gk.trans (K14.out.tail.tail.tail.trans H19.out.2.1)⟩
set_option maxRecDepth 100000 in
set_option maxHeartbeats 4000000 in
theorem inv_pass6 (h : GS w0 w L X nd B A F l) (x : Int) (i : Nat) (hx : Hid (x = (i : Int))) (hi : i < nd) (rg : Nat → Int) (pc ft : Int) (kk : Nat → Nat → Int) (wt : Int) (hF : Hid (F i = RW rg pc 3 ft kk wt)) (how : Int) (h0 : 0 ≤ how) (h2 : how ≤ 2) (hxq : V.wfI x) (hl : l.length ≤ 1000) (k0 k1 k2 k3 k4 : Int) (m0 m1 m2 m3 m4 : Int) (n0 n1 n2 n3 n4 : Int) (p0 p1 p2 p3 p4 : Int) (o a b c : Int) (u0 u1 u2 u3 u4 : Int) (hSm : ∀ W, GS w0 W L X nd B [] F (V.offI l x) → Calls Tryz.prog 21 #[.pointer (some ⟨X.s, 0, none⟩), (Value.agg #[.int .i64 m0, .int .i64 m1, .int .i64 m2, .int .i64 m3, .int .u32 m4])] W fun e w' => e = .returned (Value.agg #[.int .i64 u0, .int .i64 u1, .int .i64 u2, .int .i64 u3, .int .u32 u4]) ∧ Below W.heap.size W w') (v0 v1 v2 v3 v4 : Int) (hSn : ∀ W, GS w0 W L X nd B [] F (V.offI l x) → Calls Tryz.prog 21 #[.pointer (some ⟨X.s, 0, none⟩), (Value.agg #[.int .i64 n0, .int .i64 n1, .int .i64 n2, .int .i64 n3, .int .u32 n4])] W fun e w' => e = .returned (Value.agg #[.int .i64 v0, .int .i64 v1, .int .i64 v2, .int .i64 v3, .int .u32 v4]) ∧ Below W.heap.size W w') (z0 z1 z2 z3 z4 : Int) (hSp : ∀ W, GS w0 W L X nd B [] F (V.offI l x) → Calls Tryz.prog 21 #[.pointer (some ⟨X.s, 0, none⟩), (Value.agg #[.int .i64 p0, .int .i64 p1, .int .i64 p2, .int .i64 p3, .int .u32 p4])] W fun e w' => e = .returned (Value.agg #[.int .i64 z0, .int .i64 z1, .int .i64 z2, .int .i64 z3, .int .u32 z4]) ∧ Below W.heap.size W w') (r0 r1 r2 r3 r4 : Int) (hS : ∀ W, GS w0 W L X nd B [] F (V.offI l x) → Calls Tryz.prog 21 #[.pointer (some ⟨X.s, 0, none⟩), (Value.agg #[.int .i64 k0, .int .i64 k1, .int .i64 k2, .int .i64 k3, .int .u32 k4])] W fun e w' => e = .returned (Value.agg #[.int .i64 r0, .int .i64 r1, .int .i64 r2, .int .i64 r3, .int .u32 r4]) ∧ Below W.heap.size W w') (h5 : r0 = 6) (hAn : ∀ W, GS w0 W L X nd B [] F (V.offI l x) → Calls Tryz.prog 32 #[.pointer (some ⟨X.s, 0, none⟩), (Value.agg #[.int .i64 r0, .int .i64 r1, .int .i64 r2, .int .i64 r3, .int .u32 r4]), (Value.agg #[.int .u32 o, .int .u32 a, .int .u32 b, .int .u32 c, .int .i64 u0, .int .i64 u1, .int .i64 u2, .int .i64 u3, .int .u32 u4, .int .i64 v0, .int .i64 v1, .int .i64 v2, .int .i64 v3, .int .u32 v4, .int .i64 z0, .int .i64 z1, .int .i64 z2, .int .i64 z3, .int .u32 z4])] W fun e w' => e = .returned (.tuple #[(Value.agg #[.int .u32 0, .int .u32 0, .int .u32 0, .int .u32 0, .int .i64 0, .int .i64 0, .int .i64 0, .int .i64 0, .int .u32 0, .int .i64 0, .int .i64 0, .int .i64 0, .int .i64 0, .int .u32 0, .int .i64 0, .int .i64 0, .int .i64 0, .int .i64 0, .int .u32 0]), .bool false]) ∧ Below W.heap.size W w') (Q : Nat → (Nat → Nat → Value) → List Int → Prop) (hT : ∀ A' W, GS w0 W L X nd B A' F (V.offI l x) → Calls Tryz.prog 36 #[.pointer (some ⟨X.s, 0, none⟩), .int .i64 x, .int .i64 how, (Value.agg #[.int .i64 r0, .int .i64 r1, .int .i64 r2, .int .i64 r3, .int .u32 r4]), (Value.agg #[.int .u32 o, .int .u32 a, .int .u32 b, .int .u32 c, .int .i64 u0, .int .i64 u1, .int .i64 u2, .int .i64 u3, .int .u32 u4, .int .i64 v0, .int .i64 v1, .int .i64 v2, .int .i64 v3, .int .u32 v4, .int .i64 z0, .int .i64 z1, .int .i64 z2, .int .i64 z3, .int .u32 z4])] W fun e w' => (∃ v, e = .returned v) ∧ (∃ B' F' l', Q B' F' l' ∧ GS w0 w' L X nd B' A' F' l') ∧ GK A' W w') :
    Calls Tryz.prog 12 #[.pointer (some ⟨X.s, 0, none⟩), .int .i64 x, .int .i64 how, (Value.agg #[.int .i64 k0, .int .i64 k1, .int .i64 k2, .int .i64 k3, .int .u32 k4]), (Value.agg #[.int .u32 o, .int .u32 a, .int .u32 b, .int .u32 c, .int .i64 m0, .int .i64 m1, .int .i64 m2, .int .i64 m3, .int .u32 m4, .int .i64 n0, .int .i64 n1, .int .i64 n2, .int .i64 n3, .int .u32 n4, .int .i64 p0, .int .i64 p1, .int .i64 p2, .int .i64 p3, .int .u32 p4])] w fun e w' => e = .returned (.tuple #[.agg ([.int .i64 1, .int .i64 r1, .int .u32 0, .int .u32 0, .int .u32 0, .int .u32 0, .int .i64 0, .int .i64 0, .int .i64 0, .int .i64 0, .int .u32 0, .int .i64 0, .int .i64 0, .int .i64 0, .int .i64 0, .int .u32 0, .int .i64 0, .int .i64 0, .int .i64 0, .int .i64 0, .int .u32 0] : List Value).toArray, .nilIface]) ∧ (∃ B' F' l', Q B' F' l' ∧ GS w0 w' L X nd B' A F' l') ∧ GK A w w' := by
  have e5 : (r0 == 5) = false := by rw [h5]; rfl
  have HAn := Lib.hid hAn
  have HT := Lib.hid hT
  clear hAn hT h5
  have H := Lib.hid h
  have HOne : Hid (∀ j, j < 107 → (RW rg pc 3 ft kk wt j).oneCell' = true) := Lib.hid (fun j _ => RW_one _ _ _ _ _ _ j)
  have HOneF : Hid (∀ j, j < 107 → (F i j).oneCell' = true) := Lib.hid (by rw [hF.out]; exact HOne.out)
  have HS := Lib.hid hS
  have HM := Lib.hid hSm
  have HN2 := Lib.hid hSn
  have HP2 := Lib.hid hSp
  clear h hS hSm hSn hSp
  go_enter Tryz.func12, Tryz.ntmps12
  go_upto_region 1 with fail
  generalize hgA : World.alloc _ _ = wA; obtain ⟨KB, NB, RB, hKB, hNB, hRB⟩ : ∃ KB NB RB, KB = w.heap.size ∧ NB = w.heap.size + 1 ∧ RB = w.heap.size + 1 + 1 := ⟨_, _, _, rfl, rfl, rfl⟩; have HA : Hid (IV w0 w wA L X nd B A F l KB NB RB [.int .i64 k0, .int .i64 k1, .int .i64 k2, .int .i64 k3, .int .u32 k4] ([.int .u32 o, .int .u32 a, .int .u32 b, .int .u32 c, .int .i64 m0, .int .i64 m1, .int .i64 m2, .int .i64 m3, .int .u32 m4, .int .i64 n0, .int .i64 n1, .int .i64 n2, .int .i64 n3, .int .u32 n4, .int .i64 p0, .int .i64 p1, .int .i64 p2, .int .i64 p3, .int .u32 p4] : List Value) [.int .i64 0, .int .i64 0, .int .u32 0, .int .u32 0, .int .u32 0, .int .u32 0, .int .i64 0, .int .i64 0, .int .i64 0, .int .i64 0, .int .u32 0, .int .i64 0, .int .i64 0, .int .i64 0, .int .i64 0, .int .u32 0, .int .i64 0, .int .i64 0, .int .i64 0, .int .i64 0, .int .u32 0]) := (Lib.hid (by rw [← hgA, hKB, hNB, hRB]; exact IV.made H.out [.int .i64 k0, .int .i64 k1, .int .i64 k2, .int .i64 k3, .int .u32 k4] ([.int .u32 o, .int .u32 a, .int .u32 b, .int .u32 c, .int .i64 m0, .int .i64 m1, .int .i64 m2, .int .i64 m3, .int .u32 m4, .int .i64 n0, .int .i64 n1, .int .i64 n2, .int .i64 n3, .int .u32 n4, .int .i64 p0, .int .i64 p1, .int .i64 p2, .int .i64 p3, .int .u32 p4] : List Value) [.int .i64 0, .int .i64 0, .int .u32 0, .int .u32 0, .int .u32 0, .int .u32 0, .int .i64 0, .int .i64 0, .int .i64 0, .int .i64 0, .int .u32 0, .int .i64 0, .int .i64 0, .int .i64 0, .int .i64 0, .int .u32 0, .int .i64 0, .int .i64 0, .int .i64 0, .int .i64 0, .int .u32 0] _ _ _ rfl rfl rfl)); rw [← hRB, ← hNB, ← hKB]; clear hgA hKB hNB hRB
  have c1 := HA.out.gs.c1
  go_upto_region 2 with (first
    | (go_at_call 10; (with_reducible refine (HA.out.gs.get x i hx hi HOneF).mono ?_); rintro e w1 ⟨rfl, hb⟩; have H1 := Lib.hid (HA.out.below hb); clear hb)
    | (refine wpList_store_mid (by rfl) _ _ _ (by rfl) w1.heap.size 0 (rowL (F i)).toArray (by rfl) (by rfl) (by rw [rowL_size]; exact nthere_new _ _ 107 zsize _) (by rw [rowL_size]; exact infoDomS) (rowL_one (F i) HOneF.out) ?_))
  generalize hg : World.setCells _ w1.heap.size 0 _ = w2
  have H2 := Lib.hid (show IV w0 w w2 L X nd B A F l KB NB RB _ _ _ ∧ w2.rangeAt w1.heap.size 0 (rowL (RW rg pc 3 ft kk wt)) by rw [← hg, ← hF.out]; exact ⟨H1.out.below (nbelow_cells ((Below.refl _ _).alloc (Nat.le_refl _) _) (Nat.le_refl _) _ _), World.rangeAt_setCells_same _ _ 0 (rowL (F i)) (by rw [rowL_len]; exact nthere_new _ _ 107 zsize _)⟩)
  clear hg
  have j9 : w2.cell? ⟨w1.heap.size, 9, none⟩ = some (.int .i64 3) := rangeD H2.out.2 9 (by decide)
  have H2 := Lib.hid H2.out.1
  have c5 := H2.out.gs.c5
  go_upto_region 9 with (first
    | (go_at_call 31; (with_reducible refine (H2.out.gs.drop x hxq hl).mono ?_); rintro e w3 ⟨⟨t, rfl⟩, hg, hk⟩; have H3 := Lib.hid (H2.out.turn hg hk); clear hg hk c5 j9))
  have k1' := H3.out.kc
  go_upto_region 10 with (first
    | (refine wpList_load_mid (by rfl) _ _ (by rfl) KB 0 (by rfl) [.int .i64 k0, .int .i64 k1, .int .i64 k2, .int .i64 k3, .int .u32 k4] _ k1' Tryz.underlying31 rfl keyInfo5 ?_)
    | (go_at_call 21; (with_reducible refine (HS.out _ (H3.out.gs.sub (by simp))).mono ?_); rintro e w4 ⟨rfl, hb⟩; have H4 := Lib.hid (H3.out.below hb); clear hb k1')
    | (refine wpList_store_mid (by rfl) _ _ _ (by rfl) KB 0 #[.int .i64 r0, .int .i64 r1, .int .i64 r2, .int .i64 r3, .int .u32 r4] (by rfl) (by rfl) H4.out.kt keyInfo5 (by simp [Value.oneCell']) ?_))
  generalize hg : World.setCells w4 KB 0 _ = w5
  have H5 := Lib.hid (show IV w0 w w5 L X nd B A F (V.offI l x) KB NB RB [.int .i64 r0, .int .i64 r1, .int .i64 r2, .int .i64 r3, .int .u32 r4] _ _ by rw [← hg]; exact H4.out.putk [.int .i64 r0, .int .i64 r1, .int .i64 r2, .int .i64 r3, .int .u32 r4] rfl)
  clear hg
  have HN5 : Hid (w5.rangeAt NB 4 [.int .i64 m0, .int .i64 m1, .int .i64 m2, .int .i64 m3, .int .u32 m4, .int .i64 n0, .int .i64 n1, .int .i64 n2, .int .i64 n3, .int .u32 n4, .int .i64 p0, .int .i64 p1, .int .i64 p2, .int .i64 p3, .int .u32 p4]) := Lib.hid (fun j v hv => by
    have h := CallC.cell H5.out.nc (4 + j) v
    exact h (by
      have e : ([.int .u32 o, .int .u32 a, .int .u32 b, .int .u32 c, .int .i64 m0, .int .i64 m1, .int .i64 m2, .int .i64 m3, .int .u32 m4, .int .i64 n0, .int .i64 n1, .int .i64 n2, .int .i64 n3, .int .u32 n4, .int .i64 p0, .int .i64 p1, .int .i64 p2, .int .i64 p3, .int .u32 p4] : List Value) = [.int .u32 o, .int .u32 a, .int .u32 b, .int .u32 c] ++ [.int .i64 m0, .int .i64 m1, .int .i64 m2, .int .i64 m3, .int .u32 m4, .int .i64 n0, .int .i64 n1, .int .i64 n2, .int .i64 n3, .int .u32 n4, .int .i64 p0, .int .i64 p1, .int .i64 p2, .int .i64 p3, .int .u32 p4] := rfl
      rw [e, List.getElem?_append_right (by simp)]
      simpa using hv))
  go_wp2_with (first
    | (refine wpList_load_mid (by rfl) _ _ (by rfl) NB 4 (by rfl) [.int .i64 m0, .int .i64 m1, .int .i64 m2, .int .i64 m3, .int .u32 m4, .int .i64 n0, .int .i64 n1, .int .i64 n2, .int .i64 n3, .int .u32 n4, .int .i64 p0, .int .i64 p1, .int .i64 p2, .int .i64 p3, .int .u32 p4] _ HN5.out Tryz.underlying50 rfl (by kernel_rfl) ?_))
  refine wp_loop_rounds 4 ?_
  rw [rounds_succ]; have hix : (Instr.index 50 (.agg [.int .i64 m0, .int .i64 m1, .int .i64 m2, .int .i64 m3, .int .u32 m4, .int .i64 n0, .int .i64 n1, .int .i64 n2, .int .i64 n3, .int .u32 n4, .int .i64 p0, .int .i64 p1, .int .i64 p2, .int .i64 p3, .int .u32 p4].toArray) (.int .i64 0)).run Tryz.prog w5 = .ok (.agg (List.toArray [.int .i64 m0, .int .i64 m1, .int .i64 m2, .int .i64 m3, .int .u32 m4])) w5 := (by kernel_rfl); simp only [List.toArray] at hix; go_upto_region 13 with fail; generalize hg : World.alloc w5 _ = w6; obtain ⟨XB, hXB⟩ : ∃ XB, XB = w5.heap.size := ⟨_, rfl⟩; have H6 := Lib.hid (show IV w0 w w6 L X nd B A F (V.offI l x) KB NB RB _ _ _ ∧ w6.rangeAt XB 0 [.int .i64 m0, .int .i64 m1, .int .i64 m2, .int .i64 m3, .int .u32 m4] by rw [← hg, hXB]; exact ⟨H5.out.below ((Below.refl _ _).alloc (Nat.le_refl _) _), cbox _ [.int .i64 m0, .int .i64 m1, .int .i64 m2, .int .i64 m3, .int .u32 m4] _⟩); rw [← hXB]; clear hg hXB hix; go_upto_region 14 with (first | (refine wpList_load_mid (by rfl) _ _ (by rfl) XB 0 (by rfl) [.int .i64 m0, .int .i64 m1, .int .i64 m2, .int .i64 m3, .int .u32 m4] _ H6.out.2 Tryz.underlying31 rfl keyInfo5 ?_) | (go_at_call 21; (with_reducible refine (HM.out _ (H6.out.1.gs.sub (by simp))).mono ?_); rintro e w7 ⟨rfl, hb⟩; have H7 := Lib.hid (H6.out.1.below hb); clear hb) | (refine wpList_store_mid (by rfl) _ _ _ (by rfl) NB 4 (List.toArray [.int .i64 u0, .int .i64 u1, .int .i64 u2, .int .i64 u3, .int .u32 u4]) (by rfl) (by rfl) (fun j hj => by have hj' : j < 5 := hj; have h := H7.out.ot (4 + j) (by omega); rwa [Nat.zero_add] at h) keyInfo5 (by simp [Value.oneCell']) ?_)); generalize hg : World.setCells w7 NB 4 _ = w8; have H8 := Lib.hid (show IV w0 w w8 L X nd B A F (V.offI l x) KB NB RB _ ([.int .u32 o, .int .u32 a, .int .u32 b, .int .u32 c, .int .i64 u0, .int .i64 u1, .int .i64 u2, .int .i64 u3, .int .u32 u4, .int .i64 n0, .int .i64 n1, .int .i64 n2, .int .i64 n3, .int .u32 n4, .int .i64 p0, .int .i64 p1, .int .i64 p2, .int .i64 p3, .int .u32 p4] : List Value) _ by rw [← hg]; exact H7.out.putn 4 [.int .i64 u0, .int .i64 u1, .int .i64 u2, .int .i64 u3, .int .u32 u4] _ (range_key5 H7.out.nc 4 _ _ _ _ _)); clear hg; go_wp2_with fail
  rw [rounds_succ]; have hix : (Instr.index 50 (.agg [.int .i64 m0, .int .i64 m1, .int .i64 m2, .int .i64 m3, .int .u32 m4, .int .i64 n0, .int .i64 n1, .int .i64 n2, .int .i64 n3, .int .u32 n4, .int .i64 p0, .int .i64 p1, .int .i64 p2, .int .i64 p3, .int .u32 p4].toArray) (.int .i64 1)).run Tryz.prog w8 = .ok (.agg (List.toArray [.int .i64 n0, .int .i64 n1, .int .i64 n2, .int .i64 n3, .int .u32 n4])) w8 := (by kernel_rfl); simp only [List.toArray] at hix; go_upto_region 13 with fail; generalize hg : World.alloc w8 _ = w6; obtain ⟨XB, hXB⟩ : ∃ XB, XB = w8.heap.size := ⟨_, rfl⟩; have H6 := Lib.hid (show IV w0 w w6 L X nd B A F (V.offI l x) KB NB RB _ _ _ ∧ w6.rangeAt XB 0 [.int .i64 n0, .int .i64 n1, .int .i64 n2, .int .i64 n3, .int .u32 n4] by rw [← hg, hXB]; exact ⟨H8.out.below ((Below.refl _ _).alloc (Nat.le_refl _) _), cbox _ [.int .i64 n0, .int .i64 n1, .int .i64 n2, .int .i64 n3, .int .u32 n4] _⟩); rw [← hXB]; clear hg hXB hix; go_upto_region 14 with (first | (refine wpList_load_mid (by rfl) _ _ (by rfl) XB 0 (by rfl) [.int .i64 n0, .int .i64 n1, .int .i64 n2, .int .i64 n3, .int .u32 n4] _ H6.out.2 Tryz.underlying31 rfl keyInfo5 ?_) | (go_at_call 21; (with_reducible refine (HN2.out _ (H6.out.1.gs.sub (by simp))).mono ?_); rintro e w7 ⟨rfl, hb⟩; have H7 := Lib.hid (H6.out.1.below hb); clear hb) | (refine wpList_store_mid (by rfl) _ _ _ (by rfl) NB 9 (List.toArray [.int .i64 v0, .int .i64 v1, .int .i64 v2, .int .i64 v3, .int .u32 v4]) (by rfl) (by rfl) (fun j hj => by have hj' : j < 5 := hj; have h := H7.out.ot (9 + j) (by omega); rwa [Nat.zero_add] at h) keyInfo5 (by simp [Value.oneCell']) ?_)); generalize hg : World.setCells w7 NB 9 _ = w9; have H9 := Lib.hid (show IV w0 w w9 L X nd B A F (V.offI l x) KB NB RB _ ([.int .u32 o, .int .u32 a, .int .u32 b, .int .u32 c, .int .i64 u0, .int .i64 u1, .int .i64 u2, .int .i64 u3, .int .u32 u4, .int .i64 v0, .int .i64 v1, .int .i64 v2, .int .i64 v3, .int .u32 v4, .int .i64 p0, .int .i64 p1, .int .i64 p2, .int .i64 p3, .int .u32 p4] : List Value) _ by rw [← hg]; exact H7.out.putn 9 [.int .i64 v0, .int .i64 v1, .int .i64 v2, .int .i64 v3, .int .u32 v4] _ (range_key5 H7.out.nc 9 _ _ _ _ _)); clear hg; go_wp2_with fail
  rw [rounds_succ]; have hix : (Instr.index 50 (.agg [.int .i64 m0, .int .i64 m1, .int .i64 m2, .int .i64 m3, .int .u32 m4, .int .i64 n0, .int .i64 n1, .int .i64 n2, .int .i64 n3, .int .u32 n4, .int .i64 p0, .int .i64 p1, .int .i64 p2, .int .i64 p3, .int .u32 p4].toArray) (.int .i64 2)).run Tryz.prog w9 = .ok (.agg (List.toArray [.int .i64 p0, .int .i64 p1, .int .i64 p2, .int .i64 p3, .int .u32 p4])) w9 := (by kernel_rfl); simp only [List.toArray] at hix; go_upto_region 13 with fail; generalize hg : World.alloc w9 _ = w6; obtain ⟨XB, hXB⟩ : ∃ XB, XB = w9.heap.size := ⟨_, rfl⟩; have H6 := Lib.hid (show IV w0 w w6 L X nd B A F (V.offI l x) KB NB RB _ _ _ ∧ w6.rangeAt XB 0 [.int .i64 p0, .int .i64 p1, .int .i64 p2, .int .i64 p3, .int .u32 p4] by rw [← hg, hXB]; exact ⟨H9.out.below ((Below.refl _ _).alloc (Nat.le_refl _) _), cbox _ [.int .i64 p0, .int .i64 p1, .int .i64 p2, .int .i64 p3, .int .u32 p4] _⟩); rw [← hXB]; clear hg hXB hix; go_upto_region 14 with (first | (refine wpList_load_mid (by rfl) _ _ (by rfl) XB 0 (by rfl) [.int .i64 p0, .int .i64 p1, .int .i64 p2, .int .i64 p3, .int .u32 p4] _ H6.out.2 Tryz.underlying31 rfl keyInfo5 ?_) | (go_at_call 21; (with_reducible refine (HP2.out _ (H6.out.1.gs.sub (by simp))).mono ?_); rintro e w7 ⟨rfl, hb⟩; have H7 := Lib.hid (H6.out.1.below hb); clear hb) | (refine wpList_store_mid (by rfl) _ _ _ (by rfl) NB 14 (List.toArray [.int .i64 z0, .int .i64 z1, .int .i64 z2, .int .i64 z3, .int .u32 z4]) (by rfl) (by rfl) (fun j hj => by have hj' : j < 5 := hj; have h := H7.out.ot (14 + j) (by omega); rwa [Nat.zero_add] at h) keyInfo5 (by simp [Value.oneCell']) ?_)); generalize hg : World.setCells w7 NB 14 _ = w10; have H10 := Lib.hid (show IV w0 w w10 L X nd B A F (V.offI l x) KB NB RB _ ([.int .u32 o, .int .u32 a, .int .u32 b, .int .u32 c, .int .i64 u0, .int .i64 u1, .int .i64 u2, .int .i64 u3, .int .u32 u4, .int .i64 v0, .int .i64 v1, .int .i64 v2, .int .i64 v3, .int .u32 v4, .int .i64 z0, .int .i64 z1, .int .i64 z2, .int .i64 z3, .int .u32 z4] : List Value) _ by rw [← hg]; exact H7.out.putn 14 [.int .i64 z0, .int .i64 z1, .int .i64 z2, .int .i64 z3, .int .u32 z4] _ (range_key5 H7.out.nc 14 _ _ _ _ _)); clear hg; go_wp2_with fail
  rw [rounds_succ]
  clear H1 H2 H3 H4 H5 H6 H7 H8 H9 HA HN5
  go_upto_region 15 with fail
  have hkc := H10.out.kc
  have hnc := H10.out.nc
  have HG10 := Lib.hid (H10.out.gs.sub (A' := []) (by simp))
  go_upto_region 16 with (first
    | (refine wpList_load_mid (by rfl) _ _ (by rfl) KB 0 (by rfl) [.int .i64 r0, .int .i64 r1, .int .i64 r2, .int .i64 r3, .int .u32 r4] _ hkc Tryz.underlying31 rfl keyInfo5 ?_; clear hkc)
    | (refine wpList_load_mid (by rfl) _ _ (by rfl) NB 0 (by rfl) ([.int .u32 o, .int .u32 a, .int .u32 b, .int .u32 c, .int .i64 u0, .int .i64 u1, .int .i64 u2, .int .i64 u3, .int .u32 u4, .int .i64 v0, .int .i64 v1, .int .i64 v2, .int .i64 v3, .int .u32 v4, .int .i64 z0, .int .i64 z1, .int .i64 z2, .int .i64 z3, .int .u32 z4] : List Value) _ hnc Tryz.underlying52 rfl infoNote ?_)
    | (go_at_call 32; (with_reducible refine (HAn.out _ HG10.out).mono ?_); rintro e w11 ⟨rfl, hb⟩; have H11 := Lib.hid (H10.out.below hb); clear hb hnc)
    | (refine wpList_store_mid (by rfl) _ _ _ (by rfl) w11.heap.size 0 ([.int .u32 0, .int .u32 0, .int .u32 0, .int .u32 0, .int .i64 0, .int .i64 0, .int .i64 0, .int .i64 0, .int .u32 0, .int .i64 0, .int .i64 0, .int .i64 0, .int .i64 0, .int .u32 0, .int .i64 0, .int .i64 0, .int .i64 0, .int .i64 0, .int .u32 0] : List Value).toArray (by rfl) (by rfl) (nthere_new _ _ 19 (by rfl) _) infoNote (note_one _ _ _ _ _ _ _ _ _ _ _ _ _ _ _ _ _ _ _) ?_; generalize hg : World.setCells _ w11.heap.size 0 _ = w12))
  have H12 := Lib.hid (show IV w0 w w12 L X nd B A F (V.offI l x) KB NB RB _ _ _ by
    have b := nbelow_cells ((Below.refl _ _).alloc (Nat.le_refl _) _ : Below w11.heap.size w11 (w11.alloc (.cells ([.int .u32 0, .int .u32 0, .int .u32 0, .int .u32 0, .int .i64 0, .int .i64 0, .int .i64 0, .int .i64 0, .int .u32 0, .int .i64 0, .int .i64 0, .int .i64 0, .int .i64 0, .int .u32 0, .int .i64 0, .int .i64 0, .int .i64 0, .int .i64 0, .int .u32 0] : List Value).toArray 52))) (Nat.le_refl _) [.int .u32 0, .int .u32 0, .int .u32 0, .int .u32 0, .int .i64 0, .int .i64 0, .int .i64 0, .int .i64 0, .int .u32 0, .int .i64 0, .int .i64 0, .int .i64 0, .int .i64 0, .int .u32 0, .int .i64 0, .int .i64 0, .int .i64 0, .int .i64 0, .int .u32 0] 0
    rw [← hg]
    exact H11.out.below b)
  clear hg H10 H11 HG10
  have q0 := CallC.cell H12.out.kc 0 _ rfl
  have q1 := CallC.cell H12.out.kc 1 _ rfl
  obtain ⟨w13, hw13⟩ : ∃ w13, w13 = w12 := ⟨_, rfl⟩
  have H13 := H12
  have HG13 := Lib.hid H12.out.gs
  rw [← hw13] at H13 HG13 q0 q1 ⊢
  clear hw13 H12
  have hkc := H13.out.kc
  have hnc := H13.out.nc
  go_upto_region 23 with (first
    | (refine wpList_load_mid (by rfl) _ _ (by rfl) KB 0 (by rfl) [.int .i64 r0, .int .i64 r1, .int .i64 r2, .int .i64 r3, .int .u32 r4] _ hkc Tryz.underlying31 rfl keyInfo5 ?_; clear hkc)
    | (refine wpList_load_mid (by rfl) _ _ (by rfl) NB 0 (by rfl) ([.int .u32 o, .int .u32 a, .int .u32 b, .int .u32 c, .int .i64 u0, .int .i64 u1, .int .i64 u2, .int .i64 u3, .int .u32 u4, .int .i64 v0, .int .i64 v1, .int .i64 v2, .int .i64 v3, .int .u32 v4, .int .i64 z0, .int .i64 z1, .int .i64 z2, .int .i64 z3, .int .u32 z4] : List Value) _ hnc Tryz.underlying52 rfl infoNote ?_)
    | (go_at_call 36; (with_reducible refine (HT.out _ _ HG13.out).mono ?_); rintro e w14 ⟨⟨vT, rfl⟩, hq, hk⟩; have H14 := Lib.hid hq; have K14 := Lib.hid hk; have HR14 := Lib.hid (nthere_same H13.out.rt (hk.eq RB (by simp))); have HK14 := Lib.hid (range_same H13.out.kc (hk.eq KB (by simp))); clear hq hk q1 hnc))
  have q1 := CallC.cell HK14.out 1 _ rfl
  go_wp2_with (first
    | (refine wpList_store_mid (by rfl) _ _ _ (by rfl) RB 0 ([.int .i64 1, .int .i64 r1, .int .u32 0, .int .u32 0, .int .u32 0, .int .u32 0, .int .i64 0, .int .i64 0, .int .i64 0, .int .i64 0, .int .u32 0, .int .i64 0, .int .i64 0, .int .i64 0, .int .i64 0, .int .u32 0, .int .i64 0, .int .i64 0, .int .i64 0, .int .i64 0, .int .u32 0] : List Value).toArray (by rfl) (by rfl) HR14.out (by kernel_rfl) (by simp [Value.oneCell']) ?_; generalize hg : World.setCells _ RB 0 _ = w19))
  obtain ⟨B9, F9, l9, hQ9, hG9⟩ := H14.out
  have H19 := Lib.hid (show GS w0 w19 L X nd B9 (RB :: NB :: KB :: A) F9 l9 ∧ GK A w14 w19 ∧ w19.rangeAt RB 0 ([.int .i64 1, .int .i64 r1, .int .u32 0, .int .u32 0, .int .u32 0, .int .u32 0, .int .i64 0, .int .i64 0, .int .i64 0, .int .i64 0, .int .u32 0, .int .i64 0, .int .i64 0, .int .i64 0, .int .i64 0, .int .u32 0, .int .i64 0, .int .i64 0, .int .i64 0, .int .i64 0, .int .u32 0] : List Value) by
    have hlt := H13.out.lt
    have hxs := H13.out.xs
    have hna := H13.out.na
    rw [← hg]
    exact ⟨hG9.cells RB (by simp) (by omega) 0 _, GK.cells (fun hm => by have := hna _ hm; omega) _ _ _, World.rangeAt_setCells_same _ _ 0 ([.int .i64 1, .int .i64 r1, .int .u32 0, .int .u32 0, .int .u32 0, .int .u32 0, .int .i64 0, .int .i64 0, .int .i64 0, .int .i64 0, .int .u32 0, .int .i64 0, .int .i64 0, .int .i64 0, .int .i64 0, .int .u32 0, .int .i64 0, .int .i64 0, .int .i64 0, .int .i64 0, .int .u32 0] : List Value) HR14.out⟩)
  clear hg hG9
  go_wp2_with fail
  have hld := run_loadVar_mid (P := Tryz.prog) w19 RB 0 54 ([.int .i64 1, .int .i64 r1, .int .u32 0, .int .u32 0, .int .u32 0, .int .u32 0, .int .i64 0, .int .i64 0, .int .i64 0, .int .i64 0, .int .u32 0, .int .i64 0, .int .i64 0, .int .i64 0, .int .i64 0, .int .u32 0, .int .i64 0, .int .i64 0, .int .i64 0, .int .i64 0, .int .u32 0] : List Value) _ H19.out.2.2 Tryz.underlying54 rfl (by kernel_rfl)
  (try simp only [Exit.inBlock, Exit.then])
  exact bodyPost_ret (results_cell_tmp (a := 10) (t := 11) (by rfl) _ ⟨RB, 0, none⟩ (by rfl) _ _ _ hld) rfl ⟨rfl, ⟨B9, F9, l9, hQ9, H19.out.1.tail.tail.tail⟩, H13.out.gk.trans (K14.out.tail.tail.tail.trans H19.out.2.1)⟩
end
end Go.Proofs.YtllcakiomihipaaGreatDoor
namespace Go.Proofs.YtllcakiomihipaaGreatDoor
open Go.ChangeShapes Go.WideShapes Go.ChangeAt Go.RowKit
set_option linter.unusedVariables false
set_option linter.unusedSimpArgs false
section
variable {w0 wb w w' W : World} {L : BLoc} {X : SLoc} {nd B : Nat} {A : List Nat} {F : Nat → Nat → Value} {l : List Int} {J NB : Nat} {rg : Nat → Int} {pc st ft : Int} {kk : Nat → Nat → Int} {wt : Int} {f f' : Nat → Value}
theorem GB.congr {W : World} {g : Nat → Value} (h : GB w0 wb W L X nd B A F l J f) (hf : ∀ j, j < 107 → f j = g j) : GB w0 wb W L X nd B A F l J g :=
  ⟨h.gs, h.gk, by
    have e : rowL f = rowL g := List.map_congr_left (fun j hj => hf j (List.mem_range.1 hj))
    rw [← e]; exact h.r, h.th, h.xj, h.nj⟩
theorem setF_at (F : Nat → Nat → Value) (i : Nat) (g : Nat → Value) : setF F i g i = g := if_pos rfl
theorem setF_ne (F : Nat → Nat → Value) (i a : Nat) (g : Nat → Value) (h : a ≠ i) : setF F i g a = F a := if_neg h
theorem GS.resume (h : GS w0 w L X nd B A F l) (x : Int) (i : Nat) (hx : Hid (x = (i : Int))) (hi : i < nd) (wt : Int) (hF : F i 9 = .int .i64 2 ∧ F i 106 = .int .i64 wt) (u1 : 0 ≤ wt) (u2 : wt ≤ 536870911) : Calls Tryz.prog 74 #[.pointer (some ⟨L.dP, 0, none⟩), .int .i64 x] w fun e w' => e = .returned (Value.agg #[.int .i64 6, .int .i64 x, .int .i64 0, .int .i64 0, .int .u32 wt]) ∧ Below w.heap.size w w' := by
  obtain ⟨D, h1, h2⟩ := h.sj
  have hn := h.nn
  exact dresume_yes x i hx (by omega) (Lib.hid (by rw [h2.dt]; exact decide_eq_true hi)) wt (Lib.hid (by rw [h2.row i hi 9 (by decide), h2.row i hi 106 (by decide)]; exact hF)) u1 u2 0 (Lib.hid (by rw [h2.dv])) w h1.k.d
set_option maxRecDepth 100000 in
set_option maxHeartbeats 400000 in
theorem wait1_is (h : GB w0 wb w L X nd B A F l J (RW rg pc st ft kk wt)) (u1 : 0 ≤ wt) (u3 : wt ≤ 1000) :
    Calls Tryz.prog 73 #[.pointer (some ⟨J, 0, none⟩)] w fun e w' => (∃ v, e = .returned v) ∧ GB w0 wb w' L X nd B A F l J (RW rg pc 2 ft kk (wt + 1)) := by
  have H := Lib.hid h
  clear h
  have j9 := H.out.cell 9 (by decide)
  have z9 := H.out.free 9 (by decide)
  have hw : IntKind.i64.wrap (wt + 1) = wt + 1 := by rw [IntKind.wrap_i64]; omega
  have hd : decide (536870911 < wt + 1) = false := decide_eq_false (by omega)
  go_enter Tryz.func73, Tryz.ntmps73
  go_upto_region 1 with fail
  generalize hg : World.setCell w _ _ = w2
  have H2 : Hid (GB w0 wb w2 L X nd B A F l J (RW rg pc 2 ft kk wt)) := Lib.hid (by rw [← hg, ← RW_st rg pc st ft kk wt 2]; exact H.out.set 9 _)
  clear hg j9 z9
  have j106 := H2.out.cell 106 (by decide)
  rw [RW_106] at j106
  have z106 := H2.out.free 106 (by decide)
  go_upto_region 2 with fail
  generalize hg : World.setCell w2 _ _ = w3
  have H3 : Hid (GB w0 wb w3 L X nd B A F l J (RW rg pc 2 ft kk (wt + 1))) := Lib.hid (by rw [← hg]; exact (H2.out.set 106 _).congr (RW_wt rg pc 2 ft kk wt _ (fun _ _ => trivial)))
  clear hg j106 z106
  have j106 := H3.out.cell 106 (by decide)
  rw [RW_106] at j106
  go_wp2_with fail
  go_end0
  exact ⟨⟨_, rfl⟩, H3.out⟩
set_option maxRecDepth 100000 in
set_option maxHeartbeats 400000 in
theorem change_wait (h : GS w0 w L X nd B A F l) (x : Int) (i : Nat) (hx : Hid (x = (i : Int))) (hi : i < nd) (rg : Nat → Int) (pc st ft : Int) (kk : Nat → Nat → Int) (wt : Int) (hF : Hid (F i = RW rg pc st ft kk wt)) (hR : Hid (∀ q, q < 19 → KRight kk q)) (t1 : 0 ≤ ft) (t2 : ft ≤ 6) (u1 : 0 ≤ wt) (u3 : wt ≤ 1000) (vs vr : Value) (hE : ErrsAt vs vr w0) :
    Calls Tryz.prog 47 #[.pointer (some ⟨X.s, 0, none⟩), .int .i64 x, .func (.func 73) #[] #[]] w fun e w' => (∃ v, e = .returned v) ∧ GS w0 w' L X nd B A (setF F i (RW rg pc 2 ft kk (wt + 1))) l ∧ GK A w w' := by
  have H := Lib.hid h
  have HOne : Hid (∀ j, j < 107 → (RW rg pc st ft kk wt j).oneCell' = true) := Lib.hid (fun j _ => RW_one _ _ _ _ _ _ j)
  have HOneF : Hid (∀ j, j < 107 → (F i j).oneCell' = true) := Lib.hid (by rw [hF.out]; exact HOne.out)
  have HE := Lib.hid hE
  have c1 := h.c1
  clear h hE
  go_enter Tryz.func47, Tryz.ntmps47
  go_upto_region 2 with (first
    | (go_at_call 10; (with_reducible refine ((H.out).get x i hx hi HOneF).mono ?_); rintro e w1 ⟨rfl, hb⟩; have HB1 := Lib.hid hb; clear hb)
    | (refine wpList_store_mid (by rfl) _ _ _ (by rfl) w1.heap.size 0 (rowL (F i)).toArray (by rfl) (by rfl) (by rw [rowL_size]; exact nthere_new _ _ 107 zsize _) (by rw [rowL_size]; exact infoDomS) (rowL_one (F i) HOneF.out) ?_))
  generalize hg : World.setCells _ w1.heap.size 0 _ = w2
  obtain ⟨J, hJ⟩ : ∃ J, J = w1.heap.size := ⟨_, rfl⟩
  have H2 : Hid (GB w0 w w2 L X nd B A F l J (RW rg pc st ft kk wt)) := Lib.hid (by rw [← hg, hJ, ← hF.out]; exact GB.made H.out HB1.out (F i) _ zsize _)
  rw [← hJ]
  clear hg hJ c1
  go_upto_region 3 with (first | (go_at_call 73; (with_reducible refine (wait1_is H2.out u1 u3).mono ?_); rintro e w3 ⟨⟨v, rfl⟩, hg⟩; have H3 := Lib.hid hg; clear hg))
  have HSC : Hid (∀ W, Below w3.heap.size w3 W → (World.cell? W ⟨X.s, 1, none⟩ = some (.pointer (some ⟨L.dP, 0, none⟩)) ∧ World.rangeAt W J 0 (rowL (RW rg pc 2 ft kk (wt + 1))))) := (Lib.hid (fun W hW => ⟨((H3.out).below hW).gs.c1, ((H3.out).below hW).r⟩)); obtain ⟨wD, hwD⟩ : ∃ wD, wD = w3.drew := ⟨_, rfl⟩; have HBd : Hid (Below w3.heap.size w3 wD) := (Lib.hid (by rw [hwD]; exact (Below.refl _ _).drew)); refine wp_region_noPanic ?_; refine wp_region_held_drew (S := fun W => (World.cell? W ⟨X.s, 1, none⟩ = some (.pointer (some ⟨L.dP, 0, none⟩)) ∧ World.rangeAt W J 0 (rowL (RW rg pc 2 ft kk (wt + 1))))) (by kernel_rfl) (by rw [← hwD]; exact HSC.out _ HBd.out) (fun hHeld => ?_); rw [← hwD] at hHeld ⊢; clear hwD; refine wpAnyH_take (i := 0) (v := ?_) (by rfl) (by kernel_rfl) (by kernel_rfl) (by kernel_rfl) (fun _ _ _ h => h) (Or.inl ⟨by kernel_rfl, ?_⟩) (by assumption) ?_; rotate_left 1; (focus (intro w hSw; (try dsimp only at hSw); simp only [List.getElem_toArray, List.getElem_cons_succ, List.getElem_cons_zero]; all_goals go_simp; all_goals (try with_reducible rfl))); (try simp only [Act.put, List.getElem_toArray, List.getElem_cons_succ, List.getElem_cons_zero, List.setIfInBounds_toArray, List.set_cons_zero, List.set_cons_succ]); refine wpAnyH_take (i := 1) (v := ?_) (by rfl) (by kernel_rfl) (by kernel_rfl) (by kernel_rfl) (fun _ _ _ h => h) (Or.inl ⟨by kernel_rfl, ?_⟩) (by assumption) ?_; rotate_left 1; (focus (intro w hSw; (try dsimp only at hSw); simp only [List.getElem_toArray, List.getElem_cons_succ, List.getElem_cons_zero]; all_goals go_simp; all_goals (try with_reducible rfl))); (try simp only [Act.put, List.getElem_toArray, List.getElem_cons_succ, List.getElem_cons_zero, List.setIfInBounds_toArray, List.set_cons_zero, List.set_cons_succ]); refine wpAnyH_take (i := 2) (v := ?_) (by rfl) (by kernel_rfl) (by kernel_rfl) (by kernel_rfl) (fun _ _ _ h => h) (Or.inl ⟨by kernel_rfl, ?_⟩) (by assumption) ?_; rotate_left 1; (focus (intro w hSw; (try dsimp only at hSw); simp only [List.getElem_toArray, List.getElem_cons_succ, List.getElem_cons_zero]; all_goals go_simp; all_goals (try with_reducible rfl))); (try simp only [Act.put, List.getElem_toArray, List.getElem_cons_succ, List.getElem_cons_zero, List.setIfInBounds_toArray, List.set_cons_zero, List.set_cons_succ]); refine wpAnyH_take (i := 3) (v := ?_) (by rfl) (by kernel_rfl) (by kernel_rfl) (by kernel_rfl) (fun _ _ _ h => h) (Or.inl ⟨by kernel_rfl, ?_⟩) (by assumption) ?_; rotate_left 1; (focus (intro w hSw; (try dsimp only at hSw); simp only [List.getElem_toArray, List.getElem_cons_succ, List.getElem_cons_zero]; all_goals go_simp; all_goals (try with_reducible rfl))); (try simp only [Act.put, List.getElem_toArray, List.getElem_cons_succ, List.getElem_cons_zero, List.setIfInBounds_toArray, List.set_cons_zero, List.set_cons_succ]); refine wpAnyH_take (i := 4) (v := ?_) (by rfl) (by kernel_rfl) (by kernel_rfl) (by kernel_rfl) (fun _ _ _ h => h) (Or.inl ⟨by kernel_rfl, ?_⟩) (by assumption) ?_; rotate_left 1; (focus (intro w hSw; (try dsimp only at hSw); simp only [List.getElem_toArray, List.getElem_cons_succ, List.getElem_cons_zero]; all_goals go_simp; all_goals (try with_reducible rfl))); (try simp only [Act.put, List.getElem_toArray, List.getElem_cons_succ, List.getElem_cons_zero, List.setIfInBounds_toArray, List.set_cons_zero, List.set_cons_succ]); refine wpAnyH_take (i := 5) (v := .agg (rowL (RW rg pc 2 ft kk (wt + 1))).toArray) (by rfl) (by kernel_rfl) (by kernel_rfl) (by kernel_rfl) (fun _ _ _ h => h) (yieldsIf_load_mid (by kernel_rfl) 34 (.tmp 6) (by rfl) J 0 (by rfl) (rowL (RW rg pc 2 ft kk (wt + 1))) _ (fun w h => h.2) Tryz.underlying34 rfl (by rw [rowL_len]; exact infoDomS)) (by assumption) ?_; (try simp only [Act.put, List.getElem_toArray, List.getElem_cons_succ, List.getElem_cons_zero, List.setIfInBounds_toArray, List.set_cons_zero, List.set_cons_succ]); refine wpAnyH_ready (rs := [6]) (by kernel_rfl) (by simp) ?_; refine AllReadyH.cons (by rfl) (fun K hK => ?_) AllReadyH.nil; rw [if_pos (by kernel_rfl)]; simp only [List.getElem_toArray, List.getElem_cons_succ, List.getElem_cons_zero]; go_wp2_with (first | (go_at_call 11; (with_reducible refine (((H3.out.gs.below HBd.out).put x i hx hi rg pc 2 ft kk (wt + 1) hR (by decide) (by decide) t1 t2 (by omega) (by omega) vs vr HE.out)).mono ?_); rintro e w4 ⟨rfl, hgs, hgk⟩; have H4 := Lib.hid hgs; have K4 := Lib.hid hgk; clear hgs hgk)); refine hK.out _ _ ⟨H4.out.c1, range_same ((H3.out).below HBd.out).r (K4.out.eq J (by simp))⟩ (fun hHeld => ?_); clear hK K; (try simp only [Act.put, List.getElem_toArray, List.getElem_cons_succ, List.getElem_cons_zero, List.setIfInBounds_toArray, List.set_cons_zero, List.set_cons_succ]); refine wpAnyH_done (by kernel_rfl) ?_ _; refine NoPanic.normal ?_
  go_wp2_with fail
  go_end0
  exact ⟨⟨_, rfl⟩, H4.out.tail, H3.out.gk.trans ((GS.keep HBd.out H3.out.gs).tail.trans K4.out.tail)⟩
set_option maxRecDepth 100000 in
set_option maxHeartbeats 400000 in
theorem wait_is (h : GS w0 w L X nd B A F l) (x : Int) (i : Nat) (hx : Hid (x = (i : Int))) (hi : i < nd) (rg : Nat → Int) (pc st ft : Int) (kk : Nat → Nat → Int) (wt : Int) (hF : Hid (F i = RW rg pc st ft kk wt)) (hR : Hid (∀ q, q < 19 → KRight kk q)) (t1 : 0 ≤ ft) (t2 : ft ≤ 6) (u1 : 0 ≤ wt) (u3 : wt ≤ 1000) (vs vr : Value) (hE : ErrsAt vs vr w0) :
    Calls Tryz.prog 49 #[.pointer (some ⟨X.s, 0, none⟩), .int .i64 x] w fun e w' => e = .returned (Value.agg #[.int .i64 6, .int .i64 x, .int .i64 0, .int .i64 0, .int .u32 (wt + 1)]) ∧ GS w0 w' L X nd B A (setF F i (RW rg pc 2 ft kk (wt + 1))) l ∧ GK A w w' := by
  have H := Lib.hid h
  have HE := Lib.hid hE
  have HU := Lib.hid (And.intro u1 u3)
  clear h hE u1 u3
  go_enter Tryz.func49, Tryz.ntmps49
  go_upto_region 1 with fail
  generalize hgA : World.alloc w _ = wA
  obtain ⟨RB, hRB⟩ : ∃ RB, RB = w.heap.size := ⟨_, rfl⟩
  have HA : Hid (GS w0 wA L X nd B (RB :: A) F l ∧ Below w.heap.size w wA ∧ World.there wA RB 0 5 ∧ X.s < RB ∧ RB ∉ A) := Lib.hid (by
    rw [← hgA, hRB]
    exact ⟨H.out.more ((Below.refl _ _).alloc (Nat.le_refl _) _) _ (Nat.le_refl _) (by simp), (Below.refl _ _).alloc (Nat.le_refl _) _, nthere_new _ _ 5 (by rfl) _, H.out.xs.1, fun hm => by have := (H.out.a _ hm).1; omega⟩)
  rw [← hRB]
  clear hgA hRB
  go_wp2_with (first
    | (go_at_call 47; (with_reducible refine (change_wait HA.out.1 x i hx hi rg pc st ft kk wt hF hR t1 t2 HU.out.1 HU.out.2 vs vr HE.out).mono ?_); rintro e w1 ⟨⟨v, rfl⟩, hg, hk⟩; have H1 := Lib.hid hg; have K1 := Lib.hid hk; have T1 := Lib.hid (nthere_same HA.out.2.2.1 (hk.eq RB (by simp))); clear hg hk; have c1 := H1.out.c1; have HRS := Lib.hid (H1.out.resume x i hx hi (wt + 1) (by rw [setF_at]; exact ⟨rfl, rfl⟩) (by have := HU.out.1; omega) (by have := HU.out.2; omega)))
    | (go_at_call 74; (with_reducible refine HRS.out.mono ?_); rintro e w2 ⟨rfl, hb⟩; have HB2 := Lib.hid hb; have T2 := Lib.hid (nthere_below T1.out hb (H1.out.a RB (by simp)).1); clear hb)
    | (refine wpList_store_mid (by rfl) _ _ _ (by rfl) RB 0 #[.int .i64 6, .int .i64 x, .int .i64 0, .int .i64 0, .int .u32 (wt + 1)] (by rfl) (by rfl) T2.out keyInfo5 (by simp [Value.oneCell']) ?_))
  generalize hg : World.setCells w2 RB 0 _ = w3
  have H3 := Lib.hid (show GS w0 w3 L X nd B (RB :: A) (setF F i (RW rg pc 2 ft kk (wt + 1))) l ∧ w3.rangeAt RB 0 [.int .i64 6, .int .i64 x, .int .i64 0, .int .i64 0, .int .u32 (wt + 1)] ∧ GK A w w3 by
    rw [← hg]
    exact ⟨(H1.out.below HB2.out).cells RB (by simp) HA.out.2.2.2.1 0 _, World.rangeAt_setCells_same _ _ 0 [.int .i64 6, .int .i64 x, .int .i64 0, .int .i64 0, .int .u32 (wt + 1)] T2.out, (GS.keep HA.out.2.1 H.out).trans (K1.out.tail.trans ((GS.keep HB2.out H1.out).tail.trans (GK.cells HA.out.2.2.2.2 _ _ _)))⟩)
  clear hg
  have hld := run_loadVar_mid (P := Tryz.prog) w3 RB 0 31 [.int .i64 6, .int .i64 x, .int .i64 0, .int .i64 0, .int .u32 (wt + 1)] _ H3.out.2.1 Tryz.underlying31 rfl keyInfo5
  exact bodyPost_ret (v := (Value.agg #[.int .i64 6, .int .i64 x, .int .i64 0, .int .i64 0, .int .u32 (wt + 1)])) (by simp [results, Tryz.results49, Act.put, asAddr, hld]) rfl ⟨rfl, H3.out.1.tail, H3.out.2.2⟩
end
end Go.Proofs.YtllcakiomihipaaGreatDoor
namespace Go.Proofs.YtllcakiomihipaaGreatDoor
open Go.ChangeShapes Go.WideShapes Go.ChangeAt Go.RowKit
set_option linter.unusedVariables false
set_option linter.unusedSimpArgs false
set_option maxRecDepth 100000 in
set_option maxHeartbeats 4000000 in
theorem oanswer_no6 (s : Nat) (k0 k1 k2 k3 k4 : Int) (r0 r1 r2 r3 r4 : Int) (o a b c : Int) (m0 m1 m2 m3 m4 : Int) (n0 n1 n2 n3 n4 : Int) (p0 p1 p2 p3 p4 : Int) (x0 x1 x2 x3 x4 : Int) (y0 y1 y2 y3 y4 : Int) (z0 z1 z2 z3 z4 : Int) (h5 : r0 = 6) (w : World)
    (hk : (∀ W, Below w.heap.size w W → Calls Tryz.prog 21 #[.pointer (some ⟨s, 0, none⟩), (Value.agg #[.int .i64 k0, .int .i64 k1, .int .i64 k2, .int .i64 k3, .int .u32 k4])] W fun e w' => e = .returned (Value.agg #[.int .i64 r0, .int .i64 r1, .int .i64 r2, .int .i64 r3, .int .u32 r4]) ∧ Below W.heap.size W w')) (hm : (∀ W, Below w.heap.size w W → Calls Tryz.prog 21 #[.pointer (some ⟨s, 0, none⟩), (Value.agg #[.int .i64 m0, .int .i64 m1, .int .i64 m2, .int .i64 m3, .int .u32 m4])] W fun e w' => e = .returned (Value.agg #[.int .i64 x0, .int .i64 x1, .int .i64 x2, .int .i64 x3, .int .u32 x4]) ∧ Below W.heap.size W w')) (hn : (∀ W, Below w.heap.size w W → Calls Tryz.prog 21 #[.pointer (some ⟨s, 0, none⟩), (Value.agg #[.int .i64 n0, .int .i64 n1, .int .i64 n2, .int .i64 n3, .int .u32 n4])] W fun e w' => e = .returned (Value.agg #[.int .i64 y0, .int .i64 y1, .int .i64 y2, .int .i64 y3, .int .u32 y4]) ∧ Below W.heap.size W w')) (hp : (∀ W, Below w.heap.size w W → Calls Tryz.prog 21 #[.pointer (some ⟨s, 0, none⟩), (Value.agg #[.int .i64 p0, .int .i64 p1, .int .i64 p2, .int .i64 p3, .int .u32 p4])] W fun e w' => e = .returned (Value.agg #[.int .i64 z0, .int .i64 z1, .int .i64 z2, .int .i64 z3, .int .u32 z4]) ∧ Below W.heap.size W w')) :
    Calls Tryz.prog 32 #[.pointer (some ⟨s, 0, none⟩), (Value.agg #[.int .i64 k0, .int .i64 k1, .int .i64 k2, .int .i64 k3, .int .u32 k4]), (Value.agg #[.int .u32 o, .int .u32 a, .int .u32 b, .int .u32 c, .int .i64 m0, .int .i64 m1, .int .i64 m2, .int .i64 m3, .int .u32 m4, .int .i64 n0, .int .i64 n1, .int .i64 n2, .int .i64 n3, .int .u32 n4, .int .i64 p0, .int .i64 p1, .int .i64 p2, .int .i64 p3, .int .u32 p4])] w fun e w' => e = .returned (.tuple #[(Value.agg #[.int .u32 0, .int .u32 0, .int .u32 0, .int .u32 0, .int .i64 0, .int .i64 0, .int .i64 0, .int .i64 0, .int .u32 0, .int .i64 0, .int .i64 0, .int .i64 0, .int .i64 0, .int .u32 0, .int .i64 0, .int .i64 0, .int .i64 0, .int .i64 0, .int .u32 0]), .bool false]) ∧ Below w.heap.size w w' := by
  have e5 : (r0 == 5) = false := (by rw [h5]; rfl)
  have e6 : (r0 == 6) = true := (by rw [h5]; rfl)
  clear h5
  have HSk := Lib.hid hk
  have HSm := Lib.hid hm
  have HSn := Lib.hid hn
  have HSp := Lib.hid hp
  clear hk hm hn hp
  go_enter Tryz.func32, Tryz.ntmps32
  go_upto_region 1 with fail
  generalize hA : World.alloc w _ = wa
  obtain ⟨KB, hKB⟩ : ∃ KB, KB = w.heap.size := ⟨_, rfl⟩
  have HK : Hid (Below w.heap.size w wa ∧ KeyC wa KB k0 k1 k2 k3 k4 ∧ wa.heap.size = KB + 1 ∧ w.heap.size ≤ KB) := Lib.hid (by rw [← hA, hKB]; exact ⟨(Below.refl _ _).alloc (Nat.le_refl _) _, KeyC.new w k0 k1 k2 k3 k4 _, by simp, Nat.le_refl _⟩)
  rw [← hKB]
  clear hA hKB
  generalize hA : World.alloc wa _ = wb
  obtain ⟨J, hJ⟩ : ∃ J, J = KB + 1 := ⟨_, rfl⟩
  have HJ : Hid (Below w.heap.size w wb ∧ KeyC wb KB k0 k1 k2 k3 k4 ∧ wb.rangeAt J 0 ([.int .u32 o, .int .u32 a, .int .u32 b, .int .u32 c, .int .i64 m0, .int .i64 m1, .int .i64 m2, .int .i64 m3, .int .u32 m4, .int .i64 n0, .int .i64 n1, .int .i64 n2, .int .i64 n3, .int .u32 n4, .int .i64 p0, .int .i64 p1, .int .i64 p2, .int .i64 p3, .int .u32 p4] : List Value) ∧ wb.heap.size = J + 1 ∧ w.heap.size ≤ J) := Lib.hid (by rw [← hA, hJ, ← HK.out.2.2.1]; exact ⟨HK.out.1.alloc HK.out.1.size _, HK.out.2.1.below ((Below.refl _ _).alloc (Nat.le_refl _) _), cbox _ _ _, by simp, HK.out.1.size⟩)
  rw [← hJ]
  clear hA hJ
  generalize hA : World.alloc wb _ = wd
  obtain ⟨R, hR⟩ : ∃ R, R = J + 1 := ⟨_, rfl⟩
  have HR : Hid (Below w.heap.size w wd ∧ KeyC wd KB k0 k1 k2 k3 k4 ∧ wd.rangeAt J 0 ([.int .u32 o, .int .u32 a, .int .u32 b, .int .u32 c, .int .i64 m0, .int .i64 m1, .int .i64 m2, .int .i64 m3, .int .u32 m4, .int .i64 n0, .int .i64 n1, .int .i64 n2, .int .i64 n3, .int .u32 n4, .int .i64 p0, .int .i64 p1, .int .i64 p2, .int .i64 p3, .int .u32 p4] : List Value) ∧ World.there wd R 0 19 ∧ J < R ∧ R < wd.heap.size ∧ w.heap.size ≤ R) := Lib.hid (by rw [← hA, hR, ← HJ.out.2.2.2.1]; exact ⟨HJ.out.1.alloc HJ.out.1.size _, HJ.out.2.1.below ((Below.refl _ _).alloc (Nat.le_refl _) _), range_below HJ.out.2.2.1 ((Below.refl _ _).alloc (Nat.le_refl _) _) (by have := HJ.out.2.2.2.1; omega), nthere_new _ _ 19 (by rfl) _, by have := HJ.out.2.2.2.1; omega, by simp, HJ.out.1.size⟩)
  rw [← hR]
  clear hA hR
  go_cut [8] (fun u wx => ∃ C, u = .pointer (some ⟨C, 0, none⟩) ∧ Below wd.heap.size wd wx ∧ wx.rangeAt C 0 ([.pointer (some ⟨s, 0, none⟩), .int .i64 r0, .int .i64 r1, .int .i64 r2, .int .i64 r3, .int .u32 r4, .int .u32 o, .int .u32 a, .int .u32 b, .int .u32 c, .int .i64 m0, .int .i64 m1, .int .i64 m2, .int .i64 m3, .int .u32 m4, .int .i64 n0, .int .i64 n1, .int .i64 n2, .int .i64 n3, .int .u32 n4, .int .i64 p0, .int .i64 p1, .int .i64 p2, .int .i64 p3, .int .u32 p4] : List Value) ∧ World.there wx C 0 25 ∧ wd.heap.size ≤ C ∧ C < wx.heap.size)
  case first =>
    obtain ⟨wD, hwD⟩ : ∃ wD, wD = wd.drew := ⟨_, rfl⟩
    have HBd : Hid (Below wd.heap.size wd wD) := Lib.hid (by rw [hwD]; exact (Below.refl _ _).drew)
    have HS1 : Hid (∀ W, Below wd.heap.size wd W → ((World.cell? W ⟨KB, 0, none⟩ = some (.int .i64 k0) ∧ World.cell? W ⟨KB, 1, none⟩ = some (.int .i64 k1) ∧ World.cell? W ⟨KB, 2, none⟩ = some (.int .i64 k2) ∧ World.cell? W ⟨KB, 3, none⟩ = some (.int .i64 k3) ∧ World.cell? W ⟨KB, 4, none⟩ = some (.int .u32 k4)) ∧ World.rangeAt W J 0 ([.int .u32 o, .int .u32 a, .int .u32 b, .int .u32 c, .int .i64 m0, .int .i64 m1, .int .i64 m2, .int .i64 m3, .int .u32 m4, .int .i64 n0, .int .i64 n1, .int .i64 n2, .int .i64 n3, .int .u32 n4, .int .i64 p0, .int .i64 p1, .int .i64 p2, .int .i64 p3, .int .u32 p4] : List Value))) := Lib.hid (fun W hW => ⟨ofive (HR.out.2.1.below hW), range_below HR.out.2.2.1 hW (Nat.lt_trans HR.out.2.2.2.2.1 HR.out.2.2.2.2.2.1)⟩)
    refine wp_region_noPanic ?_
    refine wp_region_held_drew (S := fun w' => ((World.cell? w' ⟨KB, 0, none⟩ = some (.int .i64 k0) ∧ World.cell? w' ⟨KB, 1, none⟩ = some (.int .i64 k1) ∧ World.cell? w' ⟨KB, 2, none⟩ = some (.int .i64 k2) ∧ World.cell? w' ⟨KB, 3, none⟩ = some (.int .i64 k3) ∧ World.cell? w' ⟨KB, 4, none⟩ = some (.int .u32 k4)) ∧ World.rangeAt w' J 0 ([.int .u32 o, .int .u32 a, .int .u32 b, .int .u32 c, .int .i64 m0, .int .i64 m1, .int .i64 m2, .int .i64 m3, .int .u32 m4, .int .i64 n0, .int .i64 n1, .int .i64 n2, .int .i64 n3, .int .u32 n4, .int .i64 p0, .int .i64 p1, .int .i64 p2, .int .i64 p3, .int .u32 p4] : List Value))) (by kernel_rfl) (by rw [← hwD]; exact HS1.out _ HBd.out) (fun hHeld => ?_)
    rw [← hwD] at hHeld ⊢
    clear hwD
    refine wpAnyH_take (i := 0) (v := ?_) (by rfl) (by kernel_rfl) (by kernel_rfl) (by kernel_rfl) (fun _ _ _ h => h) (Or.inl ⟨by kernel_rfl, ?_⟩) (by assumption) ?_; rotate_left 1; (focus (intro w hSw; (try dsimp only at hSw); simp only [List.getElem_toArray, List.getElem_cons_succ, List.getElem_cons_zero]; all_goals go_simp; all_goals (try with_reducible rfl))); (try simp only [Act.put, List.getElem_toArray, List.getElem_cons_succ, List.getElem_cons_zero, List.setIfInBounds_toArray, List.set_cons_zero, List.set_cons_succ])
    refine wpAnyH_take (i := 1) (v := ?_) (by rfl) (by kernel_rfl) (by kernel_rfl) (by kernel_rfl) (fun _ _ _ h => h) (Or.inl ⟨by kernel_rfl, ?_⟩) (by assumption) ?_; rotate_left 1; (focus (intro w hSw; (try dsimp only at hSw); simp only [List.getElem_toArray, List.getElem_cons_succ, List.getElem_cons_zero]; all_goals go_simp; all_goals (try with_reducible rfl))); (try simp only [Act.put, List.getElem_toArray, List.getElem_cons_succ, List.getElem_cons_zero, List.setIfInBounds_toArray, List.set_cons_zero, List.set_cons_succ])
    refine wpAnyH_take (i := 2) (v := ?_) (by rfl) (by kernel_rfl) (by kernel_rfl) (by kernel_rfl) (fun _ _ _ h => h) (Or.inl ⟨by kernel_rfl, ?_⟩) (by assumption) ?_; rotate_left 1; (focus (intro w hSw; (try dsimp only at hSw); simp only [List.getElem_toArray, List.getElem_cons_succ, List.getElem_cons_zero]; all_goals go_simp; all_goals (try with_reducible rfl))); (try simp only [Act.put, List.getElem_toArray, List.getElem_cons_succ, List.getElem_cons_zero, List.setIfInBounds_toArray, List.set_cons_zero, List.set_cons_succ])
    refine wpAnyH_take (i := 4) (v := (Value.agg #[.int .u32 o, .int .u32 a, .int .u32 b, .int .u32 c, .int .i64 m0, .int .i64 m1, .int .i64 m2, .int .i64 m3, .int .u32 m4, .int .i64 n0, .int .i64 n1, .int .i64 n2, .int .i64 n3, .int .u32 n4, .int .i64 p0, .int .i64 p1, .int .i64 p2, .int .i64 p3, .int .u32 p4])) (by rfl) (by kernel_rfl) (by kernel_rfl) (by kernel_rfl) (fun _ _ _ h => h) (Or.inl ⟨by kernel_rfl, ?_⟩) (by assumption) ?_
    focus
      intro w hSw
      exact nload_exec (Operand.tmp 5) (by rfl) (by rfl) (by rfl) hSw.2
    (try simp only [Act.put, List.getElem_toArray, List.getElem_cons_succ, List.getElem_cons_zero, List.setIfInBounds_toArray, List.set_cons_zero, List.set_cons_succ])
    refine wpAnyH_ready (rs := [3, 6]) (by kernel_rfl) (by simp) ?_
    refine AllReadyH.cons (by rfl) (fun K1 hK => ?_) (AllReadyH.cons (by rfl) (fun K1 hK => ?_) AllReadyH.nil)
    · rw [if_pos (by kernel_rfl)]; simp only [List.getElem_toArray, List.getElem_cons_succ, List.getElem_cons_zero]
      go_wp2_with (first | (go_at_call 21; (with_reducible refine (HSk.out _ (HR.out.1.trans (HBd.out.mono HR.out.1.size))).mono ?_); rintro e w2 ⟨rfl, hb⟩; have HB2 := Lib.hid (HBd.out.trans (hb.mono HBd.out.size)); clear hb))
      refine hK.out _ _ (HS1.out _ HB2.out) (fun hHeld => ?_)
      clear hK K1
      (try simp only [Act.put, List.getElem_toArray, List.getElem_cons_succ, List.getElem_cons_zero, List.setIfInBounds_toArray, List.set_cons_zero, List.set_cons_succ])
      refine wpAnyH_take (i := 5) (v := ?_) (by rfl) (by kernel_rfl) (by kernel_rfl) (by kernel_rfl) (fun _ _ _ h => h) (Or.inl ⟨by kernel_rfl, ?_⟩) (by assumption) ?_; rotate_left 1; (focus (intro w hSw; (try dsimp only at hSw); simp only [List.getElem_toArray, List.getElem_cons_succ, List.getElem_cons_zero]; all_goals go_simp; all_goals (try with_reducible rfl))); (try simp only [Act.put, List.getElem_toArray, List.getElem_cons_succ, List.getElem_cons_zero, List.setIfInBounds_toArray, List.set_cons_zero, List.set_cons_succ])
      refine wpAnyH_ready (rs := [6]) (by kernel_rfl) (by simp) ?_; refine AllReadyH.cons (by rfl) (fun K hK => ?_) AllReadyH.nil; rw [if_pos (by kernel_rfl)]; simp only [List.getElem_toArray, List.getElem_cons_succ, List.getElem_cons_zero]
      go_wp2_with fail
      generalize hE : World.alloc w2 _ = wE
      obtain ⟨C, hC⟩ : ∃ C, C = w2.heap.size := ⟨_, rfl⟩
      have HE : Hid (Below wd.heap.size wd wE ∧ World.there wE C 0 25 ∧ wd.heap.size ≤ C ∧ C < wE.heap.size) := Lib.hid (by rw [← hE, hC]; exact ⟨HB2.out.alloc HB2.out.size _, nthere_new _ _ 25 (by rfl) _, HB2.out.size, by simp⟩)
      rw [← hC]
      clear hE hC
      refine hK.out _ _ (HS1.out _ HE.out.1) (fun hHeld => ?_)
      clear hK K
      (try simp only [Act.put, List.getElem_toArray, List.getElem_cons_succ, List.getElem_cons_zero, List.setIfInBounds_toArray, List.set_cons_zero, List.set_cons_succ])
      refine wpAnyH_ready (rs := [7]) (by kernel_rfl) (by simp) ?_; refine AllReadyH.cons (by rfl) (fun K hK => ?_) AllReadyH.nil; rw [if_pos (by kernel_rfl)]; simp only [List.getElem_toArray, List.getElem_cons_succ, List.getElem_cons_zero]
      refine wp_store_mid 142 (Operand.tmp 8) (Operand.tmp 16) (by rfl) C 0 ([.pointer (some ⟨s, 0, none⟩), .int .i64 r0, .int .i64 r1, .int .i64 r2, .int .i64 r3, .int .u32 r4, .int .u32 o, .int .u32 a, .int .u32 b, .int .u32 c, .int .i64 m0, .int .i64 m1, .int .i64 m2, .int .i64 m3, .int .u32 m4, .int .i64 n0, .int .i64 n1, .int .i64 n2, .int .i64 n3, .int .u32 n4, .int .i64 p0, .int .i64 p1, .int .i64 p2, .int .i64 p3, .int .u32 p4] : List Value).toArray (by rfl) (by rfl) HE.out.2.1 infoCall (c25_one _ _ _ _ _ _ _ _ _ _ _ _ _ _ _ _ _ _ _ _ _ _ _ _ _) ?_
      generalize hF : World.setCells wE _ _ _ = wF
      have HF : Hid (Below wd.heap.size wd wF ∧ wF.rangeAt C 0 ([.pointer (some ⟨s, 0, none⟩), .int .i64 r0, .int .i64 r1, .int .i64 r2, .int .i64 r3, .int .u32 r4, .int .u32 o, .int .u32 a, .int .u32 b, .int .u32 c, .int .i64 m0, .int .i64 m1, .int .i64 m2, .int .i64 m3, .int .u32 m4, .int .i64 n0, .int .i64 n1, .int .i64 n2, .int .i64 n3, .int .u32 n4, .int .i64 p0, .int .i64 p1, .int .i64 p2, .int .i64 p3, .int .u32 p4] : List Value) ∧ World.there wF C 0 25) := Lib.hid (by rw [← hF]; exact ⟨nbelow_cells HE.out.1 HE.out.2.2.1 _ _, World.rangeAt_setCells_same wE C 0 ([.pointer (some ⟨s, 0, none⟩), .int .i64 r0, .int .i64 r1, .int .i64 r2, .int .i64 r3, .int .u32 r4, .int .u32 o, .int .u32 a, .int .u32 b, .int .u32 c, .int .i64 m0, .int .i64 m1, .int .i64 m2, .int .i64 m3, .int .u32 m4, .int .i64 n0, .int .i64 n1, .int .i64 n2, .int .i64 n3, .int .u32 n4, .int .i64 p0, .int .i64 p1, .int .i64 p2, .int .i64 p3, .int .u32 p4] : List Value) HE.out.2.1, World.there_setCells HE.out.2.1 _ _ _⟩)
      clear hF
      refine hK.out _ _ (HS1.out _ HF.out.1) (fun hHeld => ?_)
      clear hK K
      (try simp only [Act.put, List.getElem_toArray, List.getElem_cons_succ, List.getElem_cons_zero, List.setIfInBounds_toArray, List.set_cons_zero, List.set_cons_succ])
      refine wpAnyH_done (by kernel_rfl) ?_ _
      refine NoPanic.normal ?_
      go_wp2_with fail
      go_meet
      exact ⟨C, rfl, HF.out.1, HF.out.2.1, HF.out.2.2, HE.out.2.2.1, cell_lt (CallC.cell HF.out.2.1 0 _ rfl)⟩
    · rw [if_pos (by kernel_rfl)]; simp only [List.getElem_toArray, List.getElem_cons_succ, List.getElem_cons_zero]
      go_wp2_with fail
      generalize hE : World.alloc wD _ = wE
      obtain ⟨C, hC⟩ : ∃ C, C = wD.heap.size := ⟨_, rfl⟩
      have HE : Hid (Below wd.heap.size wd wE ∧ World.there wE C 0 25 ∧ wd.heap.size ≤ C ∧ C < wE.heap.size) := Lib.hid (by rw [← hE, hC]; exact ⟨HBd.out.alloc HBd.out.size _, nthere_new _ _ 25 (by rfl) _, HBd.out.size, by simp⟩)
      rw [← hC]
      clear hE hC
      refine hK.out _ _ (HS1.out _ HE.out.1) (fun hHeld => ?_)
      clear hK K1
      (try simp only [Act.put, List.getElem_toArray, List.getElem_cons_succ, List.getElem_cons_zero, List.setIfInBounds_toArray, List.set_cons_zero, List.set_cons_succ])
      refine wpAnyH_ready (rs := [3]) (by kernel_rfl) (by simp) ?_; refine AllReadyH.cons (by rfl) (fun K hK => ?_) AllReadyH.nil; rw [if_pos (by kernel_rfl)]; simp only [List.getElem_toArray, List.getElem_cons_succ, List.getElem_cons_zero]
      go_wp2_with (first | (go_at_call 21; (with_reducible refine (HSk.out _ (HR.out.1.trans (HE.out.1.mono HR.out.1.size))).mono ?_); rintro e w2 ⟨rfl, hb⟩; have HB2 : Hid (Below wd.heap.size wd w2 ∧ World.there w2 C 0 25) := Lib.hid ⟨HE.out.1.trans (hb.mono HE.out.1.size), nthere_below HE.out.2.1 hb HE.out.2.2.2⟩; clear hb))
      refine hK.out _ _ (HS1.out _ HB2.out.1) (fun hHeld => ?_)
      clear hK K
      (try simp only [Act.put, List.getElem_toArray, List.getElem_cons_succ, List.getElem_cons_zero, List.setIfInBounds_toArray, List.set_cons_zero, List.set_cons_succ])
      refine wpAnyH_take (i := 5) (v := ?_) (by rfl) (by kernel_rfl) (by kernel_rfl) (by kernel_rfl) (fun _ _ _ h => h) (Or.inl ⟨by kernel_rfl, ?_⟩) (by assumption) ?_; rotate_left 1; (focus (intro w hSw; (try dsimp only at hSw); simp only [List.getElem_toArray, List.getElem_cons_succ, List.getElem_cons_zero]; all_goals go_simp; all_goals (try with_reducible rfl))); (try simp only [Act.put, List.getElem_toArray, List.getElem_cons_succ, List.getElem_cons_zero, List.setIfInBounds_toArray, List.set_cons_zero, List.set_cons_succ])
      refine wpAnyH_ready (rs := [7]) (by kernel_rfl) (by simp) ?_; refine AllReadyH.cons (by rfl) (fun K hK => ?_) AllReadyH.nil; rw [if_pos (by kernel_rfl)]; simp only [List.getElem_toArray, List.getElem_cons_succ, List.getElem_cons_zero]
      refine wp_store_mid 142 (Operand.tmp 8) (Operand.tmp 16) (by rfl) C 0 ([.pointer (some ⟨s, 0, none⟩), .int .i64 r0, .int .i64 r1, .int .i64 r2, .int .i64 r3, .int .u32 r4, .int .u32 o, .int .u32 a, .int .u32 b, .int .u32 c, .int .i64 m0, .int .i64 m1, .int .i64 m2, .int .i64 m3, .int .u32 m4, .int .i64 n0, .int .i64 n1, .int .i64 n2, .int .i64 n3, .int .u32 n4, .int .i64 p0, .int .i64 p1, .int .i64 p2, .int .i64 p3, .int .u32 p4] : List Value).toArray (by rfl) (by rfl) HB2.out.2 infoCall (c25_one _ _ _ _ _ _ _ _ _ _ _ _ _ _ _ _ _ _ _ _ _ _ _ _ _) ?_
      generalize hF : World.setCells w2 _ _ _ = wF
      have HF : Hid (Below wd.heap.size wd wF ∧ wF.rangeAt C 0 ([.pointer (some ⟨s, 0, none⟩), .int .i64 r0, .int .i64 r1, .int .i64 r2, .int .i64 r3, .int .u32 r4, .int .u32 o, .int .u32 a, .int .u32 b, .int .u32 c, .int .i64 m0, .int .i64 m1, .int .i64 m2, .int .i64 m3, .int .u32 m4, .int .i64 n0, .int .i64 n1, .int .i64 n2, .int .i64 n3, .int .u32 n4, .int .i64 p0, .int .i64 p1, .int .i64 p2, .int .i64 p3, .int .u32 p4] : List Value) ∧ World.there wF C 0 25) := Lib.hid (by rw [← hF]; exact ⟨nbelow_cells HB2.out.1 HE.out.2.2.1 _ _, World.rangeAt_setCells_same w2 C 0 ([.pointer (some ⟨s, 0, none⟩), .int .i64 r0, .int .i64 r1, .int .i64 r2, .int .i64 r3, .int .u32 r4, .int .u32 o, .int .u32 a, .int .u32 b, .int .u32 c, .int .i64 m0, .int .i64 m1, .int .i64 m2, .int .i64 m3, .int .u32 m4, .int .i64 n0, .int .i64 n1, .int .i64 n2, .int .i64 n3, .int .u32 n4, .int .i64 p0, .int .i64 p1, .int .i64 p2, .int .i64 p3, .int .u32 p4] : List Value) HB2.out.2, World.there_setCells HB2.out.2 _ _ _⟩)
      clear hF
      refine hK.out _ _ (HS1.out _ HF.out.1) (fun hHeld => ?_)
      clear hK K
      (try simp only [Act.put, List.getElem_toArray, List.getElem_cons_succ, List.getElem_cons_zero, List.setIfInBounds_toArray, List.set_cons_zero, List.set_cons_succ])
      refine wpAnyH_done (by kernel_rfl) ?_ _
      refine NoPanic.normal ?_
      go_wp2_with fail
      go_meet
      exact ⟨C, rfl, HF.out.1, HF.out.2.1, HF.out.2.2, HE.out.2.2.1, cell_lt (CallC.cell HF.out.2.1 0 _ rfl)⟩
  case rest =>
    obtain ⟨C, rfl, hb, hr, ht, hC1, hC2⟩ := hcut
    have HC := Lib.hid (⟨HR.out.1.trans (hb.mono HR.out.1.size), hr, ht, Nat.le_trans HR.out.1.size hC1, nthere_below HR.out.2.2.2.1 hb HR.out.2.2.2.2.2.1, Nat.lt_of_lt_of_le HR.out.2.2.2.2.2.1 hC1, hC2⟩ : Below w.heap.size w wc ∧ wc.rangeAt C 0 ([.pointer (some ⟨s, 0, none⟩), .int .i64 r0, .int .i64 r1, .int .i64 r2, .int .i64 r3, .int .u32 r4, .int .u32 o, .int .u32 a, .int .u32 b, .int .u32 c, .int .i64 m0, .int .i64 m1, .int .i64 m2, .int .i64 m3, .int .u32 m4, .int .i64 n0, .int .i64 n1, .int .i64 n2, .int .i64 n3, .int .u32 n4, .int .i64 p0, .int .i64 p1, .int .i64 p2, .int .i64 p3, .int .u32 p4] : List Value) ∧ World.there wc C 0 25 ∧ w.heap.size ≤ C ∧ World.there wc R 0 19 ∧ R < C ∧ C < wc.heap.size)
    have HJ4 : Hid (wc.rangeAt J 4 ([.int .i64 m0, .int .i64 m1, .int .i64 m2, .int .i64 m3, .int .u32 m4, .int .i64 n0, .int .i64 n1, .int .i64 n2, .int .i64 n3, .int .u32 n4, .int .i64 p0, .int .i64 p1, .int .i64 p2, .int .i64 p3, .int .u32 p4] : List Value)) := Lib.hid (range_drop (k := 4) (range_below HR.out.2.2.1 hb (Nat.lt_trans HR.out.2.2.2.2.1 HR.out.2.2.2.2.2.1)))
    clear hb hr ht hC1 hC2
    have hi0 : ∀ W, (Instr.index 50 (.agg ([.int .i64 m0, .int .i64 m1, .int .i64 m2, .int .i64 m3, .int .u32 m4, .int .i64 n0, .int .i64 n1, .int .i64 n2, .int .i64 n3, .int .u32 n4, .int .i64 p0, .int .i64 p1, .int .i64 p2, .int .i64 p3, .int .u32 p4] : List Value).toArray) (.int .i64 0)).run Tryz.prog W = .ok (Value.agg #[.int .i64 m0, .int .i64 m1, .int .i64 m2, .int .i64 m3, .int .u32 m4]) W := by intro W; kernel_rfl
    have hi1 : ∀ W, (Instr.index 50 (.agg ([.int .i64 m0, .int .i64 m1, .int .i64 m2, .int .i64 m3, .int .u32 m4, .int .i64 n0, .int .i64 n1, .int .i64 n2, .int .i64 n3, .int .u32 n4, .int .i64 p0, .int .i64 p1, .int .i64 p2, .int .i64 p3, .int .u32 p4] : List Value).toArray) (.int .i64 1)).run Tryz.prog W = .ok (Value.agg #[.int .i64 n0, .int .i64 n1, .int .i64 n2, .int .i64 n3, .int .u32 n4]) W := by intro W; kernel_rfl
    have hi2 : ∀ W, (Instr.index 50 (.agg ([.int .i64 m0, .int .i64 m1, .int .i64 m2, .int .i64 m3, .int .u32 m4, .int .i64 n0, .int .i64 n1, .int .i64 n2, .int .i64 n3, .int .u32 n4, .int .i64 p0, .int .i64 p1, .int .i64 p2, .int .i64 p3, .int .u32 p4] : List Value).toArray) (.int .i64 2)).run Tryz.prog W = .ok (Value.agg #[.int .i64 p0, .int .i64 p1, .int .i64 p2, .int .i64 p3, .int .u32 p4]) W := by intro W; kernel_rfl
    go_wp2_with (first
      | (refine wpList_load_mid (by rfl) _ _ (by rfl) J 4 (by rfl) ([.int .i64 m0, .int .i64 m1, .int .i64 m2, .int .i64 m3, .int .u32 m4, .int .i64 n0, .int .i64 n1, .int .i64 n2, .int .i64 n3, .int .u32 n4, .int .i64 p0, .int .i64 p1, .int .i64 p2, .int .i64 p3, .int .u32 p4] : List Value) _ HJ4.out Tryz.underlying50 rfl (by kernel_rfl) ?_))
    refine wp_loop_rounds 4 ?_
    rw [rounds_succ]
    go_upto_region 5 with fail; generalize hA : World.alloc wc _ = wg; obtain ⟨XB, hXB⟩ : ∃ XB, XB = wc.heap.size := ⟨_, rfl⟩; have HG : Hid (Below wc.heap.size wc wg ∧ KeyC wg XB m0 m1 m2 m3 m4 ∧ World.rangeAt wg C 0 ([.pointer (some ⟨s, 0, none⟩), .int .i64 r0, .int .i64 r1, .int .i64 r2, .int .i64 r3, .int .u32 r4, .int .u32 o, .int .u32 a, .int .u32 b, .int .u32 c, .int .i64 m0, .int .i64 m1, .int .i64 m2, .int .i64 m3, .int .u32 m4, .int .i64 n0, .int .i64 n1, .int .i64 n2, .int .i64 n3, .int .u32 n4, .int .i64 p0, .int .i64 p1, .int .i64 p2, .int .i64 p3, .int .u32 p4] : List Value) ∧ World.there wg C 0 25 ∧ Below w.heap.size w wg ∧ C < wg.heap.size) := Lib.hid (by rw [← hA, hXB]; exact ⟨(Below.refl _ _).alloc (Nat.le_refl _) _, KeyC.new _ _ _ _ _ _ _, range_below (HC).out.2.1 ((Below.refl _ _).alloc (Nat.le_refl _) _) (HC).out.2.2.2.2.2.2, nthere_below (HC).out.2.2.1 ((Below.refl _ _).alloc (Nat.le_refl _) _) (HC).out.2.2.2.2.2.2, (HC).out.1.trans (Below.mono ((Below.refl _ _).alloc (Nat.le_refl _) _) (HC).out.1.size), Nat.lt_of_lt_of_le (HC).out.2.2.2.2.2.2 (by simp)⟩); rw [← hXB]; clear hA hXB; obtain ⟨q0, q1, q2, q3, q4⟩ := ofive (HG).out.2.1; go_upto_region 6 with (first | (go_at_call 21; (with_reducible refine ((HSm).out _ (HG).out.2.2.2.2.1).mono ?_); rintro e wg2 ⟨rfl, hb⟩; have HGx : Hid (Below w.heap.size w wg2 ∧ World.rangeAt wg2 C 0 ([.pointer (some ⟨s, 0, none⟩), .int .i64 r0, .int .i64 r1, .int .i64 r2, .int .i64 r3, .int .u32 r4, .int .u32 o, .int .u32 a, .int .u32 b, .int .u32 c, .int .i64 m0, .int .i64 m1, .int .i64 m2, .int .i64 m3, .int .u32 m4, .int .i64 n0, .int .i64 n1, .int .i64 n2, .int .i64 n3, .int .u32 n4, .int .i64 p0, .int .i64 p1, .int .i64 p2, .int .i64 p3, .int .u32 p4] : List Value) ∧ World.there wg2 C 0 25 ∧ World.there wg2 R 0 19) := (Lib.hid ⟨(HG).out.2.2.2.2.1.trans (hb.mono (HG).out.2.2.2.2.1.size), range_below (HG).out.2.2.1 hb (HG).out.2.2.2.2.2, nthere_below (HG).out.2.2.2.1 hb (HG).out.2.2.2.2.2, nthere_below (HC).out.2.2.2.2.1 ((HG).out.1.trans (hb.mono (HG).out.1.size)) (Nat.lt_trans (HC).out.2.2.2.2.2.1 (HC).out.2.2.2.2.2.2)⟩); clear hb q0 q1 q2 q3 q4) | (refine wpList_store_mid (by rfl) _ _ _ (by rfl) C 10 ([.int .i64 x0, .int .i64 x1, .int .i64 x2, .int .i64 x3, .int .u32 x4] : List Value).toArray (by rfl) (by rfl) (there_part (HGx).out.2.2.1 10 (by decide)) infoK5 (akey_one _ _ _ _ _) ?_)); generalize hA : World.setCells wg2 _ _ _ = wh; have HH : Hid (Below w.heap.size w wh ∧ World.rangeAt wh C 0 ([.pointer (some ⟨s, 0, none⟩), .int .i64 r0, .int .i64 r1, .int .i64 r2, .int .i64 r3, .int .u32 r4, .int .u32 o, .int .u32 a, .int .u32 b, .int .u32 c, .int .i64 x0, .int .i64 x1, .int .i64 x2, .int .i64 x3, .int .u32 x4, .int .i64 n0, .int .i64 n1, .int .i64 n2, .int .i64 n3, .int .u32 n4, .int .i64 p0, .int .i64 p1, .int .i64 p2, .int .i64 p3, .int .u32 p4] : List Value) ∧ World.there wh C 0 25 ∧ w.heap.size ≤ C ∧ World.there wh R 0 19 ∧ R < C ∧ C < wh.heap.size) := (Lib.hid (by rw [← hA]; exact ⟨nbelow_cells (HGx).out.1 (HC).out.2.2.2.1 _ _, range_set5 (HGx).out.2.1 10 _ _ _ _ _, World.there_setCells (HGx).out.2.2.1 _ _ _, (HC).out.2.2.2.1, World.there_setCells (HGx).out.2.2.2 _ _ _, (HC).out.2.2.2.2.2.1, cell_lt (CallC.cell (range_set5 (HGx).out.2.1 10 _ _ _ _ _) 0 _ rfl)⟩)); clear hA; go_wp2_with fail
    rw [rounds_succ]
    go_upto_region 5 with fail; generalize hA : World.alloc wh _ = wi; obtain ⟨XB, hXB⟩ : ∃ XB, XB = wh.heap.size := ⟨_, rfl⟩; have HI : Hid (Below wh.heap.size wh wi ∧ KeyC wi XB n0 n1 n2 n3 n4 ∧ World.rangeAt wi C 0 ([.pointer (some ⟨s, 0, none⟩), .int .i64 r0, .int .i64 r1, .int .i64 r2, .int .i64 r3, .int .u32 r4, .int .u32 o, .int .u32 a, .int .u32 b, .int .u32 c, .int .i64 x0, .int .i64 x1, .int .i64 x2, .int .i64 x3, .int .u32 x4, .int .i64 n0, .int .i64 n1, .int .i64 n2, .int .i64 n3, .int .u32 n4, .int .i64 p0, .int .i64 p1, .int .i64 p2, .int .i64 p3, .int .u32 p4] : List Value) ∧ World.there wi C 0 25 ∧ Below w.heap.size w wi ∧ C < wi.heap.size) := Lib.hid (by rw [← hA, hXB]; exact ⟨(Below.refl _ _).alloc (Nat.le_refl _) _, KeyC.new _ _ _ _ _ _ _, range_below (HH).out.2.1 ((Below.refl _ _).alloc (Nat.le_refl _) _) (HH).out.2.2.2.2.2.2, nthere_below (HH).out.2.2.1 ((Below.refl _ _).alloc (Nat.le_refl _) _) (HH).out.2.2.2.2.2.2, (HH).out.1.trans (Below.mono ((Below.refl _ _).alloc (Nat.le_refl _) _) (HH).out.1.size), Nat.lt_of_lt_of_le (HH).out.2.2.2.2.2.2 (by simp)⟩); rw [← hXB]; clear hA hXB; obtain ⟨q0, q1, q2, q3, q4⟩ := ofive (HI).out.2.1; go_upto_region 6 with (first | (go_at_call 21; (with_reducible refine ((HSn).out _ (HI).out.2.2.2.2.1).mono ?_); rintro e wi2 ⟨rfl, hb⟩; have HIx : Hid (Below w.heap.size w wi2 ∧ World.rangeAt wi2 C 0 ([.pointer (some ⟨s, 0, none⟩), .int .i64 r0, .int .i64 r1, .int .i64 r2, .int .i64 r3, .int .u32 r4, .int .u32 o, .int .u32 a, .int .u32 b, .int .u32 c, .int .i64 x0, .int .i64 x1, .int .i64 x2, .int .i64 x3, .int .u32 x4, .int .i64 n0, .int .i64 n1, .int .i64 n2, .int .i64 n3, .int .u32 n4, .int .i64 p0, .int .i64 p1, .int .i64 p2, .int .i64 p3, .int .u32 p4] : List Value) ∧ World.there wi2 C 0 25 ∧ World.there wi2 R 0 19) := (Lib.hid ⟨(HI).out.2.2.2.2.1.trans (hb.mono (HI).out.2.2.2.2.1.size), range_below (HI).out.2.2.1 hb (HI).out.2.2.2.2.2, nthere_below (HI).out.2.2.2.1 hb (HI).out.2.2.2.2.2, nthere_below (HH).out.2.2.2.2.1 ((HI).out.1.trans (hb.mono (HI).out.1.size)) (Nat.lt_trans (HH).out.2.2.2.2.2.1 (HH).out.2.2.2.2.2.2)⟩); clear hb q0 q1 q2 q3 q4) | (refine wpList_store_mid (by rfl) _ _ _ (by rfl) C 15 ([.int .i64 y0, .int .i64 y1, .int .i64 y2, .int .i64 y3, .int .u32 y4] : List Value).toArray (by rfl) (by rfl) (there_part (HIx).out.2.2.1 15 (by decide)) infoK5 (akey_one _ _ _ _ _) ?_)); generalize hA : World.setCells wi2 _ _ _ = wj; have HJ2 : Hid (Below w.heap.size w wj ∧ World.rangeAt wj C 0 ([.pointer (some ⟨s, 0, none⟩), .int .i64 r0, .int .i64 r1, .int .i64 r2, .int .i64 r3, .int .u32 r4, .int .u32 o, .int .u32 a, .int .u32 b, .int .u32 c, .int .i64 x0, .int .i64 x1, .int .i64 x2, .int .i64 x3, .int .u32 x4, .int .i64 y0, .int .i64 y1, .int .i64 y2, .int .i64 y3, .int .u32 y4, .int .i64 p0, .int .i64 p1, .int .i64 p2, .int .i64 p3, .int .u32 p4] : List Value) ∧ World.there wj C 0 25 ∧ w.heap.size ≤ C ∧ World.there wj R 0 19 ∧ R < C ∧ C < wj.heap.size) := (Lib.hid (by rw [← hA]; exact ⟨nbelow_cells (HIx).out.1 (HH).out.2.2.2.1 _ _, range_set5 (HIx).out.2.1 15 _ _ _ _ _, World.there_setCells (HIx).out.2.2.1 _ _ _, (HH).out.2.2.2.1, World.there_setCells (HIx).out.2.2.2 _ _ _, (HH).out.2.2.2.2.2.1, cell_lt (CallC.cell (range_set5 (HIx).out.2.1 15 _ _ _ _ _) 0 _ rfl)⟩)); clear hA; go_wp2_with fail
    rw [rounds_succ]
    go_upto_region 5 with fail; generalize hA : World.alloc wj _ = wk; obtain ⟨XB, hXB⟩ : ∃ XB, XB = wj.heap.size := ⟨_, rfl⟩; have HL : Hid (Below wj.heap.size wj wk ∧ KeyC wk XB p0 p1 p2 p3 p4 ∧ World.rangeAt wk C 0 ([.pointer (some ⟨s, 0, none⟩), .int .i64 r0, .int .i64 r1, .int .i64 r2, .int .i64 r3, .int .u32 r4, .int .u32 o, .int .u32 a, .int .u32 b, .int .u32 c, .int .i64 x0, .int .i64 x1, .int .i64 x2, .int .i64 x3, .int .u32 x4, .int .i64 y0, .int .i64 y1, .int .i64 y2, .int .i64 y3, .int .u32 y4, .int .i64 p0, .int .i64 p1, .int .i64 p2, .int .i64 p3, .int .u32 p4] : List Value) ∧ World.there wk C 0 25 ∧ Below w.heap.size w wk ∧ C < wk.heap.size) := Lib.hid (by rw [← hA, hXB]; exact ⟨(Below.refl _ _).alloc (Nat.le_refl _) _, KeyC.new _ _ _ _ _ _ _, range_below (HJ2).out.2.1 ((Below.refl _ _).alloc (Nat.le_refl _) _) (HJ2).out.2.2.2.2.2.2, nthere_below (HJ2).out.2.2.1 ((Below.refl _ _).alloc (Nat.le_refl _) _) (HJ2).out.2.2.2.2.2.2, (HJ2).out.1.trans (Below.mono ((Below.refl _ _).alloc (Nat.le_refl _) _) (HJ2).out.1.size), Nat.lt_of_lt_of_le (HJ2).out.2.2.2.2.2.2 (by simp)⟩); rw [← hXB]; clear hA hXB; obtain ⟨q0, q1, q2, q3, q4⟩ := ofive (HL).out.2.1; go_upto_region 6 with (first | (go_at_call 21; (with_reducible refine ((HSp).out _ (HL).out.2.2.2.2.1).mono ?_); rintro e wk2 ⟨rfl, hb⟩; have HLx : Hid (Below w.heap.size w wk2 ∧ World.rangeAt wk2 C 0 ([.pointer (some ⟨s, 0, none⟩), .int .i64 r0, .int .i64 r1, .int .i64 r2, .int .i64 r3, .int .u32 r4, .int .u32 o, .int .u32 a, .int .u32 b, .int .u32 c, .int .i64 x0, .int .i64 x1, .int .i64 x2, .int .i64 x3, .int .u32 x4, .int .i64 y0, .int .i64 y1, .int .i64 y2, .int .i64 y3, .int .u32 y4, .int .i64 p0, .int .i64 p1, .int .i64 p2, .int .i64 p3, .int .u32 p4] : List Value) ∧ World.there wk2 C 0 25 ∧ World.there wk2 R 0 19) := (Lib.hid ⟨(HL).out.2.2.2.2.1.trans (hb.mono (HL).out.2.2.2.2.1.size), range_below (HL).out.2.2.1 hb (HL).out.2.2.2.2.2, nthere_below (HL).out.2.2.2.1 hb (HL).out.2.2.2.2.2, nthere_below (HJ2).out.2.2.2.2.1 ((HL).out.1.trans (hb.mono (HL).out.1.size)) (Nat.lt_trans (HJ2).out.2.2.2.2.2.1 (HJ2).out.2.2.2.2.2.2)⟩); clear hb q0 q1 q2 q3 q4) | (refine wpList_store_mid (by rfl) _ _ _ (by rfl) C 20 ([.int .i64 z0, .int .i64 z1, .int .i64 z2, .int .i64 z3, .int .u32 z4] : List Value).toArray (by rfl) (by rfl) (there_part (HLx).out.2.2.1 20 (by decide)) infoK5 (akey_one _ _ _ _ _) ?_)); generalize hA : World.setCells wk2 _ _ _ = wl; have HM : Hid (Below w.heap.size w wl ∧ World.rangeAt wl C 0 ([.pointer (some ⟨s, 0, none⟩), .int .i64 r0, .int .i64 r1, .int .i64 r2, .int .i64 r3, .int .u32 r4, .int .u32 o, .int .u32 a, .int .u32 b, .int .u32 c, .int .i64 x0, .int .i64 x1, .int .i64 x2, .int .i64 x3, .int .u32 x4, .int .i64 y0, .int .i64 y1, .int .i64 y2, .int .i64 y3, .int .u32 y4, .int .i64 z0, .int .i64 z1, .int .i64 z2, .int .i64 z3, .int .u32 z4] : List Value) ∧ World.there wl C 0 25 ∧ w.heap.size ≤ C ∧ World.there wl R 0 19 ∧ R < C ∧ C < wl.heap.size) := (Lib.hid (by rw [← hA]; exact ⟨nbelow_cells (HLx).out.1 (HJ2).out.2.2.2.1 _ _, range_set5 (HLx).out.2.1 20 _ _ _ _ _, World.there_setCells (HLx).out.2.2.1 _ _ _, (HJ2).out.2.2.2.1, World.there_setCells (HLx).out.2.2.2 _ _ _, (HJ2).out.2.2.2.2.2.1, cell_lt (CallC.cell (range_set5 (HLx).out.2.1 20 _ _ _ _ _) 0 _ rfl)⟩)); clear hA; go_wp2_with fail
    rw [rounds_succ]
    have q1 := CallC.cell HM.out.2.1 1 _ rfl
    have hRn : w.heap.size ≤ R := HR.out.2.2.2.2.2.2
    have q1 := CallC.cell HM.out.2.1 1 _ rfl
    have hRn : w.heap.size ≤ R := HR.out.2.2.2.2.2.2
    have HTR : Hid (World.there wl R 0 19) := Lib.hid HM.out.2.2.2.2.1
    have HBR : Hid (Below w.heap.size w wl) := Lib.hid HM.out.1
    clear HM HL HLx HJ2 HIx HI HH HGx HG HC HJ4 HR HJ HK HSk HSm HSn HSp
    go_wp2_with (first
      | (refine wpList_store_mid (by rfl) _ _ _ (by rfl) R 0 ([.int .u32 0, .int .u32 0, .int .u32 0, .int .u32 0, .int .i64 0, .int .i64 0, .int .i64 0, .int .i64 0, .int .u32 0, .int .i64 0, .int .i64 0, .int .i64 0, .int .i64 0, .int .u32 0, .int .i64 0, .int .i64 0, .int .i64 0, .int .i64 0, .int .u32 0] : List Value).toArray (by rfl) (by rfl) HTR.out infoNote (note_one _ _ _ _ _ _ _ _ _ _ _ _ _ _ _ _ _ _ _) ?_))
    generalize hS : World.setCells wl _ _ _ = wS
    have HS : Hid (Below w.heap.size w wS ∧ wS.rangeAt R 0 [.int .u32 0, .int .u32 0, .int .u32 0, .int .u32 0, .int .i64 0, .int .i64 0, .int .i64 0, .int .i64 0, .int .u32 0, .int .i64 0, .int .i64 0, .int .i64 0, .int .i64 0, .int .u32 0, .int .i64 0, .int .i64 0, .int .i64 0, .int .i64 0, .int .u32 0]) := Lib.hid (by rw [← hS]; exact ⟨nbelow_cells HBR.out hRn _ _, World.rangeAt_setCells_same wl R 0 [.int .u32 0, .int .u32 0, .int .u32 0, .int .u32 0, .int .i64 0, .int .i64 0, .int .i64 0, .int .i64 0, .int .u32 0, .int .i64 0, .int .i64 0, .int .i64 0, .int .i64 0, .int .u32 0, .int .i64 0, .int .i64 0, .int .i64 0, .int .i64 0, .int .u32 0] HTR.out⟩)
    have hld := nload rfl HS.out.2
    refine bodyPost_ret (v := (.tuple #[(Value.agg #[.int .u32 0, .int .u32 0, .int .u32 0, .int .u32 0, .int .i64 0, .int .i64 0, .int .i64 0, .int .i64 0, .int .u32 0, .int .i64 0, .int .i64 0, .int .i64 0, .int .i64 0, .int .u32 0, .int .i64 0, .int .i64 0, .int .i64 0, .int .i64 0, .int .u32 0]), .bool false])) (by simp [results, Tryz.results32, Act.put, asAddr, hld]) rfl ⟨rfl, HS.out.1⟩
section
variable {w0 w w' W : World} {L : BLoc} {X : SLoc} {nd B : Nat} {A : List Nat} {F : Nat → Nat → Value} {l : List Int}
theorem GS.len (h : GS w0 w L X nd B A F l) (n : Nat) (hn : l.length = n) : Calls Tryz.prog 25 #[.pointer (some ⟨X.q, 0, none⟩)] w fun e w' => e = .returned (.int .i64 n) ∧ w = w' := by
  obtain ⟨b, S, _, h3, _⟩ := h.q
  obtain ⟨a, c, h0, _⟩ := h3.row
  rw [hn] at h0
  exact V.qlen_is w h0
/-- The key of a wait is seen while that wait lasts. -/
theorem GS.seen_resume (h : GS w0 w L X nd B A F l) (x : Int) (i : Nat) (hx : Hid (x = (i : Int))) (hi : i < nd) (hf : Hid (∀ j, j < 107 → (F i j).oneCell' = true)) (wt : Int) (hF : F i 9 = .int .i64 2 ∧ F i 106 = .int .i64 wt) (u1 : 0 ≤ wt) (u2 : wt ≤ 536870911) (hr : rightB 6 x 0 0 wt = true) (vs vr : Value) (hE : ErrsAt vs vr w0) : Calls Tryz.prog 21 #[.pointer (some ⟨X.s, 0, none⟩), (Value.agg #[.int .i64 6, .int .i64 x, .int .i64 0, .int .i64 0, .int .u32 wt])] w fun e w' => e = .returned (Value.agg #[.int .i64 6, .int .i64 x, .int .i64 0, .int .i64 0, .int .u32 wt]) ∧ Below w.heap.size w w' := by
  refine oseen_live 6 x 0 0 wt w (fun V hV => nvalid_ok 6 x 0 0 wt (Lib.hid hr) vs vr V ((h.errs hE).below hV)) (fun V hV => slive_resume x 0 0 wt true V (fun U hU => ?_))
  have hg := h.below (hV.trans (hU.mono hV.size))
  obtain ⟨D, h1, h2⟩ := hg.sj
  refine swaits_yes x 0 0 wt L.dp (F i) hf (Lib.hid hF.1) (Lib.hid hF.2) u1 u2 U h1.b h1.k.d.pl.f0 (fun V2 hV2 => (hg.below hV2).get x i hx hi hf) (fun V2 hV2 => ?_)
  obtain ⟨D2, h3, h4⟩ := (hg.below hV2).sj
  have hn := hg.nn
  rw [hx.out]
  exact aver_in i (by omega) 0 (Lib.hid (by rw [h4.dv])) V2 h3.k.d.pl.ar
end
end Go.Proofs.YtllcakiomihipaaGreatDoor
namespace Go.Proofs.YtllcakiomihipaaGreatDoor
open Go.ChangeShapes Go.WideShapes Go.ChangeAt Go.RowKit
set_option linter.unusedVariables false
set_option linter.unusedSimpArgs false
section
variable {w0 w w' W : World} {L : BLoc} {X : SLoc} {nd B : Nat} {A : List Nat} {F : Nat → Nat → Value} {l : List Int}
theorem gi_resume (h : GS w0 w L X nd B A F l) (y : Int) (i : Nat) (hy : Hid (y = (i : Int))) (hi : i < nd) (rg : Nat → Int) (pc ft : Int) (kk : Nat → Nat → Int) (wt : Int) (hF : Hid (F i = RW rg pc 2 ft kk wt)) (hR : Hid (∀ q, q < 19 → KRight kk q)) (t1 : 0 ≤ ft) (t2 : ft ≤ 6) (u1' : 0 ≤ wt) (u2' : wt ≤ 536870911)
    (x : Int) (j : Nat) (hx : Hid (x = (j : Int))) (hj : j < nd) (hij : j ≠ i) (rj : Nat → Int) (pj fj : Int) (kj : Nat → Nat → Int) (wj : Int) (hFj : Hid (F j = RW rj pj 3 fj kj wj)) (hRj : Hid (∀ q, q < 19 → KRight kj q)) (v1' : 0 ≤ fj) (v2' : fj ≤ 6) (v3' : 0 ≤ wj) (v4' : wj ≤ 536870911)
    (vs vr : Value) (hE : ErrsAt vs vr w0) (hyq : V.wfI y) (hxq : V.wfI x) (hl : l.length ≤ 1000) (hB : B ≤ 1000) (hr : rightB 6 y 0 0 wt = true) (o a b c : Int) (m0 m1 m2 m3 m4 : Int) (n0 n1 n2 n3 n4 : Int) (p0 p1 p2 p3 p4 : Int) (u0 u1 u2 u3 u4 : Int) (v0 v1 v2 v3 v4 : Int) (z0 z1 z2 z3 z4 : Int) (hm : rightB u0 u1 u2 u3 u4 = true) (hn : rightB v0 v1 v2 v3 v4 = true) (hp : rightB z0 z1 z2 z3 z4 = true)
    (sm : (∀ (W : World) (B : Nat) (A : List Nat) (l : List Int), GS w0 W L X nd B A F l → Calls Tryz.prog 21 #[.pointer (some ⟨X.s, 0, none⟩), (Value.agg #[.int .i64 m0, .int .i64 m1, .int .i64 m2, .int .i64 m3, .int .u32 m4])] W fun e w' => e = .returned (Value.agg #[.int .i64 u0, .int .i64 u1, .int .i64 u2, .int .i64 u3, .int .u32 u4]) ∧ Below W.heap.size W w')) (sn : (∀ (W : World) (B : Nat) (A : List Nat) (l : List Int), GS w0 W L X nd B A F l → Calls Tryz.prog 21 #[.pointer (some ⟨X.s, 0, none⟩), (Value.agg #[.int .i64 n0, .int .i64 n1, .int .i64 n2, .int .i64 n3, .int .u32 n4])] W fun e w' => e = .returned (Value.agg #[.int .i64 v0, .int .i64 v1, .int .i64 v2, .int .i64 v3, .int .u32 v4]) ∧ Below W.heap.size W w')) (sp : (∀ (W : World) (B : Nat) (A : List Nat) (l : List Int), GS w0 W L X nd B A F l → Calls Tryz.prog 21 #[.pointer (some ⟨X.s, 0, none⟩), (Value.agg #[.int .i64 p0, .int .i64 p1, .int .i64 p2, .int .i64 p3, .int .u32 p4])] W fun e w' => e = .returned (Value.agg #[.int .i64 z0, .int .i64 z1, .int .i64 z2, .int .i64 z3, .int .u32 z4]) ∧ Below W.heap.size W w')) (su : (∀ (W : World) (B : Nat) (A : List Nat) (l : List Int), GS w0 W L X nd B A F l → Calls Tryz.prog 21 #[.pointer (some ⟨X.s, 0, none⟩), (Value.agg #[.int .i64 u0, .int .i64 u1, .int .i64 u2, .int .i64 u3, .int .u32 u4])] W fun e w' => e = .returned (Value.agg #[.int .i64 u0, .int .i64 u1, .int .i64 u2, .int .i64 u3, .int .u32 u4]) ∧ Below W.heap.size W w')) (sv : (∀ (W : World) (B : Nat) (A : List Nat) (l : List Int), GS w0 W L X nd B A F l → Calls Tryz.prog 21 #[.pointer (some ⟨X.s, 0, none⟩), (Value.agg #[.int .i64 v0, .int .i64 v1, .int .i64 v2, .int .i64 v3, .int .u32 v4])] W fun e w' => e = .returned (Value.agg #[.int .i64 v0, .int .i64 v1, .int .i64 v2, .int .i64 v3, .int .u32 v4]) ∧ Below W.heap.size W w')) (sz : (∀ (W : World) (B : Nat) (A : List Nat) (l : List Int), GS w0 W L X nd B A F l → Calls Tryz.prog 21 #[.pointer (some ⟨X.s, 0, none⟩), (Value.agg #[.int .i64 z0, .int .i64 z1, .int .i64 z2, .int .i64 z3, .int .u32 z4])] W fun e w' => e = .returned (Value.agg #[.int .i64 z0, .int .i64 z1, .int .i64 z2, .int .i64 z3, .int .u32 z4]) ∧ Below W.heap.size W w')) :
    Calls Tryz.prog 12 #[.pointer (some ⟨X.s, 0, none⟩), .int .i64 x, .int .i64 1, (Value.agg #[.int .i64 6, .int .i64 y, .int .i64 0, .int .i64 0, .int .u32 wt]), (Value.agg #[.int .u32 o, .int .u32 a, .int .u32 b, .int .u32 c, .int .i64 m0, .int .i64 m1, .int .i64 m2, .int .i64 m3, .int .u32 m4, .int .i64 n0, .int .i64 n1, .int .i64 n2, .int .i64 n3, .int .u32 n4, .int .i64 p0, .int .i64 p1, .int .i64 p2, .int .i64 p3, .int .u32 p4])] w fun e w' => e = .returned (.tuple #[.agg ([.int .i64 1, .int .i64 y, .int .u32 0, .int .u32 0, .int .u32 0, .int .u32 0, .int .i64 0, .int .i64 0, .int .i64 0, .int .i64 0, .int .u32 0, .int .i64 0, .int .i64 0, .int .i64 0, .int .i64 0, .int .u32 0, .int .i64 0, .int .i64 0, .int .i64 0, .int .i64 0, .int .u32 0] : List Value).toArray, .nilIface]) ∧ GS w0 w' L X nd (B + 1) A (setF (setF F i (RW (tRg rg o a b c 0) pc 3 ft (tKk kk u0 u1 u2 u3 u4 v0 v1 v2 v3 v4 z0 z1 z2 z3 z4 0 0 0 0 0) wt)) j (RW rj pj 1 fj kj wj)) (V.putAll (V.offI l x) [y]) ∧ GK A w w' := by
  have hf : Hid (∀ q, q < 107 → (F i q).oneCell' = true) := Lib.hid (by rw [hF.out]; exact fun q _ => RW_one _ _ _ _ _ _ q)
  have hs : ∀ (W : World) (B : Nat) (A : List Nat) (l : List Int), GS w0 W L X nd B A F l → Calls Tryz.prog 21 #[.pointer (some ⟨X.s, 0, none⟩), (Value.agg #[.int .i64 6, .int .i64 y, .int .i64 0, .int .i64 0, .int .u32 wt])] W fun e w' => e = .returned (Value.agg #[.int .i64 6, .int .i64 y, .int .i64 0, .int .i64 0, .int .u32 wt]) ∧ Below W.heap.size W w' := fun W B A l hg => hg.seen_resume y i hy hi hf wt ⟨by rw [hF.out]; rfl, by rw [hF.out]; rfl⟩ u1' u2' hr vs vr hE
  have hlo : (V.offI l x).length ≤ 1000 := Nat.le_trans (off_len l x) hl
  refine (inv_pass6 h x j hx hj rj pj fj kj wj hFj 1 (by decide) (by decide) hxq hl 6 y 0 0 wt m0 m1 m2 m3 m4 n0 n1 n2 n3 n4 p0 p1 p2 p3 p4 o a b c u0 u1 u2 u3 u4 (fun W hW => sm W _ _ _ hW) v0 v1 v2 v3 v4 (fun W hW => sn W _ _ _ hW) z0 z1 z2 z3 z4 (fun W hW => sp W _ _ _ hW) 6 y 0 0 wt (fun W hW => hs W _ _ _ hW) rfl (fun W hW => oanswer_no6 X.s 6 y 0 0 wt 6 y 0 0 wt o a b c u0 u1 u2 u3 u4 v0 v1 v2 v3 v4 z0 z1 z2 z3 z4 u0 u1 u2 u3 u4 v0 v1 v2 v3 v4 z0 z1 z2 z3 z4 rfl W (fun W2 hW2 => hs W2 _ _ _ (hW.below hW2)) (fun W2 hW2 => su W2 _ _ _ (hW.below hW2)) (fun W2 hW2 => sv W2 _ _ _ (hW.below hW2)) (fun W2 hW2 => sz W2 _ _ _ (hW.below hW2))) (fun B' F' l' => B' = B + 1 ∧ F' = setF (setF F i (RW (tRg rg o a b c 0) pc 3 ft (tKk kk u0 u1 u2 u3 u4 v0 v1 v2 v3 v4 z0 z1 z2 z3 z4 0 0 0 0 0) wt)) j (RW rj pj 1 fj kj wj) ∧ l' = V.putAll (V.offI l x) [y]) (fun A' W hW => ?_)).mono ?_
  · refine (pass6_ret hW y i hy hi rg pc 2 ft kk wt hF hR t1 t2 u1' u2' vs vr hE hyq hlo hB x j hx hj hij rj pj 3 fj kj wj hFj hRj v1' v2' v3' v4' 0 0 wt o a b c u0 u1 u2 u3 u4 v0 v1 v2 v3 v4 z0 z1 z2 z3 z4 hm hn hp).mono ?_
    rintro e w9 ⟨h1, h2, h3⟩
    exact ⟨h1, ⟨_, _, _, ⟨rfl, rfl, rfl⟩, h2⟩, h3⟩
  · rintro e w9 ⟨rfl, ⟨B', F', l', ⟨rfl, rfl, rfl⟩, hg⟩, hk⟩
    exact ⟨rfl, hg, hk⟩
end
end Go.Proofs.YtllcakiomihipaaGreatDoor
namespace Go.Proofs.YtllcakiomihipaaGreatDoor.V
open Go.ChangeShapes Go.WideShapes Go.ChangeAt Go.RowKit Go.Maps
set_option linter.unusedVariables false
/-- Numbers are read there. -/
def RI (w : World) (a : Option Addr) (xs : List Int) : Prop := ∀ i, i < xs.length → ∃ ad, a = some ad ∧ ad.block < w.heap.size ∧ w.cell? (ad.add i) = some (.int .i64 (xs.getD i 0))
theorem RI.below {w w' : World} {a : Option Addr} {xs : List Int} (h : RI w a xs) (hb : Below w.heap.size w w') : RI w' a xs := by
  intro i hi
  obtain ⟨ad, h1, h2, h3⟩ := h i hi
  exact ⟨ad, h1, Nat.lt_of_lt_of_le h2 hb.size, (hb.cell (p := ad.add i) (by rw [add_block']; exact h2)).trans h3⟩
theorem own_ri {w : World} {B n c : Nat} {a : Option Addr} {xs : List Int} (h : w.ownsRow B 3 1 (.slice a n c) n (xs.map (Value.int .i64))) (hn : xs.length = n) : RI w a xs := by
  intro i hi
  rcases h.2 with ⟨_, h0⟩ | ⟨g, cap, cur, hv, hB, hg, rest⟩
  · omega
  · obtain rfl : a = some ⟨g, 0, none⟩ := by simp at hv; exact hv.1
    refine ⟨_, rfl, lt_of_block hg, ?_⟩
    have := h.cellAt i (by omega)
    rw [show (Addr.add ⟨g, 0, none⟩ i) = ⟨g, i, none⟩ by (simp [Addr.add]; exact fun h => h.symm), this]
    simp [List.getD, hi]
end Go.Proofs.YtllcakiomihipaaGreatDoor.V
namespace Go.Proofs.YtllcakiomihipaaGreatDoor
open Go.ChangeShapes Go.WideShapes Go.ChangeAt Go.RowKit
set_option linter.unusedVariables false
set_option linter.unusedSimpArgs false
section
variable {w0 w w' W : World} {L : BLoc} {X : SLoc} {nd B : Nat} {A : List Nat} {F : Nat → Nat → Value} {l : List Int}
theorem right_start1 (bd : Int) (h : bd ≤ 536870911) : rightB 5 1 0 0 bd = true := by
  have e : rightB 5 1 0 0 bd = decide (bd ≤ 536870911) := by
    unfold rightB
    rw [show wB 5 14 = true by decide, show wB 1 (hidOf 5) = true by decide, show wB 0 (hverOf 5) = true by decide, show wB 0 (hrOf 5) = true by decide, show dataMost 5 = 536870911 by decide]
    simp
  rw [e]; exact decide_eq_true h
/-- The row of who is sent that. -/
def T1 (a bd : Int) : Nat → Value := RW (tRg (fun _ => 0) 4 a 0 0 bd) 0 3 0 (tKk (fun _ _ => 0) 0 0 0 0 0 0 0 0 0 0 0 0 0 0 0 0 0 0 0 0) 0
theorem GS.all (h : GS w0 w L X nd B A F l) (n : Nat) (hn : l.length = n) (hm : n ≤ 1000) : Calls Tryz.prog 19 #[.pointer (some ⟨X.q, 0, none⟩)] w fun e w' => (∃ a c, e = .returned (.slice a n c) ∧ V.RI w' a l) ∧ Below w.heap.size w w' := by
  obtain ⟨b, S, _, h3, _⟩ := h.q
  refine (V.qall_is (Lib.hid hn) (by omega) w h3).mono ?_
  rintro e w9 ⟨a, c, h1, h2, h4⟩
  exact ⟨⟨a, c, h1, V.own_ri h2 hn⟩, h4⟩
end
end Go.Proofs.YtllcakiomihipaaGreatDoor
namespace Go.Proofs.YtllcakiomihipaaGreatDoor
open Go.ChangeShapes Go.WideShapes Go.ChangeAt Go.RowKit
set_option linter.unusedVariables false
set_option linter.unusedSimpArgs false
section
variable {w0 wb w w' W : World} {L : BLoc} {X : SLoc} {nd B : Nat} {A : List Nat} {F : Nat → Nat → Value} {l : List Int} {J NB : Nat} {rg : Nat → Int} {pc st ft : Int} {kk : Nat → Nat → Int} {wt : Int} {f f' : Nat → Value}
theorem infoKeyG : (Tryz.prog.info? 31).map (fun i => (i.zero, i.size, i.bytes)) = some (some (.agg #[.int .i64 0, .int .i64 0, .int .i64 0, .int .i64 0, .int .u32 0]), 5, 40) := by kernel_rfl
theorem leave_call (s : Nat) (x : Int) (b : Nat) (w : World) : Calls Tryz.prog 61 #[.pointer (some ⟨b, 0, none⟩), .int .i64 x, .int .i64 0] w fun e w' => (∃ v, e = .returned v) ∧ w = w' := by
  go_enter Tryz.func61, Tryz.ntmps61
  go_wp2_with fail
  go_end0
  exact ⟨⟨_, rfl⟩, rfl⟩
set_option maxRecDepth 100000 in
set_option maxHeartbeats 2000000 in
theorem pass5_call (h : GS w0 w L X nd B A F l) (y : Int) (i : Nat) (hy : Hid (y = (i : Int))) (hi : i < nd) (rg : Nat → Int) (pc st ft : Int) (kk : Nat → Nat → Int) (wt : Int) (hF : Hid (F i = RW rg pc st ft kk wt)) (hR : Hid (∀ q, q < 19 → KRight kk q)) (t1 : 0 ≤ ft) (t2 : ft ≤ 6) (u1 : 0 ≤ wt) (u2 : wt ≤ 536870911) (vs vr : Value) (hE : ErrsAt vs vr w0) (hyq : V.wfI y) (hl : l.length ≤ 1000) (hB : B ≤ 1000) (x : Int) (j : Nat) (hxj : Hid (x = (j : Int))) (hj : j < nd) (hij : i ≠ j) (rj : Nat → Int) (pj sj fj : Int) (kj : Nat → Nat → Int) (wj : Int) (hFj : Hid (F j = RW rj pj sj fj kj wj)) (hRj : Hid (∀ q, q < 19 → KRight kj q)) (v1' : 0 ≤ fj) (v2' : fj ≤ 6) (v3' : 0 ≤ wj) (v4' : wj ≤ 1000) (hx6 : rightB 6 x 0 0 (wj + 1) = true) (k2 k3 k4 : Int) (o a b c : Int) (m0 m1 m2 m3 m4 : Int) (n0 n1 n2 n3 n4 : Int) (p0 p1 p2 p3 p4 : Int) (hm : rightB m0 m1 m2 m3 m4 = true) (hn : rightB n0 n1 n2 n3 n4 = true) (hp : rightB p0 p1 p2 p3 p4 = true) :
    Calls Tryz.prog 36 #[.pointer (some ⟨X.s, 0, none⟩), .int .i64 x, .int .i64 0, (Value.agg #[.int .i64 5, .int .i64 y, .int .i64 k2, .int .i64 k3, .int .u32 k4]), (Value.agg #[.int .u32 o, .int .u32 a, .int .u32 b, .int .u32 c, .int .i64 m0, .int .i64 m1, .int .i64 m2, .int .i64 m3, .int .u32 m4, .int .i64 n0, .int .i64 n1, .int .i64 n2, .int .i64 n3, .int .u32 n4, .int .i64 p0, .int .i64 p1, .int .i64 p2, .int .i64 p3, .int .u32 p4])] w fun e w' => (∃ v, e = .returned v) ∧ GS w0 w' L X nd (B + 1) A (setF (setF F j (RW rj pj 2 fj kj (wj + 1))) i (RW (tRg rg o a b c k4) pc 3 ft (tKk kk m0 m1 m2 m3 m4 n0 n1 n2 n3 n4 p0 p1 p2 p3 p4 6 x 0 0 (wj + 1)) wt)) (V.putAll l [y]) ∧ GK A w w' := by
  have H := Lib.hid h
  have HE := Lib.hid hE
  have HFi : Hid ((setF F j (RW rj pj 2 fj kj (wj + 1))) i = RW rg pc st ft kk wt) := Lib.hid ((setF_ne _ _ _ _ hij).trans hF.out)
  obtain ⟨i0, hi0, hz0, hz1, hz2⟩ := info_parts infoKeyG
  have HIK := Lib.hid (And.intro hi0 (And.intro hz0 (And.intro hz1 hz2)))
  clear hi0 hz0 hz1 hz2
  have HLB := Lib.hid (show l.length ≤ 1000 ∧ B ≤ 1000 by omega)
  clear h hE hl hB
  go_enter Tryz.func36, Tryz.ntmps36
  go_upto_region 1 with fail
  generalize hgA : World.alloc _ _ = wA
  obtain ⟨KB, NB, hKB, hNB⟩ : ∃ KB NB, KB = w.heap.size ∧ NB = w.heap.size + 1 := ⟨_, _, rfl, rfl⟩
  have b1 : Below w.heap.size w (w.alloc (.cells #[.int .i64 5, .int .i64 y, .int .i64 k2, .int .i64 k3, .int .u32 k4] 31)) := (Below.refl _ _).alloc (Nat.le_refl _) _
  have HA : Hid (GS w0 wA L X nd B (NB :: KB :: A) F l ∧ Below w.heap.size w wA ∧ wA.rangeAt NB 0 ([.int .u32 o, .int .u32 a, .int .u32 b, .int .u32 c, .int .i64 m0, .int .i64 m1, .int .i64 m2, .int .i64 m3, .int .u32 m4, .int .i64 n0, .int .i64 n1, .int .i64 n2, .int .i64 n3, .int .u32 n4, .int .i64 p0, .int .i64 p1, .int .i64 p2, .int .i64 p3, .int .u32 p4] : List Value) ∧ KeyC wA KB 5 y k2 k3 k4) := Lib.hid (by
    have r := cbox (w.alloc (.cells #[.int .i64 5, .int .i64 y, .int .i64 k2, .int .i64 k3, .int .u32 k4] 31)) ([.int .u32 o, .int .u32 a, .int .u32 b, .int .u32 c, .int .i64 m0, .int .i64 m1, .int .i64 m2, .int .i64 m3, .int .u32 m4, .int .i64 n0, .int .i64 n1, .int .i64 n2, .int .i64 n3, .int .u32 n4, .int .i64 p0, .int .i64 p1, .int .i64 p2, .int .i64 p3, .int .u32 p4] : List Value) 52
    rw [show (w.alloc (.cells #[.int .i64 5, .int .i64 y, .int .i64 k2, .int .i64 k3, .int .u32 k4] 31)).heap.size = w.heap.size + 1 by simp] at r
    rw [← hgA, hNB, hKB]
    exact ⟨(H.out.more b1 w.heap.size (Nat.le_refl _) (by simp)).more ((Below.refl _ _).alloc (Nat.le_refl _) _) (w.heap.size + 1) (by simp) (by simp), b1.alloc (by simp) _, r, (KeyC.new w 5 y k2 k3 k4 _).below ((Below.refl _ _).alloc (Nat.le_refl _) _)⟩)
  rw [← hNB, ← hKB]
  clear hgA hNB hKB b1
  have q0 := HA.out.2.2.2.c0
  have q1 := HA.out.2.2.2.c1
  have q4 := HA.out.2.2.2.c4
  have HW := Lib.hid (wait_is HA.out.1 x j hxj hj rj pj sj fj kj wj hFj hRj v1' v2' v3' v4' vs vr HE.out)
  go_upto_region 7 with (first
    | (go_at_call 49; (with_reducible refine HW.out.mono ?_); rintro e w6 ⟨rfl, hg, hk⟩; have H6 := Lib.hid hg; have K6 := Lib.hid hk; have HNW : Hid (∀ q u, ([.int .i64 6, .int .i64 x, .int .i64 0, .int .i64 0, .int .u32 (wj + 1)] : List Value)[q]? = some u → (w6.alloc (.cells #[.int .i64 6, .int .i64 x, .int .i64 0, .int .i64 0, .int .u32 (wj + 1)] 31)).cell? ((⟨w6.heap.size, 0, none⟩ : Addr).add q) = some u) := Lib.hid (fun q u hu => by have h9 := cbox w6 [.int .i64 6, .int .i64 x, .int .i64 0, .int .i64 0, .int .u32 (wj + 1)] 31 q u hu; rw [Nat.zero_add] at h9; rw [show (⟨w6.heap.size, 0, none⟩ : Addr).add q = ⟨w6.heap.size, q, none⟩ by simp [Addr.add]; exact fun h => h.symm]; exact h9); clear hg hk q0 q1 q4)
    | (at_builtin; refine wpList_append_own _ rfl _ _ 138 rfl (w6.heap.size + 1) 31 i0 (.agg #[.int .i64 0, .int .i64 0, .int .i64 0, .int .i64 0, .int .u32 0]) 5 40 Tryz.underlying138 HIK.out.1 HIK.out.2.1 HIK.out.2.2.1 HIK.out.2.2.2 rfl (by decide) _ _ _ rfl (World.ownsRow_nil _ _ _ _) ⟨w6.heap.size, 0, none⟩ 1 1 [.int .i64 6, .int .i64 x, .int .i64 0, .int .i64 0, .int .u32 (wj + 1)] rfl rfl HNW.out (by simp [Value.oneCell']) (by unfold maxLen; omega) (by omega) (by simp) ?_; intro v' w7 hown hgrow _; have HO := Lib.hid hown; have HGr := Lib.hid hgrow; clear hown hgrow))
  obtain ⟨C, cp, hv, hC1⟩ : ∃ C cp, v' = .slice (some ⟨C, 0, none⟩) 1 cp ∧ w6.heap.size + 1 ≤ C := by
    rcases HO.out.2 with ⟨_, h0⟩ | ⟨g, cap, cur, hv, hB, hg, _⟩
    · omega
    · exact ⟨g, cap, hv, hB⟩
  subst hv
  have hC2 : C < w7.heap.size := cell_lt (v := .int .i64 6) (by simpa using HO.out.cellAt 0 (by decide))
  have H7 : Hid (Below w6.heap.size w6 w7) := Lib.hid (((Below.refl _ _).alloc (Nat.le_refl _) _ : Below w6.heap.size w6 (w6.alloc (.cells #[.int .i64 6, .int .i64 x, .int .i64 0, .int .i64 0, .int .u32 (wj + 1)] 31))).grown HGr.out (by simp) (fun k hk => by have h0 : (none : Option Nat) = some k := hk; cases h0))
  have HKC : Hid (KeyC w7 C 6 x 0 0 (wj + 1)) := Lib.hid ⟨hC2, by simpa using HO.out.cellAt 0 (by decide), by simpa using HO.out.cellAt 1 (by decide), by simpa using HO.out.cellAt 2 (by decide), by simpa using HO.out.cellAt 3 (by decide), by simpa using HO.out.cellAt 4 (by decide), fun q => HO.out.frozenAt q⟩
  have HT := Lib.hid (hand_key C cp (H6.out.more H7.out C (by omega) hC2) y i hy hi rg pc st ft kk wt HFi hR t1 t2 u1 u2 vs vr HE.out hyq HLB.out.1 HLB.out.2 o a b c k4 m0 m1 m2 m3 m4 n0 n1 n2 n3 n4 p0 p1 p2 p3 p4 6 x 0 0 (wj + 1) (by simp) HKC.out hm hn hp hx6)
  have hnc := range_below (range_same HA.out.2.2.1 (K6.out.eq NB (by simp))) H7.out (H6.out.a NB (by simp)).1
  have q1 := ((HA.out.2.2.2.sameg (K6.out.eq KB (by simp)) K6.out.sz).below H7.out).c1
  clear HO HGr hC1 hC2 HKC HIK
  go_upto_region 8 with (first
    | (refine wpList_load_mid (by rfl) _ _ (by rfl) NB 0 (by rfl) ([.int .u32 o, .int .u32 a, .int .u32 b, .int .u32 c, .int .i64 m0, .int .i64 m1, .int .i64 m2, .int .i64 m3, .int .u32 m4, .int .i64 n0, .int .i64 n1, .int .i64 n2, .int .i64 n3, .int .u32 n4, .int .i64 p0, .int .i64 p1, .int .i64 p2, .int .i64 p3, .int .u32 p4] : List Value) _ hnc Tryz.underlying52 rfl infoNote ?_; clear hnc)
    | (go_at_call 51; (with_reducible refine HT.out.mono ?_); rintro e w8 ⟨⟨v8, rfl⟩, hg, hk⟩; have H8 := Lib.hid hg.tail.tail.tail; have K8 := Lib.hid hk; clear hg hk q1))
  go_wp2_with (first | (go_at_call 61; (with_reducible refine (leave_call X.s x X.s _).mono ?_); rintro e w9 ⟨⟨v9, rfl⟩, rfl⟩))
  go_end0
  exact ⟨⟨_, rfl⟩, H8.out, (GS.keep HA.out.2.1 H.out).trans (K6.out.tail.tail.trans ((GS.keep H7.out H6.out).tail.tail.trans K8.out.tail.tail.tail))⟩
theorem gi_call (h : GS w0 w L X nd B A F l) (y : Int) (i : Nat) (hy : Hid (y = (i : Int))) (hi : i < nd) (rg : Nat → Int) (pc ft : Int) (kk : Nat → Nat → Int) (wt : Int) (hF : Hid (F i = RW rg pc 1 ft kk wt)) (hR : Hid (∀ q, q < 19 → KRight kk q)) (t1 : 0 ≤ ft) (t2 : ft ≤ 6) (u1' : 0 ≤ wt) (u2' : wt ≤ 536870911)
    (x : Int) (j : Nat) (hx : Hid (x = (j : Int))) (hj : j < nd) (hij : i ≠ j) (rj : Nat → Int) (pj fj : Int) (kj : Nat → Nat → Int) (wj : Int) (hFj : Hid (F j = RW rj pj 3 fj kj wj)) (hRj : Hid (∀ q, q < 19 → KRight kj q)) (v1' : 0 ≤ fj) (v2' : fj ≤ 6) (v3' : 0 ≤ wj) (v4' : wj ≤ 1000)
    (vs vr : Value) (hE : ErrsAt vs vr w0) (hyq : V.wfI y) (hxq : V.wfI x) (hl : l.length ≤ 1000) (hB : B ≤ 1000) (k4 : Int) (hr : rightB 5 y 0 0 k4 = true) (hx6 : rightB 6 x 0 0 (wj + 1) = true) (o a b c : Int) (m0 m1 m2 m3 m4 : Int) (n0 n1 n2 n3 n4 : Int) (p0 p1 p2 p3 p4 : Int) (u0 u1 u2 u3 u4 : Int) (v0 v1 v2 v3 v4 : Int) (z0 z1 z2 z3 z4 : Int) (hm : rightB u0 u1 u2 u3 u4 = true) (hn : rightB v0 v1 v2 v3 v4 = true) (hp : rightB z0 z1 z2 z3 z4 = true)
    (sm : (∀ (W : World) (B : Nat) (A : List Nat) (l : List Int), GS w0 W L X nd B A F l → Calls Tryz.prog 21 #[.pointer (some ⟨X.s, 0, none⟩), (Value.agg #[.int .i64 m0, .int .i64 m1, .int .i64 m2, .int .i64 m3, .int .u32 m4])] W fun e w' => e = .returned (Value.agg #[.int .i64 u0, .int .i64 u1, .int .i64 u2, .int .i64 u3, .int .u32 u4]) ∧ Below W.heap.size W w')) (sn : (∀ (W : World) (B : Nat) (A : List Nat) (l : List Int), GS w0 W L X nd B A F l → Calls Tryz.prog 21 #[.pointer (some ⟨X.s, 0, none⟩), (Value.agg #[.int .i64 n0, .int .i64 n1, .int .i64 n2, .int .i64 n3, .int .u32 n4])] W fun e w' => e = .returned (Value.agg #[.int .i64 v0, .int .i64 v1, .int .i64 v2, .int .i64 v3, .int .u32 v4]) ∧ Below W.heap.size W w')) (sp : (∀ (W : World) (B : Nat) (A : List Nat) (l : List Int), GS w0 W L X nd B A F l → Calls Tryz.prog 21 #[.pointer (some ⟨X.s, 0, none⟩), (Value.agg #[.int .i64 p0, .int .i64 p1, .int .i64 p2, .int .i64 p3, .int .u32 p4])] W fun e w' => e = .returned (Value.agg #[.int .i64 z0, .int .i64 z1, .int .i64 z2, .int .i64 z3, .int .u32 z4]) ∧ Below W.heap.size W w')) (su : (∀ (W : World) (B : Nat) (A : List Nat) (l : List Int), GS w0 W L X nd B A F l → Calls Tryz.prog 21 #[.pointer (some ⟨X.s, 0, none⟩), (Value.agg #[.int .i64 u0, .int .i64 u1, .int .i64 u2, .int .i64 u3, .int .u32 u4])] W fun e w' => e = .returned (Value.agg #[.int .i64 u0, .int .i64 u1, .int .i64 u2, .int .i64 u3, .int .u32 u4]) ∧ Below W.heap.size W w')) (sv : (∀ (W : World) (B : Nat) (A : List Nat) (l : List Int), GS w0 W L X nd B A F l → Calls Tryz.prog 21 #[.pointer (some ⟨X.s, 0, none⟩), (Value.agg #[.int .i64 v0, .int .i64 v1, .int .i64 v2, .int .i64 v3, .int .u32 v4])] W fun e w' => e = .returned (Value.agg #[.int .i64 v0, .int .i64 v1, .int .i64 v2, .int .i64 v3, .int .u32 v4]) ∧ Below W.heap.size W w')) (sz : (∀ (W : World) (B : Nat) (A : List Nat) (l : List Int), GS w0 W L X nd B A F l → Calls Tryz.prog 21 #[.pointer (some ⟨X.s, 0, none⟩), (Value.agg #[.int .i64 z0, .int .i64 z1, .int .i64 z2, .int .i64 z3, .int .u32 z4])] W fun e w' => e = .returned (Value.agg #[.int .i64 z0, .int .i64 z1, .int .i64 z2, .int .i64 z3, .int .u32 z4]) ∧ Below W.heap.size W w')) :
    Calls Tryz.prog 12 #[.pointer (some ⟨X.s, 0, none⟩), .int .i64 x, .int .i64 0, (Value.agg #[.int .i64 5, .int .i64 y, .int .i64 0, .int .i64 0, .int .u32 k4]), (Value.agg #[.int .u32 o, .int .u32 a, .int .u32 b, .int .u32 c, .int .i64 m0, .int .i64 m1, .int .i64 m2, .int .i64 m3, .int .u32 m4, .int .i64 n0, .int .i64 n1, .int .i64 n2, .int .i64 n3, .int .u32 n4, .int .i64 p0, .int .i64 p1, .int .i64 p2, .int .i64 p3, .int .u32 p4])] w fun e w' => e = .returned (.tuple #[.agg ([.int .i64 1, .int .i64 y, .int .u32 0, .int .u32 0, .int .u32 0, .int .u32 0, .int .i64 0, .int .i64 0, .int .i64 0, .int .i64 0, .int .u32 0, .int .i64 0, .int .i64 0, .int .i64 0, .int .i64 0, .int .u32 0, .int .i64 0, .int .i64 0, .int .i64 0, .int .i64 0, .int .u32 0] : List Value).toArray, .nilIface]) ∧ GS w0 w' L X nd (B + 1) A (setF (setF F j (RW rj pj 2 fj kj (wj + 1))) i (RW (tRg rg o a b c k4) pc 3 ft (tKk kk u0 u1 u2 u3 u4 v0 v1 v2 v3 v4 z0 z1 z2 z3 z4 6 x 0 0 (wj + 1)) wt)) (V.putAll (V.offI l x) [y]) ∧ GK A w w' := by
  have hlo : (V.offI l x).length ≤ 1000 := Nat.le_trans (off_len l x) hl
  refine (inv_pass5 h x j hx hj rj pj fj kj wj hFj 0 (by decide) (by decide) hxq hl 5 y 0 0 k4 m0 m1 m2 m3 m4 n0 n1 n2 n3 n4 p0 p1 p2 p3 p4 o a b c u0 u1 u2 u3 u4 (fun W hW => sm W _ _ _ hW) v0 v1 v2 v3 v4 (fun W hW => sn W _ _ _ hW) z0 z1 z2 z3 z4 (fun W hW => sp W _ _ _ hW) 5 y 0 0 k4 (fun W hW => hW.seen_start y i hy hi k4 hr vs vr hE) rfl (fun W hW => oanswer_no X.s 5 y 0 0 k4 5 y 0 0 k4 o a b c u0 u1 u2 u3 u4 v0 v1 v2 v3 v4 z0 z1 z2 z3 z4 u0 u1 u2 u3 u4 v0 v1 v2 v3 v4 z0 z1 z2 z3 z4 rfl W (fun W2 hW2 => (hW.below hW2).seen_start y i hy hi k4 hr vs vr hE) (fun W2 hW2 => su W2 _ _ _ (hW.below hW2)) (fun W2 hW2 => sv W2 _ _ _ (hW.below hW2)) (fun W2 hW2 => sz W2 _ _ _ (hW.below hW2))) (fun W hW => avail_is hW y i hy hi rg pc 1 ft kk wt hF) (fun B' F' l' => B' = B + 1 ∧ F' = setF (setF F j (RW rj pj 2 fj kj (wj + 1))) i (RW (tRg rg o a b c k4) pc 3 ft (tKk kk u0 u1 u2 u3 u4 v0 v1 v2 v3 v4 z0 z1 z2 z3 z4 6 x 0 0 (wj + 1)) wt) ∧ l' = V.putAll (V.offI l x) [y]) (fun A' W hW => ?_)).mono ?_
  · refine (pass5_call hW y i hy hi rg pc 1 ft kk wt hF hR t1 t2 u1' u2' vs vr hE hyq hlo hB x j hx hj hij rj pj 3 fj kj wj hFj hRj v1' v2' v3' v4' hx6 0 0 k4 o a b c u0 u1 u2 u3 u4 v0 v1 v2 v3 v4 z0 z1 z2 z3 z4 hm hn hp).mono ?_
    rintro e w9 ⟨h1, h2, h3⟩
    exact ⟨h1, ⟨_, _, _, ⟨rfl, rfl, rfl⟩, h2⟩, h3⟩
  · rintro e w9 ⟨rfl, ⟨B', F', l', ⟨rfl, rfl, rfl⟩, hg⟩, hk⟩
    exact ⟨rfl, hg, hk⟩
end
end Go.Proofs.YtllcakiomihipaaGreatDoor
namespace Go.Proofs.YtllcakiomihipaaGreatDoor
open Go.Joins Go.ChangeShapes Go.WideShapes Go.ChangeAt Go.RowKit Go.Deep
set_option linter.unusedVariables false
/-- These cells are read as a value of this type. -/
def Reads (P : Program) (w : World) (t : TypeId) (cs : List Value) : Prop := ∃ (H : Type) (enc : TypeId × Value → H) (base fuel : Nat) (held : Bool) (x : DataW H × List MemPlace), DataW.trod enc P w base (fun _ => true) held fuel t cs = some x
section
variable {P : Program} {w : World} {t e : TypeId} {cs : List Value}
theorem Reads.of {H : Type} {enc : TypeId × Value → H} {base : Nat} {held : Bool} {v : Value} {d : DataW H} {p : List MemPlace} (h : DataW.Trod enc P w base (fun _ => true) held t v d p) : Reads P w t v.cells.toList := by
  obtain ⟨fuel, hf⟩ := h
  exact ⟨H, enc, base, fuel, held, _, hf⟩
theorem Reads.int {k : IntKind} (ht : P.underlying t = some (.int k)) (h : Reads P w t cs) : ∃ n : Int, cs = [.int k n] ∧ (Lit.int k n).wf = true := by
  obtain ⟨H, enc, base, fuel, held, x, hf⟩ := h
  obtain ⟨n, e1, _, e2⟩ := DataW.trod_int ht hf
  exact ⟨n, e1, e2⟩
theorem Reads.bool (ht : P.underlying t = some .bool) (h : Reads P w t cs) : ∃ b : Bool, cs = [.bool b] := by
  obtain ⟨H, enc, base, fuel, held, x, hf⟩ := h
  obtain ⟨b, e1, _⟩ := DataW.trod_bool ht hf
  exact ⟨b, e1⟩
theorem Reads.string (ht : P.underlying t = some .string) (h : Reads P w t cs) : ∃ s : ByteArray, cs = [.string s] ∧ s.size ≤ maxLen := by
  obtain ⟨H, enc, base, fuel, held, x, hf⟩ := h
  obtain ⟨s, e1, _, e2⟩ := DataW.trod_string ht hf
  exact ⟨s, e1, e2⟩
theorem Reads.struct {fs : Array Field} (ht : P.underlying t = some (.struct fs)) (h : Reads P w t cs) : cs.length = P.cellsOf t ∧ ∀ (i : Nat) (f : Field), fs[i]? = some f → Reads P w f.type ((cs.drop f.offset).take (P.cellsOf f.type)) := by
  obtain ⟨H, enc, base, fuel, held, x, hf⟩ := h
  obtain ⟨xs, n, _, _, hl, hxl, hg⟩ := DataW.trod_struct ht hf
  refine ⟨hl, fun i f hi => ?_⟩
  have hlt : i < xs.length := by
    have := (Array.getElem?_eq_some_iff.1 hi).1
    omega
  exact ⟨H, enc, base, n, held, _, (hg i f hi).trans (List.getElem?_eq_getElem hlt)⟩
theorem Reads.array {n : Nat} (ht : P.underlying t = some (.array n e)) (h : Reads P w t cs) : ∀ i, i < n → Reads P w e ((cs.drop (i * P.cellsOf e)).take (P.cellsOf e)) := by
  obtain ⟨H, enc, base, fuel, held, x, hf⟩ := h
  obtain ⟨xs, m, _, _, _, hxl, hg⟩ := DataW.trod_array ht hf
  intro i hi
  exact ⟨H, enc, base, m, held, _, (hg i hi).trans (List.getElem?_eq_getElem (by omega))⟩
/-- A slice: nil, or each of its elements is read. -/
theorem Reads.slice {a : Option Addr} {len cap : Nat} (ht : P.underlying t = some (.slice e)) (h : Reads P w t [.slice a len cap]) :
    (a = none ∧ len = 0 ∧ cap = 0) ∨ ∃ x, a = some x ∧ len ≤ cap ∧ cap ≤ maxLen ∧ ∀ i, i < cap → ∃ cs', cs'.length = P.cellsOf e ∧ (∀ j v, cs'[j]? = some v → w.cell? (x.add (i * P.cellsOf e + j)) = some v) ∧ Reads P w e cs' := by
  obtain ⟨H, enc, base, fuel, held, x, hf⟩ := h
  rcases open_slice ht hf with ⟨h0, _⟩ | ⟨y, l, c, m, n, D, Pl, hcs, hb, hl, hm, hmm, hx, hi⟩
  · simp at h0
    exact .inl h0
  · simp at hcs
    obtain ⟨rfl, rfl, rfl⟩ := hcs
    have hmc : m = cap := by simpa using hmm
    refine .inr ⟨_, rfl, hl, hm, fun i hic => ?_⟩
    obtain ⟨cs', hc, ht'⟩ := hi i (by omega)
    obtain ⟨_, hcl, hat⟩ := World.cells?_some hc
    refine ⟨cs', hcl, fun j v hj => ?_, H, enc, base, n, held, _, ht'⟩
    have hjl : j < cs'.length := (List.getElem?_eq_some_iff.1 hj).1
    rw [← Go.Deep.add_add, hat j (by omega), hj]
theorem Reads.rows {fs : Array Field} {a : Option Addr} {len cap : Nat} {ks : List IntKind} (ht : P.underlying t = some (.slice e)) (he : P.underlying e = some (.struct fs))
    (hone : oneCellFields P fs = true) (hC : P.cellsOf e = ks.length) (hfk : fs.size = ks.length) (hk : ∀ (j : Nat) (f : Field), fs[j]? = some f → ∃ k, ks[j]? = some k ∧ P.underlying f.type = some (.int k)) (h : Reads P w t [.slice a len cap]) : ∃ zs, IsRows ks w a len cap zs := by
  obtain ⟨H, enc, base, fuel, held, x, hf⟩ := h
  exact open_rows ht he hone hC hfk hk hf
/-- A field of one cell. -/
theorem Reads.cell {fs : Array Field} (ht : P.underlying t = some (.struct fs)) (h : Reads P w t cs) (i : Nat) (f : Field) (hf : fs[i]? = some f) (h1 : P.cellsOf f.type = 1) (ho : f.offset < P.cellsOf t) : ∃ v, cs[f.offset]? = some v ∧ Reads P w f.type [v] := by
  obtain ⟨hl, hg⟩ := h.struct ht
  have h2 := hg i f hf
  rw [h1] at h2
  have hlt : f.offset < cs.length := by omega
  refine ⟨cs[f.offset], List.getElem?_eq_getElem hlt, ?_⟩
  have e : (cs.drop f.offset).take 1 = [cs[f.offset]] := by
    rw [List.drop_eq_getElem_cons hlt]
    rfl
  rwa [e] at h2
end
end Go.Proofs.YtllcakiomihipaaGreatDoor
namespace Go.Proofs.YtllcakiomihipaaGreatDoor
open Go.ChangeShapes Go.WideShapes Go.ChangeAt Go.RowKit
set_option linter.unusedVariables false
set_option linter.unusedSimpArgs false
theorem reads_part {P : Program} {w : World} {fs : Array Field} {cs : List Value} (hf : ∀ (i : Nat) (f : Field), fs[i]? = some f → Reads P w f.type ((cs.drop f.offset).take (P.cellsOf f.type))) (i : Nat) (f : Field) (hi : fs[i]? = some f) (t : TypeId) (o n : Nat) (ht : f.type = t) (ho : f.offset = o) (hn : P.cellsOf t = n) : Reads P w t ((cs.drop o).take n) := by
  subst ht ho hn
  exact hf i f hi
/-- A key's five numbers. -/
def KWf (y0 y1 y2 y3 y4 : Int) : Prop := (Lit.int .i64 y0).wf = true ∧ (Lit.int .i64 y1).wf = true ∧ (Lit.int .i64 y2).wf = true ∧ (Lit.int .i64 y3).wf = true ∧ (Lit.int .u32 y4).wf = true
set_option maxRecDepth 100000 in
theorem key_read {w : World} {cs : List Value} (hr : Reads Tryz.prog w 31 cs) : ∃ y0 y1 y2 y3 y4, cs = [.int .i64 y0, .int .i64 y1, .int .i64 y2, .int .i64 y3, .int .u32 y4] ∧ KWf y0 y1 y2 y3 y4 := by
  have e3 : Tryz.prog.cellsOf 31 = 5 := by kernel_rfl
  obtain ⟨hl, _⟩ := hr.struct Tryz.underlying31
  rw [e3] at hl
  obtain ⟨v0, g0, r0⟩ := hr.cell Tryz.underlying31 0 _ rfl (by kernel_rfl) (by rw [e3]; decide)
  obtain ⟨v1, g1, r1⟩ := hr.cell Tryz.underlying31 1 _ rfl (by kernel_rfl) (by rw [e3]; decide)
  obtain ⟨v2, g2, r2⟩ := hr.cell Tryz.underlying31 2 _ rfl (by kernel_rfl) (by rw [e3]; decide)
  obtain ⟨v3, g3, r3⟩ := hr.cell Tryz.underlying31 3 _ rfl (by kernel_rfl) (by rw [e3]; decide)
  obtain ⟨v4, g4, r4⟩ := hr.cell Tryz.underlying31 4 _ rfl (by kernel_rfl) (by rw [e3]; decide)
  obtain ⟨y0, e0, w0⟩ := r0.int Tryz.underlying3
  obtain ⟨y1, e1, w1⟩ := r1.int Tryz.underlying3
  obtain ⟨y2, e2, w2⟩ := r2.int Tryz.underlying3
  obtain ⟨y3, e3', w3⟩ := r3.int Tryz.underlying3
  obtain ⟨y4, e4, w4⟩ := r4.int Tryz.underlying26
  simp only [List.cons.injEq, and_true] at e0 e1 e2 e3' e4
  subst e0 e1 e2 e3' e4
  refine ⟨y0, y1, y2, y3, y4, ?_, w0, w1, w2, w3, w4⟩
  match cs, hl with
  | [c0, c1, c2, c3, c4], _ =>
    simp at g0 g1 g2 g3 g4
    rw [g0, g1, g2, g3, g4]
set_option maxRecDepth 100000 in
theorem note_read {w : World} {cs : List Value} (hr : Reads Tryz.prog w 52 cs) : ∃ (o a b c : Int) (m0 m1 m2 m3 m4 : Int) (n0 n1 n2 n3 n4 : Int) (p0 p1 p2 p3 p4 : Int), cs = ([.int .u32 o, .int .u32 a, .int .u32 b, .int .u32 c, .int .i64 m0, .int .i64 m1, .int .i64 m2, .int .i64 m3, .int .u32 m4, .int .i64 n0, .int .i64 n1, .int .i64 n2, .int .i64 n3, .int .u32 n4, .int .i64 p0, .int .i64 p1, .int .i64 p2, .int .i64 p3, .int .u32 p4] : List Value) ∧ (0 ≤ m4 ∧ m4 ≤ 4294967295) ∧ (0 ≤ n4 ∧ n4 ≤ 4294967295) ∧ (0 ≤ p4 ∧ p4 ≤ 4294967295) := by
  have eN : Tryz.prog.cellsOf 52 = 19 := by kernel_rfl
  have eK : Tryz.prog.cellsOf 31 = 5 := by kernel_rfl
  have eU : Tryz.prog.cellsOf 26 = 1 := by kernel_rfl
  have eW : Tryz.prog.cellsOf 49 = 3 := by kernel_rfl
  have eS : Tryz.prog.cellsOf 50 = 15 := by kernel_rfl
  obtain ⟨hl, hf⟩ := hr.struct Tryz.underlying52
  rw [eN] at hl
  have r0 : Reads Tryz.prog w 26 ((cs.drop 0).take 1) := reads_part hf 0 _ rfl _ _ _ rfl rfl eU
  have r1 : Reads Tryz.prog w 49 ((cs.drop 1).take 3) := reads_part hf 1 _ rfl _ _ _ rfl rfl eW
  have r2 : Reads Tryz.prog w 50 ((cs.drop 4).take 15) := reads_part hf 2 _ rfl _ _ _ rfl rfl eS
  have a1 := r1.array Tryz.underlying49
  have a2 := r2.array Tryz.underlying50
  obtain ⟨o, e0, -⟩ := r0.int Tryz.underlying26
  obtain ⟨a, e1, -⟩ := (a1 0 (by decide)).int Tryz.underlying26
  obtain ⟨b, e2, -⟩ := (a1 1 (by decide)).int Tryz.underlying26
  obtain ⟨c, e3, -⟩ := (a1 2 (by decide)).int Tryz.underlying26
  obtain ⟨m0, m1, m2, m3, m4, k0, f0⟩ := key_read (a2 0 (by decide))
  obtain ⟨n0, n1, n2, n3, n4, k1, f1⟩ := key_read (a2 1 (by decide))
  obtain ⟨p0, p1, p2, p3, p4, k2, f2⟩ := key_read (a2 2 (by decide))
  rw [eU] at e1 e2 e3
  rw [eK] at k0 k1 k2
  refine ⟨o, a, b, c, m0, m1, m2, m3, m4, n0, n1, n2, n3, n4, p0, p1, p2, p3, p4, ?_, fit32 f0.2.2.2.2, fit32 f1.2.2.2.2, fit32 f2.2.2.2.2⟩
  match cs, hl with
  | [c0, c1, c2, c3, c4, c5, c6, c7, c8, c9, c10, c11, c12, c13, c14, c15, c16, c17, c18], _ =>
    simp at e0 e1 e2 e3 k0 k1 k2
    obtain ⟨rfl, rfl, rfl, rfl, rfl⟩ := k0
    obtain ⟨rfl, rfl, rfl, rfl, rfl⟩ := k1
    obtain ⟨rfl, rfl, rfl, rfl, rfl⟩ := k2
    rw [e0, e1, e2, e3]
end Go.Proofs.YtllcakiomihipaaGreatDoor
namespace Go.Proofs.YtllcakiomihipaaGreatDoor
open Go.ChangeShapes Go.WideShapes Go.ChangeAt Go.RowKit
set_option linter.unusedVariables false
set_option linter.unusedSimpArgs false
/-- Only blocks from N to M, and from T on, change. -/
def Fr (N M T : Nat) (w1 w2 : World) : Prop := Below N w1 w2 ∧ ∀ k, M ≤ k → k < T → w2.heap[k]? = w1.heap[k]?
/-- What is kept stays so; what has no block from N to M has none from N to less. -/
structure QF (N : Nat) (Q : Nat → Nat → World → Prop) : Prop where
  fr : ∀ M T w1 w2, Q M T w1 → Fr N M T w1 w2 → Q M T w2
  mono : ∀ M M' T T' w, Q M T w → M' ≤ M → T ≤ T' → Q M' T' w
theorem heap_cells (k R : Nat) (h : k ≠ R) : ∀ (l : List Value) (w : World) (o : Nat), (w.setCells R o l).heap[k]? = w.heap[k]?
  | [], w, o => by simp [World.setCells]
  | v :: l, w, o => by
    simp only [World.setCells]
    rw [heap_cells k R h l _ _]
    exact Below.heap_setCell _ _ _ _ h
theorem Fr.fresh {N M T K : Nat} {w1 w2 : World} (h : Below K w1 w2) (hN : N ≤ K) (hT : T ≤ K) : Fr N M T w1 w2 := ⟨h.mono hN, fun k _ h2 => h.block k (Nat.lt_of_lt_of_le h2 hT)⟩
theorem Fr.cells {N M T R : Nat} (w : World) (l : List Value) (hN : N ≤ R) (hM : R < M) : Fr N M T w (w.setCells R 0 l) := ⟨nbelow_cells (Below.refl _ _) hN _ _, fun k h1 _ => heap_cells k R (by omega) l w 0⟩
theorem QF.keep {N K M T : Nat} {Q : Nat → Nat → World → Prop} (h : QF N Q) {w1 w2 : World} (hq : Q M T w1) (hb : Below K w1 w2) (hN : N ≤ K) (hT : T ≤ K) : Q M T w2 := h.fr _ _ _ _ hq (Fr.fresh hb hN hT)
/-- The answer is stored in a block that was there ahead. -/
theorem QF.store {N M T R M0 T0 : Nat} {Q : Nat → Nat → World → Prop} (h : QF N Q) {w : World} (hq : Q M T w) (l : List Value) (hN : N ≤ R) (hM : R < M) (h0 : M0 ≤ M) (hT : T ≤ T0) : Q M0 T0 (w.setCells R 0 l) := h.mono _ _ _ _ _ (h.fr _ _ _ _ hq (Fr.cells w l hN hM)) h0 hT
/-- Where the factories and the queue lie. -/
def FL (X : SLoc) : Prop := X.fP < X.q ∧ X.fp < X.q ∧ X.fR < X.q ∧ X.fG < X.q ∧ X.q < X.s
section
variable {w0 w w' : World} {L : BLoc} {X : SLoc} {D : BSt} {f g : Nat → Value} {l : List Int} {S S' : Nat → Prop} {N M T B : Nat} {A : List Nat}
theorem BW.high3 (h : BW w0 w L D) (hb : Below L.T w w') : BW w0 w' L D := by
  have h1 := h.md
  have h2 := h.dl
  have h3 := h.tt
  have h4 := h.db
  exact h.keep (hb.mono (by omega)) (hb.block _ (by omega)) (hb.block _ (by omega)) (hb.block _ (by omega)) (hb.block _ (by omega)) (hb.block _ (by omega)) (fun k _ hk => hb.block k hk)
/-- What else but the queue lies in the system stays. -/
theorem SJ.rest (h : SJ w0 w L X D) (hX : FL X) (hos : w'.os = w.os) (ht : w'.tape = w.tape) (ho : w'.output = w.output) (hs : w.heap.size ≤ w'.heap.size) (hk : ∀ k, k < w.heap.size → k ≠ X.q → k ≤ X.s → w'.heap[k]? = w.heap[k]?) : SJ w0 w' L X D := by
  have hl := h.lo
  unfold FL at hX
  have hb : Below L.T w w' := ⟨hos, ht, ho, hs, fun k hk2 => hk k (by have := h.k.tw; omega) (by omega) (by omega)⟩
  have ht := h.t.low2
  have hf3 := h.f.ar.lt.2
  have hf4 := (h.f.row.lt _ rfl).2
  have htt := h.k.tt
  exact ⟨h.k.high3 hb, h.t.same hs (hk _ ht.2.2.2.2.1 (by omega) (by omega)) (hk _ ht.2.2.2.2.2.1 (by omega) (by omega)) (hk _ ht.2.2.2.2.2.2.1 (by omega) (by omega)) (hk _ ht.2.2.2.2.2.2.2 (by omega) (by omega)), h.f.same hs (hk _ h.f.pl (by omega) (by omega)) (hk _ h.f.ar.pl (by omega) (by omega)) (hk _ hf3 (by omega) (by omega)) (hk _ hf4 (by omega) (by omega)), h.b.same hs (hk _ h.b.lt (by omega) (by omega)), hl⟩
theorem SJ.queue (h : SJ w0 w L X D) (hX : FL X) (hv : V.VFr X.q 0 w w' S S') (hS : ∀ k, S k → k = X.q ∨ X.s + 1 ≤ k) : SJ w0 w' L X D :=
  h.rest hX hv.os hv.tape hv.output hv.size (fun k h1 h2 h3 => (hv.block k h1 (fun hs => by have := hS k hs; omega)).1)
theorem SJ.low (h : SJ w0 w L X D) (hX : FL X) (hb : Below N w w') (hN : X.s < N) : SJ w0 w' L X D :=
  h.rest hX hb.os hb.tape hb.output hb.size (fun k _ _ h3 => hb.block k (by omega))
/-- The system, its domain's row, those ready; where the queue lies not. -/
def DQ (N M T : Nat) (w0 W : World) (L : BLoc) (X : SLoc) (B : Nat) (A : List Nat) (f : Nat → Value) (l : List Int) : Prop := DS w0 W L X f ∧ X.s < N ∧ ∃ b S, b ≤ B ∧ V.VI W (X.s + 1) X.q 0 b l S ∧ ∀ k, S k → (k < N ∨ M ≤ k) ∧ k < T ∧ k ∉ A
def DA (w0 W : World) (L : BLoc) (X : SLoc) (B : Nat) (A : List Nat) (f : Nat → Value) (l : List Int) : Prop := DQ W.heap.size W.heap.size W.heap.size w0 W L X B A f l
def KA (A : List Nat) (w W : World) : Prop := ∀ k ∈ A, W.heap[k]? = w.heap[k]?
theorem DQ.fr (h : DQ N M T w0 w L X B A f l) (hX : FL X) (hf : Fr N M T w w') : DQ N M T w0 w' L X B A f l := by
  obtain ⟨⟨D, h1, hd⟩, hN, b, S, h2, h3, h4⟩ := h
  unfold FL at hX
  refine ⟨⟨D, h1.low hX hf.1 hN, hd⟩, hN, b, S, h2, h3.same (fun j _ => V.same_cells (hf.1.block X.q (by omega)) j) (fun k hk _ => ?_), h4⟩
  rcases h4 k hk with ⟨h5 | h5, h6, _⟩
  · exact hf.1.block k h5
  · exact hf.2 k h5 h6
theorem DQ.mono {M' T' : Nat} (h : DQ N M T w0 w L X B A f l) (hM : M' ≤ M) (hT : T ≤ T') : DQ N M' T' w0 w L X B A f l := by
  obtain ⟨h1, hN, b, S, h2, h3, h4⟩ := h
  exact ⟨h1, hN, b, S, h2, h3, fun k hk => by have := h4 k hk; exact ⟨by omega, by omega, this.2.2⟩⟩
theorem DA.start (h : DA w0 w L X B A f l) (hX : FL X) (hb : Below w.heap.size w w') : DQ w.heap.size w.heap.size w.heap.size w0 w' L X B A f l := h.fr hX ⟨hb, fun k h1 h2 => by omega⟩
theorem DQ.any {N T2 : Nat} (h : DQ N N N w0 w L X B A f l) (M2 : Nat) (hT : N ≤ T2) : DQ N M2 T2 w0 w L X B A f l := by
  obtain ⟨h1, hN, b, S, h2, h3, h4⟩ := h
  exact ⟨h1, hN, b, S, h2, h3, fun k hk => by have := h4 k hk; exact ⟨by omega, by omega, this.2.2⟩⟩
theorem DQ.done (h : DQ N M T w0 w L X B A f l) : DA w0 w L X B A f l := by
  obtain ⟨⟨D, h1, hd⟩, hN, b, S, h2, h3, h4⟩ := h
  exact ⟨⟨D, h1, hd⟩, h1.b.lt, b, S, h2, h3, fun k hk => ⟨.inl (h3.hi k hk), h3.hi k hk, (h4 k hk).2.2⟩⟩
theorem DA.below (h : DA w0 w L X B A f l) (hX : FL X) (hb : Below w.heap.size w w') : DA w0 w' L X B A f l := (h.start hX hb).done
/-- A block that came behind is none of the queue's. -/
theorem DA.more (h : DA w0 w L X B A f l) (hX : FL X) (hb : Below w.heap.size w w') (k : Nat) (hk : w.heap.size ≤ k) : DA w0 w' L X B (k :: A) f l := by
  obtain ⟨h1, hN, b, S, h2, h3, h4⟩ := h.start hX hb
  refine DQ.done (M := w.heap.size) (T := w.heap.size) ⟨h1, hN, b, S, h2, h3, fun j hj => ?_⟩
  have := h4 j hj
  refine ⟨this.1, this.2.1, ?_⟩
  intro hm
  rcases List.mem_cons.1 hm with rfl | hm
  · omega
  · exact this.2.2 hm
theorem DQ.low (h : DQ N M T w0 w L X B A f l) : w0.heap.size ≤ L.dR ∧ w0.heap.size ≤ L.dG ∧ L.dR < X.s ∧ L.dG < X.s := by
  obtain ⟨⟨D, h1, _⟩, _⟩ := h
  have hl := h1.lo
  have hdb := h1.k.db
  have htt := h1.k.tt
  have h2 := h1.k.d.pl.ar.lt.1
  have h3 := (h1.k.d.pl.row.lt L.dG rfl).1
  have hb := h1.k.bel.size
  have hn := h1.k.m.n0
  have hm := h1.k.md
  have ht := h1.t.low2
  omega
/-- A domain's row is put. -/
theorem DQ.put (hX : FL X) (hA0 : ∀ k ∈ A, k < N ∧ ((k < L.dR ∧ k < L.dG) ∨ X.s < k)) (h : DQ N M T w0 w' L X B A f l ∧ KA A w w') (hNw : N ≤ w'.heap.size) (hn : 0 < L.dn) (r : Nat) (hr : r < 16) (m0 m1 m2 m3 m4 : Int) (pc st ft : Int) (hm : rightB m0 m1 m2 m3 m4 = true) (s1 : 1 ≤ st) (s2 : st ≤ 4) (t1 : 0 ≤ ft) (t2 : ft ≤ 6) (vs vr : Value) (hE : ErrsAt vs vr w') :
    Calls Tryz.prog 11 #[.pointer (some ⟨L.dP, 0, none⟩), .int .i64 0, .agg (rowL (fR r m0 m1 m2 m3 m4 pc st ft)).toArray] w' fun e w2 => e = .returned .nilIface ∧ (DQ N M T w0 w2 L X B A (fR r m0 m1 m2 m3 m4 pc st ft) l ∧ KA A w w2) ∧ UpT N w' w2 := by
  have hlow := h.1.low
  obtain ⟨⟨h1, hN, b, S, h2, h3, h4⟩, hK⟩ := h
  unfold FL at hX
  refine (h1.put hn r hr m0 m1 m2 m3 m4 pc st ft hm s1 s2 t1 t2 vs vr hE).mono ?_
  rintro e w2 ⟨he, hd, hb⟩
  obtain ⟨D, hj, _⟩ := h1
  have hl := hj.lo
  have hdb := hj.k.db
  have htt := hj.k.tt
  refine ⟨he, ⟨⟨hd, hN, b, S, h2, h3.same (fun j _ => V.same_cells (hb.2.2.2.2 X.q h3.lt (by omega) (by omega)) j) (fun k hk hne => hb.2.2.2.2 k (h3.hi k hk) ?_ ?_), h4⟩, fun k hk => (hb.2.2.2.2 k ?_ ?_ ?_).trans (hK k hk)⟩, UpT.pb hb (by omega) (by omega)⟩
  · have := h3.lo k hk; omega
  · have := h3.lo k hk; omega
  · have := hA0 k hk; omega
  · have := hA0 k hk; omega
  · have := hA0 k hk; omega
theorem DA.has (h : DA w0 w L X B A f l) (t : Bool) (ht : Hid (l.contains 0 = t)) : Calls Tryz.prog 17 #[.pointer (some ⟨X.q, 0, none⟩), .int .i64 0] w fun e w' => e = .returned (.bool t) ∧ Below w.heap.size w w' := by
  obtain ⟨_, _, b, S, _, h3, _⟩ := h
  exact V.qhas_is 0 (V.wfI.mk (by decide) (by decide)) t ht w h3
/-- What a queue's call leaves. -/
theorem DQ.turn {b' : Nat} {l' : List Int} (hX : FL X) (hA0 : ∀ k ∈ A, k < N ∧ ((k < L.dR ∧ k < L.dG) ∨ X.s < k)) (h1 : DS w0 w' L X f) (hK : KA A w w') (hN : X.s < N) (hNw : N ≤ w'.heap.size) (hS0 : ∀ k, S k → (k = X.q ∨ X.s + 1 ≤ k) ∧ k < N ∧ k ∉ A) {w2 : World} (hb : b' ≤ B) (hv : V.VI w2 (X.s + 1) X.q 0 b' l' S') (hf : V.VFr X.q 0 w' w2 S S') :
    (DQ N w'.heap.size w2.heap.size w0 w2 L X B A f l' ∧ KA A w w2) ∧ UpT N w' w2 := by
  obtain ⟨D, hj, hd⟩ := h1
  have hq := hj.k.bel
  refine ⟨⟨⟨⟨D, hj.queue hX hf (fun k hk => (hS0 k hk).1), hd⟩, hN, b', S', hb, hv, fun k hk => ?_⟩, fun k hk => ?_⟩, hf.size, fun k h1 h2 => (hf.block k h2 (fun hs => by have := hS0 k hs; omega)).1⟩
  · by_cases hlt : k < w'.heap.size
    · have : S k := by
        by_cases hs : S k
        · exact hs
        · exact absurd hk (hf.block k hlt hs).2
      exact ⟨.inl (hS0 k this).2.1, hv.hi k hk, (hS0 k this).2.2⟩
    · refine ⟨.inr (by omega), hv.hi k hk, fun hm => ?_⟩
      have := (hA0 k hm).1
      omega
  · exact (hf.block k (by have := (hA0 k hk).1; omega) (fun hs => (hS0 k hs).2.2 hk)).1.trans (hK k hk)
theorem DQ.drop (hX : FL X) (hA0 : ∀ k ∈ A, k < N ∧ ((k < L.dR ∧ k < L.dG) ∨ X.s < k)) (h : DQ N N N w0 w' L X B A f l) (hK : KA A w w') (hNw : N ≤ w'.heap.size) (hl : l.length ≤ 1000) : Calls Tryz.prog 31 #[.pointer (some ⟨X.q, 0, none⟩), .int .i64 0] w' fun e w2 => (∃ rv, e = .returned rv) ∧ (DQ N w'.heap.size w2.heap.size w0 w2 L X B A f (V.offI l 0) ∧ KA A w w2) ∧ UpT N w' w2 := by
  obtain ⟨h1, hN, b, S, h2, h3, h4⟩ := h
  refine (V.vdrop_is 0 (V.wfI.mk (by decide) (by decide)) hl w' h3).mono ?_
  rintro e w2 ⟨t, S', rfl, hv, hf⟩
  exact ⟨⟨_, rfl⟩, DQ.turn hX hA0 h1 hK hN hNw (fun k hk => ⟨h3.lo k hk, (h4 k hk).2⟩) h2 hv hf⟩
theorem DQ.qput (hX : FL X) (hA0 : ∀ k ∈ A, k < N ∧ ((k < L.dR ∧ k < L.dG) ∨ X.s < k)) (h : DQ N N N w0 w' L X B A f []) (hK : KA A w w') (hNw : N ≤ w'.heap.size) (hB : B ≤ 1000) : Calls Tryz.prog 63 #[.pointer (some ⟨X.q, 0, none⟩), .slice (some ⟨w'.heap.size, 0, none⟩) 1 1] (w'.alloc (.cells #[.int .i64 0] 3)) fun e w2 => (∃ rv, e = .returned rv) ∧ (DQ N w'.heap.size w2.heap.size w0 w2 L X (B + 1) A f [0] ∧ KA A w w2) ∧ UpT N w' w2 := by
  have hb : Below w'.heap.size w' (w'.alloc (.cells #[.int .i64 0] 3)) := (Below.refl _ _).alloc (Nat.le_refl _) _
  have hz : (w'.alloc (.cells #[.int .i64 0] 3)).heap.size = w'.heap.size + 1 := by simp
  obtain ⟨h1, hN, b, S, h2, h3, h4⟩ := h
  obtain ⟨D, hj, hd⟩ := h1
  have hK2 : KA A w (w'.alloc (.cells #[.int .i64 0] 3)) := fun k hk => (hb.block k (by have := (hA0 k hk).1; omega)).trans (hK k hk)
  refine (V.qput_is (some ⟨w'.heap.size, 0, none⟩) 1 1 [0] (Lib.hid rfl) (by decide) (by simp) (by omega) 1 (Lib.hid (by decide)) _ (h3.below hb) ⟨by simp [V.wfI.mk], fun _ => ⟨_, rfl, by simp, fun hs => by have := (h4 _ hs).2.1; simp at this; omega, fun i hi => by
    have : i = 0 := by simp at hi; omega
    subst this; simp [Addr.add]⟩⟩ (by rw [hz]; omega)).mono ?_
  rintro e w2 ⟨S', rfl, hv, hf⟩
  have ht := DQ.turn hX (N := N) (A := A) (B := B + 1) (f := f) (w := w) (w' := w'.alloc (.cells #[.int .i64 0] 3)) hA0 ⟨D, hj.low hX (hb.mono hNw) hN, hd⟩ hK2 hN (by rw [hz]; omega) (fun k hk => ⟨h3.lo k hk, (h4 k hk).2⟩) (show b + 1 ≤ B + 1 by omega) hv hf
  exact ⟨⟨_, rfl⟩, ⟨ht.1.1.mono (by rw [hz]; omega) (Nat.le_refl _), ht.1.2⟩, (UpT.below hb).trans ht.2⟩
end
end Go.Proofs.YtllcakiomihipaaGreatDoor
namespace Go.Proofs.YtllcakiomihipaaGreatDoor
open Go.ChangeShapes Go.WideShapes Go.ChangeAt Go.RowKit
set_option linter.unusedVariables false
set_option linter.unusedSimpArgs false
section
variable {cs nt : List Value} {s d N N2 : Nat} {k0 k1 k2 k3 k4 o x : Int} {Q : World → Prop}
end
section
variable {cs nt : List Value} {s d q N : Nat} {k0 k1 k2 k3 k4 o x : Int} {Q Q1 : Nat → Nat → World → Prop}
end
section
variable {cs nt : List Value} {s d N : Nat} {k0 k1 k2 k3 k4 o x : Int} {Q : Nat → Nat → World → Prop}
end
end Go.Proofs.YtllcakiomihipaaGreatDoor
namespace Go.Proofs.YtllcakiomihipaaGreatDoor
open Go.ChangeShapes Go.WideShapes Go.ChangeAt Go.RowKit
set_option linter.unusedVariables false
set_option linter.unusedSimpArgs false
section
variable {s m d t b f q : Nat} {st : Int}
set_option maxRecDepth 100000 in
set_option maxHeartbeats 4000000 in
theorem swaits_ver (k1 k2 k3 k4 : Int) (dp : Nat) (F : Nat → Value) (hF : Hid (∀ j, j < 107 → (F j).oneCell' = true)) (sv v : Int) (hs9 : Hid (F 9 = .int .i64 sv)) (hne : (v == k2) = false) (h40 : 0 ≤ k4) (h41 : k4 ≤ 536870911) (w : World) (hB : SyB w s m d t b f q st) (hP : w.cell? ⟨d, 0, none⟩ = some (.pointer (some ⟨dp, 0, none⟩)))
    (hG : ∀ W, Below w.heap.size w W → Calls Tryz.prog 10 #[.pointer (some ⟨d, 0, none⟩), .int .i64 k1] W fun e w' => e = .returned (.tuple #[.agg (rowL F).toArray, .bool true]) ∧ Below W.heap.size W w')
    (hV : ∀ W, Below w.heap.size w W → Calls Tryz.prog 68 #[.pointer (some ⟨dp, 0, none⟩), .int .i64 k1] W fun e w' => e = .returned (.int .i64 v) ∧ W = w') :
    Calls Tryz.prog 45 #[.pointer (some ⟨s, 0, none⟩), .agg #[.int .i64 6, .int .i64 k1, .int .i64 k2, .int .i64 k3, .int .u32 k4]] w fun e w' => e = .returned (.bool false) ∧ Below w.heap.size w w' := by
  have HG := Lib.hid hG
  have HV := Lib.hid hV
  have HB := Lib.hid hB
  have HP := Lib.hid hP
  have HdL : Hid (d < w.heap.size) := Lib.hid (cell_lt hP)
  clear hG hB hP
  go_enter Tryz.func45, Tryz.ntmps45
  go_upto_region 1 with fail
  generalize hA : World.alloc w _ = wA
  obtain ⟨K, hK⟩ : ∃ K, K = w.heap.size := ⟨_, rfl⟩
  have HBa : Hid (Below w.heap.size w wA) := Lib.hid (by rw [← hA]; exact (Below.refl _ _).alloc (Nat.le_refl _) _)
  have HK0 : Hid (KeyC wA K 6 k1 k2 k3 k4) := Lib.hid (by rw [← hA, hK]; exact KeyC.new w 6 k1 k2 k3 k4 _)
  rw [← hK]
  clear hA hK
  go_cut [5, 6] (fun u o wx => ∃ bx : Nat, u = .pointer (some ⟨bx, 0, none⟩) ∧ o = .bool true ∧ Below w.heap.size w wx ∧ KeyC wx K 6 k1 k2 k3 k4 ∧ wx.rangeAt bx 0 (rowL F))
  case first =>
    have sc := ((HB.out.below HBa.out).c1)
    have kc1 := HK0.out.c1
    have HBd : Hid (Below wA.heap.size wA wA.drew) := Lib.hid (Below.refl _ _).drew
    have HBo : Hid (∀ o, Below wA.heap.size wA (wA.alloc o).drew) := Lib.hid (fun o => ((Below.refl _ _).alloc (Nat.le_refl _) o).drew)
    have scA : ∀ o, (wA.alloc o).cell? ⟨s, 1, none⟩ = some (.pointer (some ⟨d, 0, none⟩)) := fun o => ((HB.out.below HBa.out).below ((Below.refl wA.heap.size wA).alloc (Nat.le_refl _) o)).c1
    have kcA : ∀ o, (wA.alloc o).cell? ⟨K, 1, none⟩ = some (.int .i64 k1) := fun o => (HK0.out.below ((Below.refl wA.heap.size wA).alloc (Nat.le_refl _) o)).c1
    go_region_with (first | (go_at_call 10; (with_reducible refine (HG.out _ (HBa.out.trans (HBd.out.mono HBa.out.size))).mono ?_); rintro e w2 ⟨rfl, hb⟩; have HBB := Lib.hid hb; have hsN := row_new w2 F hF.out; clear hb) | (go_at_call 10; (with_reducible refine (HG.out _ (HBa.out.trans ((HBo.out _).mono HBa.out.size))).mono ?_); rintro e w2 ⟨rfl, hb⟩; have HBA := Lib.hid hb; have HTh := Lib.hid (there_below (there_drew (dthere_new wA Tryz.zeroCells34 107 zsize 34)) hb (by simp)); have hsN := row_put w2 wA.heap.size F HTh.out hF.out; clear hb))
    all_goals (go_wp2_with fail; go_meet; clear sc kc1 scA kcA)
    all_goals (first
      | (have hz : wA.heap.size ≤ w2.heap.size := HBB.out.size; have hb := dbelow_cells ((HBd.out.trans (HBB.out.mono (by simp))).alloc hz (.cells Tryz.zeroCells34 34 (0, 0))) hz (rowL F) 0; exact ⟨_, rfl, rfl, HBa.out.trans (hb.mono HBa.out.size), HK0.out.below hb, World.rangeAt_setCells_same _ _ 0 (rowL F) (by rw [rowL_len]; exact dthere_new _ _ 107 zsize _)⟩)
      | (have hb := dbelow_cells ((HBo.out _).trans (HBA.out.mono (by simp))) (Nat.le_refl _) (rowL F) 0; exact ⟨_, rfl, rfl, HBa.out.trans (hb.mono HBa.out.size), HK0.out.below hb, World.rangeAt_setCells_same _ _ 0 (rowL F) (by rw [rowL_len]; exact HTh.out)⟩))
  case rest =>
    obtain ⟨bx, rfl, rfl, hb, ky, hr⟩ := hcut
    have HC := Lib.hid hb
    have c9 := (range_at hr 9 (by decide)).trans (congrArg some hs9.out)
    have q1 := ky.c1
    have q2 := ky.c2
    have q4 := ky.c4
    have sc := (HB.out.below hb).c1
    have pc := (hb.cell (p := ⟨d, 0, none⟩) HdL.out).trans HP.out
    have HV9 := Lib.hid (fun n => HV.out _ (below_drewN hb n))
    have hk4 : IntKind.i64.wrap k4 = k4 := by rw [IntKind.wrap_i64]; omega
    clear hb ky hr
    go_wp2_with fail
    go_quiet ((go_at_call 68; exact kquiet_left (HV9.out _)))
    go_wp2_with fail
    go_ret
    exact ⟨rfl, below_drewN HC.out _⟩
end
/-- A domain's row, of any state but waiting. -/
structure RF (f : Nat → Value) (st : Int) : Prop where
  one : ∀ j, j < 107 → (f j).oneCell' = true
  s9 : f 9 = .int .i64 st
  n2 : (st == 2) = false
section
variable {w0 w W : World} {L : BLoc} {X : SLoc} {f : Nat → Value}
end
section
variable {w0 w : World} {L : BLoc} {X : SLoc} {f f' : Nat → Value} {l l' : List Int} {B B' : Nat} {A : List Nat} {nt : List Value}
theorem DQ.errs {N M T : Nat} {W : World} (h : DQ N M T w0 W L X B A f l) (vs vr : Value) (hE : ErrsAt vs vr w0) : ErrsAt vs vr W := by
  obtain ⟨⟨D, h1, _⟩, _⟩ := h
  exact hE.below h1.k.bel
theorem DQ.c1 {N M T : Nat} {W : World} (h : DQ N M T w0 W L X B A f l) : W.cell? ⟨X.s, 1, none⟩ = some (.pointer (some ⟨L.dP, 0, none⟩)) := by
  obtain ⟨⟨D, h1, _⟩, _⟩ := h
  exact h1.b.c1
theorem DQ.c5 {N M T : Nat} {W : World} (h : DQ N M T w0 W L X B A f l) : W.cell? ⟨X.s, 5, none⟩ = some (.pointer (some ⟨X.q, 0, none⟩)) := by
  obtain ⟨⟨D, h1, _⟩, _⟩ := h
  exact h1.b.c5
theorem DA.at (h : DA w0 w L X B A f l) (hX : FL X) (hA : ∀ k ∈ A, k < w.heap.size) {V : World} (hV : Below w.heap.size w V) : DQ w.heap.size w.heap.size w.heap.size w0 V L X B A f l ∧ KA A w V := ⟨h.start hX hV, fun k hk => hV.block k (hA k hk)⟩
def nX3 : List Value := [.int .u32 3, .int .u32 0, .int .u32 0, .int .u32 0, .int .i64 0, .int .i64 0, .int .i64 0, .int .i64 0, .int .u32 0, .int .i64 0, .int .i64 0, .int .i64 0, .int .i64 0, .int .u32 0, .int .i64 0, .int .i64 0, .int .i64 0, .int .i64 0, .int .u32 0]
end
end Go.Proofs.YtllcakiomihipaaGreatDoor
namespace Go.Proofs.YtllcakiomihipaaGreatDoor
open Go.ChangeShapes Go.WideShapes Go.ChangeAt Go.RowKit
set_option linter.unusedVariables false
set_option linter.unusedSimpArgs false
section
variable {w0 w w' W : World} {L : BLoc} {X : SLoc} {nd B : Nat} {A : List Nat} {F : Nat → Nat → Value} {l : List Int}
/-- Each domain's row is one of words and numbers. -/
def RowsF (nd : Nat) (F : Nat → Nat → Value) : Prop := ∀ i, i < nd → (∀ j, j < 107 → (F i j).oneCell' = true) ∧ ∃ st wt : Int, F i 9 = .int .i64 st ∧ F i 106 = .int .i64 wt
theorem live_g (hFs : RowsF nd F) (k0 k1 k2 k3 k4 : Int) (hk : codeOf k0 k1 k2 k3 k4 = 0) (g4 : 0 ≤ k4) : ∃ r : Bool, ∀ (W : World) (B : Nat) (A : List Nat) (l : List Int), GS w0 W L X nd B A F l → Calls Tryz.prog 23 #[.pointer (some ⟨X.s, 0, none⟩), (Value.agg #[.int .i64 k0, .int .i64 k1, .int .i64 k2, .int .i64 k3, .int .u32 k4])] W fun e w' => e = .returned (.bool r) ∧ Below W.heap.size W w' := by
  have h14 : ¬ (k0 < 0 ∨ 14 < k0) := fun hn => by
    rw [codeOf_102 _ _ _ _ _ hn] at hk
    exact absurd hk (by decide)
  have hin : InB k0 k1 k2 k3 k4 := by
    by_cases hi : InB k0 k1 k2 k3 k4
    · exact hi
    · rw [codeOf_103 _ _ _ _ _ h14 hi] at hk
      exact absurd hk (by decide)
  by_cases hp : k0 = 0 ∨ k0 = 1 ∨ k0 = 11 ∨ k0 = 12 ∨ k0 = 13 ∨ k0 = 14
  · exact ⟨true, fun W B A l hg => slive_plain X.s k0 k1 k2 k3 k4 hp W⟩
  by_cases hm : k0 = 2 ∨ k0 = 3
  · refine ⟨false, fun W B A l hg => ?_⟩
    obtain ⟨D, h, hd⟩ := hg.sj
    refine slive_mem X.s L.mb k0 k1 k2 k3 k4 hm false (Lib.hid ?_) W h.b.c0 h.k.mm.m0 h.k.mm.sv.st
    rw [hd.nt, hd.pt]
    rcases hm with rfl | rfl <;> simp [liveB, thereB]
  obtain rfl | rfl | rfl | rfl | rfl | rfl | rfl : k0 = 4 ∨ k0 = 5 ∨ k0 = 6 ∨ k0 = 7 ∨ k0 = 8 ∨ k0 = 9 ∨ k0 = 10 := by omega
  · refine ⟨(thereB L.dn (thN nd) k1 && ((0 : Int) == k2)), fun W B A l hg => ?_⟩
    obtain ⟨D, h, hd⟩ := hg.sj
    exact slive_dom k1 k2 k3 k4 L.dp L.dR L.dn L.dc L.dB D.dt D.dv _ (Lib.hid (by rw [hd.dt, hd.dv])) W h.b h.k.d.pl.f0 h.k.d.pl.ar
  · refine ⟨(thereB L.dn (thN nd) k1 && ((0 : Int) == k2)), fun W B A l hg => ?_⟩
    obtain ⟨D, h, hd⟩ := hg.sj
    exact slive_start k1 k2 k3 k4 L.dp L.dR L.dn L.dc L.dB D.dt D.dv _ (Lib.hid (by rw [hd.dt, hd.dv])) W h.b h.k.d.pl.f0 h.k.d.pl.ar
  · have hb := hin
    unfold InB at hb
    have h41 : k4 ≤ 536870911 := hb.2.2.2.2.2.2
    obtain ⟨i, hi⟩ : ∃ i : Nat, k1 = (i : Int) := ⟨k1.toNat, by omega⟩
    by_cases hin2 : i < nd
    · obtain ⟨h1, st, wt, h9, h106⟩ := hFs i hin2
      have hG : ∀ (W : World) (B : Nat) (A : List Nat) (l : List Int), GS w0 W L X nd B A F l → ∀ U, Below W.heap.size W U → Calls Tryz.prog 10 #[.pointer (some ⟨L.dP, 0, none⟩), .int .i64 k1] U fun e w' => e = .returned (.tuple #[.agg (rowL (F i)).toArray, .bool true]) ∧ Below U.heap.size U w' := fun W B A l hg U hU => (hg.below hU).get k1 i (Lib.hid hi) hin2 (Lib.hid h1)
      have hVr : ∀ (W : World) (B : Nat) (A : List Nat) (l : List Int), GS w0 W L X nd B A F l → ∀ U, Below W.heap.size W U → Calls Tryz.prog 68 #[.pointer (some ⟨L.dp, 0, none⟩), .int .i64 k1] U fun e w' => e = .returned (.int .i64 0) ∧ U = w' := fun W B A l hg U hU => by
        obtain ⟨D, h, hd⟩ := (hg.below hU).sj
        have hn := hg.nn
        rw [hi]
        exact aver_in i (by omega) 0 (Lib.hid (by rw [hd.dv])) U h.k.d.pl.ar
      have hB : ∀ (W : World) (B : Nat) (A : List Nat) (l : List Int), GS w0 W L X nd B A F l → SyB W X.s L.mb L.dP X.tP L.P X.fP X.q 0 ∧ W.cell? ⟨L.dP, 0, none⟩ = some (.pointer (some ⟨L.dp, 0, none⟩)) := fun W B A l hg => by
        obtain ⟨D, h, hd⟩ := hg.sj
        exact ⟨h.b, h.k.d.pl.f0⟩
      by_cases h2 : k2 = 0
      · subst h2
        by_cases hs : st = 2
        · subst hs
          by_cases hw : wt = k4
          · subst hw
            exact ⟨true, fun W B A l hg => slive_resume k1 0 k3 wt true W (fun V hV => swaits_yes k1 0 k3 wt L.dp (F i) (Lib.hid h1) (Lib.hid h9) (Lib.hid h106) g4 h41 V (hB V B A l (hg.below hV)).1 (hB V B A l (hg.below hV)).2 (hG V B A l (hg.below hV)) (hVr V B A l (hg.below hV)))⟩
          · exact ⟨false, fun W B A l hg => slive_resume k1 0 k3 k4 false W (fun V hV => swaits_other k1 0 k3 k4 L.dp (F i) (Lib.hid h1) (Lib.hid h9) wt (Lib.hid h106) (by simpa using hw) g4 h41 V (hB V B A l (hg.below hV)).1 (hB V B A l (hg.below hV)).2 (hG V B A l (hg.below hV)) (hVr V B A l (hg.below hV)))⟩
        · exact ⟨false, fun W B A l hg => slive_resume k1 0 k3 k4 false W (fun V hV => swaits_state k1 0 k3 k4 L.dp (F i) (Lib.hid h1) st (Lib.hid h9) (by simpa using hs) g4 h41 V (hB V B A l (hg.below hV)).1 (hB V B A l (hg.below hV)).2 (hG V B A l (hg.below hV)) (hVr V B A l (hg.below hV)))⟩
      · exact ⟨false, fun W B A l hg => slive_resume k1 k2 k3 k4 false W (fun V hV => swaits_ver k1 k2 k3 k4 L.dp (F i) (Lib.hid h1) st 0 (Lib.hid h9) (by simp; omega) g4 h41 V (hB V B A l (hg.below hV)).1 (hB V B A l (hg.below hV)).2 (hG V B A l (hg.below hV)) (hVr V B A l (hg.below hV)))⟩
    · refine ⟨false, fun W B A l hg => slive_resume k1 k2 k3 k4 false W (fun V hV => ?_)⟩
      obtain ⟨D, h, hd⟩ := (hg.below hV).sj
      exact swaits_dead k1 k2 k3 k4 L.dp zd (Lib.hid (fun j _ => zd_one j)) g4 h41 V h.b h.k.d.pl.f0 (fun U hU => dget_dead k1 i (Lib.hid hi) (Lib.hid (by rw [hd.dt]; exact decide_eq_false (by omega))) U (h.below hU).k.d)
  · refine ⟨false, fun W B A l hg => ?_⟩
    obtain ⟨D, h, hd⟩ := hg.sj
    exact slive_meter k1 k2 k3 k4 X.tp X.tR X.tn X.tn X.tB (fun _ => false) (fun _ => 0) false (Lib.hid (by simp [thereB])) W h.b h.t.f0 h.t.ar
  · refine ⟨(thereB L.n (thN 1) k1 && ((0 : Int) == k2)), fun W B A l hg => ?_⟩
    obtain ⟨D, h, hd⟩ := hg.sj
    exact slive_bank k1 k2 k3 k4 L.p L.B L.n L.c L.bB (thN D.nb) (fun _ => 0) _ (Lib.hid (by rw [hd.nb])) W h.b h.k.kk.f0 h.k.kk.ar
  · refine ⟨false, fun W B A l hg => ?_⟩
    obtain ⟨D, h, hd⟩ := hg.sj
    exact slive_maker_no k1 k2 k3 k4 X.fp X.fR X.fn X.fn X.fB (fun _ => false) (fun _ => 0) (Lib.hid (by simp [thereB])) W h.b h.f.f0 h.f.ar
  · refine ⟨false, fun W B A l hg => ?_⟩
    obtain ⟨D, h, hd⟩ := hg.sj
    exact slive_builder_no k1 k2 k3 k4 X.fp X.fR X.fn X.fn X.fB (fun _ => false) (fun _ => 0) (Lib.hid (by simp [thereB])) W h.b h.f.f0 h.f.ar
/-- What a right key is seen as, and that again as itself, while no domain's row changes. -/
theorem seen_g (hFs : RowsF nd F) (vs vr : Value) (hE : ErrsAt vs vr w0) (k0 k1 k2 k3 k4 : Int) (hk : codeOf k0 k1 k2 k3 k4 = 0) (g4 : 0 ≤ k4) : ∃ x0 x1 x2 x3 x4 : Int, rightB x0 x1 x2 x3 x4 = true ∧
    (∀ (W : World) (B : Nat) (A : List Nat) (l : List Int), GS w0 W L X nd B A F l → Calls Tryz.prog 21 #[.pointer (some ⟨X.s, 0, none⟩), (Value.agg #[.int .i64 k0, .int .i64 k1, .int .i64 k2, .int .i64 k3, .int .u32 k4])] W fun e w' => e = .returned (Value.agg #[.int .i64 x0, .int .i64 x1, .int .i64 x2, .int .i64 x3, .int .u32 x4]) ∧ Below W.heap.size W w') ∧
    (∀ (W : World) (B : Nat) (A : List Nat) (l : List Int), GS w0 W L X nd B A F l → Calls Tryz.prog 21 #[.pointer (some ⟨X.s, 0, none⟩), (Value.agg #[.int .i64 x0, .int .i64 x1, .int .i64 x2, .int .i64 x3, .int .u32 x4])] W fun e w' => e = .returned (Value.agg #[.int .i64 x0, .int .i64 x1, .int .i64 x2, .int .i64 x3, .int .u32 x4]) ∧ Below W.heap.size W w') := by
  obtain ⟨r, hr⟩ := live_g (w0 := w0) (L := L) (X := X) hFs k0 k1 k2 k3 k4 hk g4
  have hR := Lib.hid (right_of_code hk)
  cases r
  · exact ⟨0, 0, 0, 0, 0, by decide, fun W B A l hg => oseen_dead k0 k1 k2 k3 k4 W (fun V hV => nvalid_ok k0 k1 k2 k3 k4 hR vs vr V ((hg.errs hE).below hV)) (fun V hV => hr V B A l (hg.below hV)), fun W B A l hg => oseen_void X.s vs vr W (hg.errs hE)⟩
  · have hs : ∀ (W : World) (B : Nat) (A : List Nat) (l : List Int), GS w0 W L X nd B A F l → Calls Tryz.prog 21 #[.pointer (some ⟨X.s, 0, none⟩), (Value.agg #[.int .i64 k0, .int .i64 k1, .int .i64 k2, .int .i64 k3, .int .u32 k4])] W fun e w' => e = .returned (Value.agg #[.int .i64 k0, .int .i64 k1, .int .i64 k2, .int .i64 k3, .int .u32 k4]) ∧ Below W.heap.size W w' := fun W B A l hg => oseen_live k0 k1 k2 k3 k4 W (fun V hV => nvalid_ok k0 k1 k2 k3 k4 hR vs vr V ((hg.errs hE).below hV)) (fun V hV => hr V B A l (hg.below hV))
    exact ⟨k0, k1, k2, k3, k4, right_of_code hk, hs, hs⟩
end
end Go.Proofs.YtllcakiomihipaaGreatDoor
namespace Go.Proofs.YtllcakiomihipaaGreatDoor
open Go.ChangeShapes Go.WideShapes Go.ChangeAt Go.RowKit
set_option linter.unusedVariables false
set_option linter.unusedSimpArgs false
section
variable {w0 w w' W : World} {L : BLoc} {X : SLoc} {nd B : Nat} {A : List Nat} {F : Nat → Nat → Value} {l : List Int}
theorem GS.live_yes (h : GS w0 w L X nd B A F l) (x : Int) (i : Nat) (hx : Hid (x = (i : Int))) (hi : i < nd) (hf : Hid (∀ j, j < 107 → (F i j).oneCell' = true)) (wt : Int) (hF : F i 9 = .int .i64 2 ∧ F i 106 = .int .i64 wt) (u1 : 0 ≤ wt) (u2 : wt ≤ 536870911) : Calls Tryz.prog 23 #[.pointer (some ⟨X.s, 0, none⟩), (Value.agg #[.int .i64 6, .int .i64 x, .int .i64 0, .int .i64 0, .int .u32 wt])] w fun e w' => e = .returned (.bool true) ∧ Below w.heap.size w w' := by
  refine slive_resume x 0 0 wt true w (fun U hU => ?_)
  have hg := h.below hU
  obtain ⟨D, h1, h2⟩ := hg.sj
  refine swaits_yes x 0 0 wt L.dp (F i) hf (Lib.hid hF.1) (Lib.hid hF.2) u1 u2 U h1.b h1.k.d.pl.f0 (fun V2 hV2 => (hg.below hV2).get x i hx hi hf) (fun V2 hV2 => ?_)
  obtain ⟨D2, h3, h4⟩ := (hg.below hV2).sj
  have hn := hg.nn
  rw [hx.out]
  exact aver_in i (by omega) 0 (Lib.hid (by rw [h4.dv])) V2 h3.k.d.pl.ar
theorem GS.live_no (h : GS w0 w L X nd B A F l) (x : Int) (i : Nat) (hx : Hid (x = (i : Int))) (hi : i < nd) (hf : Hid (∀ j, j < 107 → (F i j).oneCell' = true)) (wt : Int) (st : Int) (hF : F i 9 = .int .i64 st) (hne : (st == 2) = false) (u1 : 0 ≤ wt) (u2 : wt ≤ 536870911) : Calls Tryz.prog 23 #[.pointer (some ⟨X.s, 0, none⟩), (Value.agg #[.int .i64 6, .int .i64 x, .int .i64 0, .int .i64 0, .int .u32 wt])] w fun e w' => e = .returned (.bool false) ∧ Below w.heap.size w w' := by
  refine slive_resume x 0 0 wt false w (fun U hU => ?_)
  have hg := h.below hU
  obtain ⟨D, h1, h2⟩ := hg.sj
  refine swaits_state x 0 0 wt L.dp (F i) hf st (Lib.hid hF) hne u1 u2 U h1.b h1.k.d.pl.f0 (fun V2 hV2 => (hg.below hV2).get x i hx hi hf) (fun V2 hV2 => ?_)
  obtain ⟨D2, h3, h4⟩ := (hg.below hV2).sj
  have hn := hg.nn
  rw [hx.out]
  exact aver_in i (by omega) 0 (Lib.hid (by rw [h4.dv])) V2 h3.k.d.pl.ar
theorem GS.seen_over (h : GS w0 w L X nd B A F l) (x : Int) (i : Nat) (hx : Hid (x = (i : Int))) (hi : i < nd) (hf : Hid (∀ j, j < 107 → (F i j).oneCell' = true)) (wt : Int) (st : Int) (hF : F i 9 = .int .i64 st) (hne : (st == 2) = false) (u1 : 0 ≤ wt) (u2 : wt ≤ 536870911) (hr : rightB 6 x 0 0 wt = true) (vs vr : Value) (hE : ErrsAt vs vr w0) : Calls Tryz.prog 21 #[.pointer (some ⟨X.s, 0, none⟩), (Value.agg #[.int .i64 6, .int .i64 x, .int .i64 0, .int .i64 0, .int .u32 wt])] w fun e w' => e = .returned (Value.agg #[.int .i64 0, .int .i64 0, .int .i64 0, .int .i64 0, .int .u32 0]) ∧ Below w.heap.size w w' :=
  oseen_dead 6 x 0 0 wt w (fun V hV => nvalid_ok 6 x 0 0 wt (Lib.hid hr) vs vr V ((h.errs hE).below hV)) (fun V hV => (h.below hV).live_no x i hx hi hf wt st hF hne u1 u2)
/-- A fork by a key that is none any more. -/
theorem gi_over (h : GS w0 w L X nd B A F l) (x : Int) (j : Nat) (hx : Hid (x = (j : Int))) (hj : j < nd) (rj : Nat → Int) (pj fj : Int) (kj : Nat → Nat → Int) (wj : Int) (hFj : Hid (F j = RW rj pj 3 fj kj wj)) (hRj : Hid (∀ q, q < 19 → KRight kj q)) (v1' : 0 ≤ fj) (v2' : fj ≤ 6) (v3' : 0 ≤ wj) (v4' : wj ≤ 536870911)
    (vs vr : Value) (hE : ErrsAt vs vr w0) (hxq : V.wfI x) (hl : l.length ≤ 1000) (hB : B ≤ 1000) (k0 k1 k2 k3 k4 : Int) (hk : ∀ (W : World) (B : Nat) (A : List Nat) (l : List Int), GS w0 W L X nd B A F l → Calls Tryz.prog 21 #[.pointer (some ⟨X.s, 0, none⟩), (Value.agg #[.int .i64 k0, .int .i64 k1, .int .i64 k2, .int .i64 k3, .int .u32 k4])] W fun e w' => e = .returned (Value.agg #[.int .i64 0, .int .i64 0, .int .i64 0, .int .i64 0, .int .u32 0]) ∧ Below W.heap.size W w') (o a b c : Int) (m0 m1 m2 m3 m4 : Int) (n0 n1 n2 n3 n4 : Int) (p0 p1 p2 p3 p4 : Int) (u0 u1 u2 u3 u4 : Int) (v0 v1 v2 v3 v4 : Int) (z0 z1 z2 z3 z4 : Int)
    (sm : (∀ (W : World) (B : Nat) (A : List Nat) (l : List Int), GS w0 W L X nd B A F l → Calls Tryz.prog 21 #[.pointer (some ⟨X.s, 0, none⟩), (Value.agg #[.int .i64 m0, .int .i64 m1, .int .i64 m2, .int .i64 m3, .int .u32 m4])] W fun e w' => e = .returned (Value.agg #[.int .i64 u0, .int .i64 u1, .int .i64 u2, .int .i64 u3, .int .u32 u4]) ∧ Below W.heap.size W w')) (sn : (∀ (W : World) (B : Nat) (A : List Nat) (l : List Int), GS w0 W L X nd B A F l → Calls Tryz.prog 21 #[.pointer (some ⟨X.s, 0, none⟩), (Value.agg #[.int .i64 n0, .int .i64 n1, .int .i64 n2, .int .i64 n3, .int .u32 n4])] W fun e w' => e = .returned (Value.agg #[.int .i64 v0, .int .i64 v1, .int .i64 v2, .int .i64 v3, .int .u32 v4]) ∧ Below W.heap.size W w')) (sp : (∀ (W : World) (B : Nat) (A : List Nat) (l : List Int), GS w0 W L X nd B A F l → Calls Tryz.prog 21 #[.pointer (some ⟨X.s, 0, none⟩), (Value.agg #[.int .i64 p0, .int .i64 p1, .int .i64 p2, .int .i64 p3, .int .u32 p4])] W fun e w' => e = .returned (Value.agg #[.int .i64 z0, .int .i64 z1, .int .i64 z2, .int .i64 z3, .int .u32 z4]) ∧ Below W.heap.size W w')) (su : (∀ (W : World) (B : Nat) (A : List Nat) (l : List Int), GS w0 W L X nd B A F l → Calls Tryz.prog 21 #[.pointer (some ⟨X.s, 0, none⟩), (Value.agg #[.int .i64 u0, .int .i64 u1, .int .i64 u2, .int .i64 u3, .int .u32 u4])] W fun e w' => e = .returned (Value.agg #[.int .i64 u0, .int .i64 u1, .int .i64 u2, .int .i64 u3, .int .u32 u4]) ∧ Below W.heap.size W w')) (sv : (∀ (W : World) (B : Nat) (A : List Nat) (l : List Int), GS w0 W L X nd B A F l → Calls Tryz.prog 21 #[.pointer (some ⟨X.s, 0, none⟩), (Value.agg #[.int .i64 v0, .int .i64 v1, .int .i64 v2, .int .i64 v3, .int .u32 v4])] W fun e w' => e = .returned (Value.agg #[.int .i64 v0, .int .i64 v1, .int .i64 v2, .int .i64 v3, .int .u32 v4]) ∧ Below W.heap.size W w')) (sz : (∀ (W : World) (B : Nat) (A : List Nat) (l : List Int), GS w0 W L X nd B A F l → Calls Tryz.prog 21 #[.pointer (some ⟨X.s, 0, none⟩), (Value.agg #[.int .i64 z0, .int .i64 z1, .int .i64 z2, .int .i64 z3, .int .u32 z4])] W fun e w' => e = .returned (Value.agg #[.int .i64 z0, .int .i64 z1, .int .i64 z2, .int .i64 z3, .int .u32 z4]) ∧ Below W.heap.size W w')) :
    Calls Tryz.prog 12 #[.pointer (some ⟨X.s, 0, none⟩), .int .i64 x, .int .i64 2, (Value.agg #[.int .i64 k0, .int .i64 k1, .int .i64 k2, .int .i64 k3, .int .u32 k4]), (Value.agg #[.int .u32 o, .int .u32 a, .int .u32 b, .int .u32 c, .int .i64 m0, .int .i64 m1, .int .i64 m2, .int .i64 m3, .int .u32 m4, .int .i64 n0, .int .i64 n1, .int .i64 n2, .int .i64 n3, .int .u32 n4, .int .i64 p0, .int .i64 p1, .int .i64 p2, .int .i64 p3, .int .u32 p4])] w fun e w' => e = .returned (.tuple #[.agg ([.int .i64 0, .int .i64 (-1), .int .u32 1, .int .u32 0, .int .u32 0, .int .u32 0, .int .i64 0, .int .i64 0, .int .i64 0, .int .i64 0, .int .u32 0, .int .i64 0, .int .i64 0, .int .i64 0, .int .i64 0, .int .u32 0, .int .i64 0, .int .i64 0, .int .i64 0, .int .i64 0, .int .u32 0] : List Value).toArray, .nilIface]) ∧ (∃ B' l', GS w0 w' L X nd B' A F l') ∧ GK A w w' := by
  have hlo : (V.offI l x).length ≤ 1000 := Nat.le_trans (off_len l x) hl
  refine (inv_go h x j hx hj rj pj fj kj wj hFj 2 (by decide) (by decide) hxq hl k0 k1 k2 k3 k4 m0 m1 m2 m3 m4 n0 n1 n2 n3 n4 p0 p1 p2 p3 p4 o a b c u0 u1 u2 u3 u4 (fun W hW => sm W _ _ _ hW) v0 v1 v2 v3 v4 (fun W hW => sn W _ _ _ hW) z0 z1 z2 z3 z4 (fun W hW => sp W _ _ _ hW) 0 0 0 0 0 (fun W hW => hk W _ _ _ hW) 1 0 0 0 0 0 0 0 0 0 0 0 0 0 0 0 0 0 0 (fun W hW => ?_) (fun B' F' l' => B' = B + 1 ∧ F' = F ∧ l' = V.putAll (V.offI l x) [x]) (fun A' W hW => ?_)).mono ?_
  · refine (oanswer (Q := fun w' => Below W.heap.size W w') (N := W.heap.size) (nwc_len 1 0 0 0) (nwc_one 1 0 0 0) X.s 0 0 0 0 0 0 0 0 0 0 o a b c u0 u1 u2 u3 u4 v0 v1 v2 v3 v4 z0 z1 z2 z3 z4 u0 u1 u2 u3 u4 v0 v1 v2 v3 v4 z0 z1 z2 z3 z4 (by decide) (by decide) W (Nat.le_refl _) (fun w1 w2 h1 h2 => h1.trans h2) (fun W2 hW2 => oseen_void X.s vs vr W2 ((hW.errs hE).below hW2)) (fun W2 hW2 => su W2 _ _ _ (hW.below hW2)) (fun W2 hW2 => sv W2 _ _ _ (hW.below hW2)) (fun W2 hW2 => sz W2 _ _ _ (hW.below hW2)) (fun V hV => (oanswer_void (Lib.hid (c25_call X.s 0 0 0 0 0 o a b c u0 u1 u2 u3 u4 v0 v1 v2 v3 v4 z0 z1 z2 z3 z4)) V).mono (fun e w' h9 => ⟨h9.1, hV.trans (h9.2.mono hV.size), UpT.below h9.2⟩))).mono (fun e w' h9 => ⟨h9.1, h9.2.1⟩)
  · refine (take_fork hW x j hx hj rj pj fj kj wj hFj hRj v1' v2' v3' v4' vs vr hE hxq hlo hB 0 0 0 0 0 0 0 0 0 0 0 0 0 0 0 1 0 0 0).mono ?_
    rintro e w9 ⟨h1, h3, h4⟩
    exact ⟨h1, ⟨_, _, _, ⟨rfl, rfl, rfl⟩, h3⟩, h4⟩
  · rintro e w9 ⟨rfl, ⟨B', F', l', ⟨rfl, rfl, rfl⟩, hg⟩, hgk⟩
    exact ⟨rfl, ⟨_, _, hg⟩, hgk⟩
end
end Go.Proofs.YtllcakiomihipaaGreatDoor
