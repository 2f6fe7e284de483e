/-
  Cr, Cg, Ch as one.
-/
import Derived.Test.YtedidopkemjgeaaDoorP11
import Derived.Test.YtedidopkemjgeaaDoorP10
import Derived.Test.YtedidopkemjgeaaDoorP12
namespace Go.Proofs.YtedidopkemjgeaaDoor
open Go.ChangeShapes Go.WideShapes Go.ChangeAt Go.RowKit
set_option linter.unusedVariables false
set_option linter.unusedSimpArgs false
theorem FindOut.more {E E' : List EW} {hits hits' k0 k1 k2 k3 k4 sh f : Int} {ids : List Int} (h : FindOut E E' false hits hits' k0 k1 k2 k3 k4 sh ids f) : E'.length ≤ E.length + 1 ∧ hits ≤ hits' ∧ hits' ≤ hits + 1 := by
  rcases h with ⟨e, _, _, rfl, rfl, _⟩ | ⟨_, rfl, ⟨_, d, _, _, rfl⟩ | ⟨_, rfl⟩⟩
  · omega
  · simp [stay]; omega
  · omega
/-- The three keys of this law, in their boxes. -/
structure Box3 (w : World) (cb : Nat) (v : Value) (bk br bp : Nat) : Prop where
  k : KeyC w bk 2 0 0 0 1
  r : KeyC w br 2 0 0 1 1
  p : KeyC w bp 3 0 0 0 0
  ok : OutC cb v bk
  or : OutC cb v br
  op : OutC cb v bp
theorem Box3.next {w w' : World} {cb : Nat} {v v' : Value} {bk br bp : Nat} (h : Box3 w cb v bk br bp) (hk : KeepB w w' cb v) (hv : v'.ownBlock = v.ownBlock ∨ ∃ g, w.heap.size ≤ g ∧ v'.ownBlock = some g) : Box3 w' cb v' bk br bp :=
  ⟨h.k.keepB hk h.ok, h.r.keepB hk h.or, h.p.keepB hk h.op, h.ok.next h.k.lt hv, h.or.next h.r.lt hv, h.op.next h.p.lt hv⟩
theorem Box3.below {w w' : World} {cb : Nat} {v : Value} {bk br bp : Nat} (h : Box3 w cb v bk br bp) (hb : Below w.heap.size w w') : Box3 w' cb v bk br bp :=
  ⟨h.k.below hb, h.r.below hb, h.p.below hb, h.ok, h.or, h.op⟩
theorem full8 {n : Nat} (h : n ≤ 7) : ((n : Int) == 8) = false := by simp; omega
set_option maxRecDepth 100000 in
set_option maxHeartbeats 8000000 in
theorem croots_walk (a0 : Int) (a1 : Bool) (hu0 : 0 ≤ a0) (hu1 : a0 ≤ 4294967295) (w : World) (vs vr : Value) (hE : ErrsAt vs vr w) :
    Calls Tryd.prog 6 #[.int .u32 a0, .bool a1] w fun e w' => e = .returned (.bool true) ∧ Below w.heap.size w w' := by
  have HE := Lib.hid hE
  obtain ⟨ad, had⟩ : ∃ ad : Nat, (ad : Int) = a0 % 32 := ⟨(a0 % 32).toNat, by omega⟩
  have hadl : ad < 32 := by omega
  have HAD := Lib.hid hadl
  have EAD : Hid (a0.tmod 32 = ad) := Lib.hid (by rw [Int.tmod_eq_emod_of_nonneg hu0]; exact had.symm)
  clear hE had hu0 hu1 hadl
  go_enter Tryd.func6, Tryd.ntmps6
  go_upto_region 6 with (first
    | (go_at_call 12; (with_reducible refine (cfirst_is vs vr _ HE.out).mono ?_); rintro e w1 ⟨rfl, hb1⟩; have HB1 := Lib.hid hb1; clear hb1)
    | (go_at_call 24; (with_reducible refine (snew_ok 1 2 1 2 (Lib.hid rfl) (Lib.hid rfl) (by decide) (by decide) (by decide) (by decide) _).mono ?_); rintro e w2 ⟨S, a, b, rfl, hs, hn, hb⟩; have HN := Lib.hid hn.out; have H2 : Hid (SV w w2 S a b _ _ _ _ _ _) := Lib.hid ⟨HB1.out.trans (hb.mono HB1.out.size), by have := hn.out.2.2; have := HB1.out.size; omega, hs⟩; clear hs hb hn)
    | (go_at_call 15; (with_reducible refine (cnew_ok 8 (by decide) (by decide) _).mono ?_); rintro e w3 ⟨cb, rfl, hc, hb⟩; have H3 := Lib.hid (CV.new H2.out hc hb); clear hc hb))
  obtain ⟨N, hN⟩ : ∃ N, w2.heap.size = N := ⟨_, rfl⟩
  rw [hN] at H3
  have HAB : Hid (0 < a.n ∧ 0 < b.n) := Lib.hid (by have := HN.out; omega)
  clear hN H2 HB1
  have s1 := H3.out.sv.st.s1
  go_upto_region 9 with (first
    | (go_at_call 26; (with_reducible refine (pmake_at 0 (some ⟨w3.heap.size, 0, none⟩) 1 1 [1] (Lib.hid rfl) (by decide) 0 (Lib.hid rfl) HAB.out.2 (Lib.hid (by decide)) (Lib.hid (by intro i hi; omega)) 0 (Lib.hid rfl) _ (H3.out.sv.st.pg.below ((Below.refl _ _).alloc (Nat.le_refl _) _)) (srcu1 w3 1 _ b.B b.G H3.out.sv.st.pg.ar.lt.2 (H3.out.sv.st.pg.row.lt b.G rfl).2)).mono ?_); rintro e w4 ⟨rfl, hP, hb⟩; have H4 := Lib.hid ((H3.out.below ((Below.refl _ _).alloc (Nat.le_refl _) _)).page hP hb ways_nil); clear hP hb s1))
  obtain ⟨W2, hW2⟩ : ∃ W2, W2 = fresh (fun _ _ => 0) 0 [1] := ⟨_, rfl⟩
  rw [← hW2] at H4
  have HTA : Hid ((upd (fun _ => false) 0 true) 0 = true) := Lib.hid rfl
  clear hW2 H3
  refine wp_region_noPanic ?_
  refine wp_region_held_drew (S := fun w' => World.cell? w' ⟨S, 0, none⟩ = some (.pointer (some ⟨a.P, 0, none⟩))) (by kernel_rfl) (H4.out.below (Below.refl w4.heap.size w4).drew).sv.st.s0 (fun hHeld => ?_)
  refine wpAnyH_take (i := 0) (v := ?_) (by rfl) (by kernel_rfl) (by kernel_rfl) (by kernel_rfl) (fun _ _ _ h => h) (Or.inl ⟨by kernel_rfl, ?_⟩) (by assumption) ?_; rotate_left 1; (focus (intro w hSw; (try dsimp only at hSw); simp only [List.getElem_toArray, List.getElem_cons_succ, List.getElem_cons_zero]; all_goals go_simp; all_goals (try with_reducible rfl))); (try simp only [Act.put, List.getElem_toArray, List.getElem_cons_succ, List.getElem_cons_zero, List.setIfInBounds_toArray, List.set_cons_zero, List.set_cons_succ])
  refine wpAnyH_take (i := 1) (v := ?_) (by rfl) (by kernel_rfl) (by kernel_rfl) (by kernel_rfl) (fun _ _ _ h => h) (Or.inl ⟨by kernel_rfl, ?_⟩) (by assumption) ?_; rotate_left 1; (focus (intro w hSw; (try dsimp only at hSw); simp only [List.getElem_toArray, List.getElem_cons_succ, List.getElem_cons_zero]; all_goals go_simp; all_goals (try with_reducible rfl))); (try simp only [Act.put, List.getElem_toArray, List.getElem_cons_succ, List.getElem_cons_zero, List.setIfInBounds_toArray, List.set_cons_zero, List.set_cons_succ])
  refine wpAnyH_take (i := 2) (v := ?_) (by rfl) (by kernel_rfl) (by kernel_rfl) (by kernel_rfl) (fun _ _ _ h => h) (Or.inl ⟨by kernel_rfl, ?_⟩) (by assumption) ?_; rotate_left 1; (focus (intro w hSw; (try dsimp only at hSw); simp only [List.getElem_toArray, List.getElem_cons_succ, List.getElem_cons_zero]; all_goals go_simp; all_goals (try with_reducible rfl))); (try simp only [Act.put, List.getElem_toArray, List.getElem_cons_succ, List.getElem_cons_zero, List.setIfInBounds_toArray, List.set_cons_zero, List.set_cons_succ])
  refine wpAnyH_take (i := 3) (v := ?_) (by rfl) (by kernel_rfl) (by kernel_rfl) (by kernel_rfl) (fun _ _ _ h => h) (Or.inl ⟨by kernel_rfl, ?_⟩) (by assumption) ?_; rotate_left 1; (focus (intro w hSw; (try dsimp only at hSw); simp only [List.getElem_toArray, List.getElem_cons_succ, List.getElem_cons_zero]; all_goals go_simp; all_goals (try with_reducible rfl))); (try simp only [Act.put, List.getElem_toArray, List.getElem_cons_succ, List.getElem_cons_zero, List.setIfInBounds_toArray, List.set_cons_zero, List.set_cons_succ])
  refine wpAnyH_take (i := 4) (v := ?_) (by rfl) (by kernel_rfl) (by kernel_rfl) (by kernel_rfl) (fun _ _ _ h => h) (Or.inl ⟨by kernel_rfl, ?_⟩) (by assumption) ?_; rotate_left 1; (focus (intro w hSw; (try dsimp only at hSw); simp only [List.getElem_toArray, List.getElem_cons_succ, List.getElem_cons_zero]; all_goals go_simp; all_goals (try with_reducible rfl))); (try simp only [Act.put, List.getElem_toArray, List.getElem_cons_succ, List.getElem_cons_zero, List.setIfInBounds_toArray, List.set_cons_zero, List.set_cons_succ])
  refine wpAnyH_ready (rs := [5]) (by kernel_rfl) (by simp) ?_; refine AllReadyH.cons (by rfl) (fun K hK => ?_) AllReadyH.nil; rw [if_pos (by kernel_rfl)]; simp only [List.getElem_toArray, List.getElem_cons_succ, List.getElem_cons_zero]
  have HD := Lib.hid (H4.out.below (Below.refl w4.heap.size w4).drew)
  go_wp2_with (first
    | (go_at_call 27; (with_reducible refine (spagekey_in 0 0 (Lib.hid rfl) HAB.out.2 HTA 0 (Lib.hid rfl) _ HD.out.sv.st).mono ?_); rintro e w5 ⟨rfl, hb⟩; have H5 := Lib.hid (HD.out.below hb); clear hb))
  refine hK.out _ _ H5.out.sv.st.s0 (fun hHeld => ?_)
  clear hK K
  (try simp only [Act.put, List.getElem_toArray, List.getElem_cons_succ, List.getElem_cons_zero, List.setIfInBounds_toArray, List.set_cons_zero, List.set_cons_succ])
  refine wpAnyH_ready (rs := [6]) (by kernel_rfl) (by simp) ?_; refine AllReadyH.cons (by rfl) (fun K hK => ?_) AllReadyH.nil; rw [if_pos (by kernel_rfl)]; simp only [List.getElem_toArray, List.getElem_cons_succ, List.getElem_cons_zero]
  go_wp2_with fail
  have H5a := Lib.hid (H5.out.below ((Below.refl _ _).alloc (Nat.le_refl _) _ : Below w5.heap.size w5 (w5.alloc (.cells #[.int .i64 3, .int .i64 0, .int .i64 0, .int .i64 0, .int .u32 0] 29 (0, 0)))))
  have HSrc := Lib.hid (srcK1 w5 3 0 0 0 0 29 a.B a.G H5.out.sv.st.lo.n.2.2.1 H5.out.sv.st.lo.n.2.2.2)
  have HKRi : Hid (∀ x, x < 1 → KRight (kkOf 3 0 0 0 0) x) := Lib.hid (fun x _ => by show rightB 3 0 0 0 0 = true; decide)
  refine hK.out _ _ H5a.out.sv.st.s0 (fun hHeld => ?_)
  clear hK K
  (try simp only [Act.put, List.getElem_toArray, List.getElem_cons_succ, List.getElem_cons_zero, List.setIfInBounds_toArray, List.set_cons_zero, List.set_cons_succ])
  refine wpAnyH_ready (rs := [7]) (by kernel_rfl) (by simp) ?_; refine AllReadyH.cons (by rfl) (fun K hK => ?_) AllReadyH.nil; rw [if_pos (by kernel_rfl)]; simp only [List.getElem_toArray, List.getElem_cons_succ, List.getElem_cons_zero]
  go_wp2_with (first
    | (go_at_call 25; (with_reducible refine (nmake_at 0 vs vr (some ⟨w5.heap.size, 0, none⟩) 1 1 (kkOf 3 0 0 0 0) (by decide) HKRi 0 (Lib.hid rfl) HAB.out.1 (Lib.hid (by decide)) (Lib.hid (by intro i hi; omega)) 0 (Lib.hid rfl) _ (HE.out.below H5a.out.sv.bel) H5a.out.sv.st.nd HSrc.out).mono ?_); rintro e w6 ⟨rfl, hM, hb⟩; have H6 := Lib.hid (H5a.out.node hM hb ways_nil); clear hM hb))
  refine hK.out _ _ H6.out.sv.st.s0 (fun hHeld => ?_)
  clear hK K
  (try simp only [Act.put, List.getElem_toArray, List.getElem_cons_succ, List.getElem_cons_zero, List.setIfInBounds_toArray, List.set_cons_zero, List.set_cons_succ])
  refine wpAnyH_done (by kernel_rfl) ?_ _
  refine NoPanic.normal ?_
  obtain ⟨W, hW⟩ : ∃ W, W = freshV (fun _ b => zc b) 0 (kcs (kkOf 3 0 0 0 0) 1) := ⟨_, rfl⟩
  have HKW : Hid (KAt (W 0) 0 3 0 0 0 0) := Lib.hid (by rw [hW]; exact freshV_key _ 0 (kkOf 3 0 0 0 0) 1 0 (by decide))
  rw [← hW] at H6
  clear hW H4 HD H5 H5a HSrc HKRi
  go_upto_region 15 with (first
    | (go_at_call 28; (with_reducible refine (snodekey_in 0 1 0 (Lib.hid rfl) (by decide) (by decide) HAB.out.1 HTA 0 (Lib.hid rfl) _ H6.out.sv.st).mono ?_); rintro e w7 ⟨rfl, hb⟩; have H7 := Lib.hid (H6.out.below hb); have H7a := Lib.hid (fun o o' => (H7.out.below ((Below.refl _ _).alloc (Nat.le_refl _) _ : Below w7.heap.size w7 (w7.alloc o))).below ((Below.refl _ _).alloc (Nat.le_refl _) _ : Below _ _ ((w7.alloc o).alloc o'))); clear hb)
    | (go_at_call 27; (with_reducible refine (spagekey_in 0 0 (Lib.hid rfl) HAB.out.2 HTA 0 (Lib.hid rfl) _ (H7a.out _ _).sv.st).mono ?_); rintro e w8 ⟨rfl, hb⟩; have HB8 := Lib.hid hb; clear hb))
  rw [EAD.out]
  obtain ⟨w9, hw9⟩ : ∃ w9, w9 = w8.alloc (.cells #[.int .i64 3, .int .i64 0, .int .i64 0, .int .i64 0, .int .u32 0] 29 (0, 0)) := ⟨_, rfl⟩
  rw [← hw9]
  have H8 := Lib.hid ((H7a.out (.cells #[.int .i64 2, .int .i64 0, .int .i64 0, .int .i64 0, .int .u32 1] 29 (0, 0)) (.cells #[.int .i64 2, .int .i64 0, .int .i64 0, .int .i64 1, .int .u32 1] 29 (0, 0))).below HB8.out)
  have H9 : Hid (CV w w9 S a b N cb 8 (upd (fun _ => false) 0 true) (fun _ => 0) W (upd (fun _ => false) 0 true) (fun _ => 0) W2 0 (.slice none 0 0) []) := Lib.hid (by rw [hw9]; exact H8.out.below ((Below.refl _ _).alloc (Nat.le_refl _) _))
  obtain ⟨bk, hbk⟩ : ∃ bk, w7.heap.size = bk := ⟨_, rfl⟩
  obtain ⟨bp, hbp⟩ : ∃ bp, w8.heap.size = bp := ⟨_, rfl⟩
  have HX9 : Hid (Box3 w9 cb (.slice none 0 0) bk (bk + 1) bp) := Lib.hid (by
    have k1 := ((KeyC.new w7 2 0 0 0 1 29).below ((Below.refl _ _).alloc (Nat.le_refl _) _ : Below _ _ (World.alloc _ (.cells #[.int .i64 2, .int .i64 0, .int .i64 0, .int .i64 1, .int .u32 1] 29 (0, 0))))).below HB8.out
    have k2 := (KeyC.new (w7.alloc (.cells #[.int .i64 2, .int .i64 0, .int .i64 0, .int .i64 0, .int .u32 1] 29 (0, 0))) 2 0 0 1 1 29)
    rw [show (w7.alloc (.cells #[.int .i64 2, .int .i64 0, .int .i64 0, .int .i64 0, .int .u32 1] 29 (0, 0))).heap.size = w7.heap.size + 1 by simp] at k2
    have k2' := k2.below HB8.out
    have hcl := H7.out.ca.cl
    have hs8 : w7.heap.size + 1 + 1 ≤ w8.heap.size := by have := HB8.out.size; simpa using this
    rw [← hbk, ← hbp, hw9]
    exact ⟨k1.below ((Below.refl _ _).alloc (Nat.le_refl _) _), k2'.below ((Below.refl _ _).alloc (Nat.le_refl _) _), KeyC.new _ _ _ _ _ _ _, ⟨by omega, by simp [Value.ownBlock]⟩, ⟨by omega, by simp [Value.ownBlock]⟩, ⟨by omega, by simp [Value.ownBlock]⟩⟩)
  rw [hbk, hbp]
  clear hw9 hbk hbp H6 H7 H7a HB8 H8
  obtain ⟨br, hbr⟩ : ∃ br, bk + 1 = br := ⟨_, rfl⟩
  rw [hbr] at HX9 ⊢
  clear hbr
  have HLv : Hid (liveB a b (upd (fun _ => false) 0 true) (fun _ => 0) (upd (fun _ => false) 0 true) (fun _ => 0) 3 0 0 = true) := Lib.hid (by simp [liveB, thereB, upd, HAB.out.2])
  have HWk : Hid (Way a b (upd (fun _ => false) 0 true) (fun _ => 0) W (upd (fun _ => false) 0 true) (fun _ => 0) 2 0 0 0 1 5 ad false [0] ((0 : Nat) : Int) ad false 0) := Lib.hid (way_r0 (way_at 1 0 0 ad 3 0 0 0 0 rfl (by decide) (by decide) (by simp) (by decide) rfl HAB.out.1 rfl rfl (by decide) (by have := HAD.out; omega) HKW.out (.page (by decide) (by omega) HLv.out (by have := HAD.out; omega))) (by decide))
  have HWr : Hid (Way a b (upd (fun _ => false) 0 true) (fun _ => 0) W (upd (fun _ => false) 0 true) (fun _ => 0) 2 0 0 1 1 5 ad false [0] ((0 : Nat) : Int) ad true 0) := Lib.hid (way_r0 (way_at 1 0 0 ad 3 0 0 0 0 rfl (by decide) (by decide) (by simp) (by decide) rfl HAB.out.1 rfl rfl (by decide) (by have := HAD.out; omega) HKW.out (.page (by decide) (by omega) HLv.out (by have := HAD.out; omega))) (by decide))
  have HWp : Hid (Way a b (upd (fun _ => false) 0 true) (fun _ => 0) W (upd (fun _ => false) 0 true) (fun _ => 0) 3 0 0 0 0 5 ad false [] ((0 : Nat) : Int) ad false 0) := Lib.hid (way_r0 (.page (by decide) (by omega) HLv.out (by have := HAD.out; omega)) (by decide))
  go_upto_if 66 with fail
  go_cut [] (fun wx => ∃ (hits : Int) (v : Value) (E : List EW), CV w wx S a b N cb 8 (upd (fun _ => false) 0 true) (fun _ => 0) W (upd (fun _ => false) 0 true) (fun _ => 0) W2 hits v E ∧ Box3 wx cb v bk br bp ∧ E.length ≤ 1 ∧ 0 ≤ hits ∧ hits ≤ 1)
  case first =>
    cases a1
    · go_wp2_with fail
      go_meet
      exact ⟨0, _, [], H9.out, HX9.out, by simp, by decide, by decide⟩
    · have q0 := HX9.out.r.c0
      have q1 := HX9.out.r.c1
      have q2 := HX9.out.r.c2
      have q3 := HX9.out.r.c3
      have q4 := HX9.out.r.c4
      go_wp2_with (first
        | (go_at_call 16; (refine (cvfind 2 0 0 1 1 ad (by have := HAD.out; omega) [0] _ ad true 0 false (Lib.hid (by decide)) (Lib.hid (by decide)) (Lib.hid (by decide)) HWr _ H9.out).mono ?_); rintro e w10 ⟨rfl, h10, v10, E10, hm, ho, hk, hv⟩; have H10 := Lib.hid hm; have HX10 := Lib.hid (HX9.out.next hk hv); have HO10 := Lib.hid ho.more; clear hm ho hk hv q0 q1 q2 q3 q4))
      go_meet
      exact ⟨h10, v10, E10, H10.out, HX10.out, by have := HO10.out.1; simpa using this, by have := HO10.out; omega, by have := HO10.out; omega⟩
  case rest =>
    obtain ⟨hits, v, E, hm, hx, hl, h0, h1⟩ := hcut
    have HC := Lib.hid hm
    have HX := Lib.hid hx
    have HG := Lib.hid (And.intro hl (And.intro h0 h1))
    clear hm hx hl h0 h1 H9 HX9
    have q0 := HX.out.k.c0
    have q1 := HX.out.k.c1
    have q2 := HX.out.k.c2
    have q3 := HX.out.k.c3
    have q4 := HX.out.k.c4
    go_upto_region 18 with (first
      | (go_at_call 16; (refine (cvfind 2 0 0 0 1 ad (by have := HAD.out; omega) [0] _ ad false 0 false (Lib.hid (by have := HG.out; omega)) (Lib.hid (full8 (by have := HG.out; omega))) (Lib.hid (by have := HG.out; omega)) HWk _ HC.out).mono ?_); rintro e w10 ⟨rfl, h10, v10, E10, hm, ho, hk, hv⟩; have H10 := Lib.hid hm; have HX10 := Lib.hid (HX.out.next hk hv); have HO10 := Lib.hid ho.more; clear hm ho hk hv q0 q1 q2 q3 q4))
    obtain ⟨w11, hw11⟩ : ∃ w11, w11 = w10.alloc (.cells #[.int .i64 0, .int .i64 ad, .bool false] 40 (0, 0)) := ⟨_, rfl⟩
    rw [← hw11]
    obtain ⟨pa, hpa⟩ : ∃ pa, w10.heap.size = pa := ⟨_, rfl⟩
    have H11 : Hid (CV w w11 S a b N cb 8 (upd (fun _ => false) 0 true) (fun _ => 0) W (upd (fun _ => false) 0 true) (fun _ => 0) W2 h10 v10 E10) := Lib.hid (by rw [hw11]; exact H10.out.below ((Below.refl _ _).alloc (Nat.le_refl _) _))
    have HX11 : Hid (Box3 w11 cb v10 bk br bp) := Lib.hid (by rw [hw11]; exact HX10.out.below ((Below.refl _ _).alloc (Nat.le_refl _) _))
    have HA11 : Hid (PlC w11 pa 0 ad false ∧ OutC cb v10 pa) := Lib.hid (by rw [hw11, ← hpa]; exact ⟨PlC.new _ _ _ _ _, by have := H10.out.ca.cl; omega, fun e => by have := (H10.out.ca.row.lt _ e).2; omega⟩)
    have HG11 : Hid (E10.length ≤ 2 ∧ 0 ≤ h10 ∧ h10 ≤ 2) := Lib.hid (by have := HO10.out; have := HG.out; omega)
    rw [hpa]
    clear hw11 hpa H10 HX10 HO10 HC HX HG
    have q0 := HX11.out.r.c0
    have q1 := HX11.out.r.c1
    have q2 := HX11.out.r.c2
    have q3 := HX11.out.r.c3
    have q4 := HX11.out.r.c4
    go_upto_region 19 with (first
      | (go_at_call 16; (refine (cvfind 2 0 0 1 1 ad (by have := HAD.out; omega) [0] _ ad true 0 false (Lib.hid (by have := HG11.out; omega)) (Lib.hid (full8 (by have := HG11.out; omega))) (Lib.hid (by have := HG11.out; omega)) HWr _ H11.out).mono ?_); rintro e w12 ⟨rfl, h12, v12, E12, hm, ho, hk, hv⟩; have H12 := Lib.hid hm; have HX12 := Lib.hid (HX11.out.next hk hv); have HA12 := Lib.hid (And.intro (HA11.out.1.keepB hk HA11.out.2) (HA11.out.2.next HA11.out.1.lt hv)); have HO12 := Lib.hid ho.more; clear hm ho hk hv q0 q1 q2 q3 q4))
    obtain ⟨w13, hw13⟩ : ∃ w13, w13 = w12.alloc (.cells #[.int .i64 0, .int .i64 ad, .bool true] 40 (0, 0)) := ⟨_, rfl⟩
    rw [← hw13]
    obtain ⟨pb, hpb⟩ : ∃ pb, w12.heap.size = pb := ⟨_, rfl⟩
    have H13 : Hid (CV w w13 S a b N cb 8 (upd (fun _ => false) 0 true) (fun _ => 0) W (upd (fun _ => false) 0 true) (fun _ => 0) W2 h12 v12 E12) := Lib.hid (by rw [hw13]; exact H12.out.below ((Below.refl _ _).alloc (Nat.le_refl _) _))
    have HX13 : Hid (Box3 w13 cb v12 bk br bp) := Lib.hid (by rw [hw13]; exact HX12.out.below ((Below.refl _ _).alloc (Nat.le_refl _) _))
    have HA13 : Hid (PlC w13 pa 0 ad false ∧ OutC cb v12 pa) := Lib.hid (by rw [hw13]; exact ⟨HA12.out.1.below ((Below.refl _ _).alloc (Nat.le_refl _) _), HA12.out.2⟩)
    have HB13 : Hid (PlC w13 pb 0 ad true ∧ OutC cb v12 pb) := Lib.hid (by rw [hw13, ← hpb]; exact ⟨PlC.new _ _ _ _ _, by have := H12.out.ca.cl; omega, fun e => by have := (H12.out.ca.row.lt _ e).2; omega⟩)
    have HG13 : Hid (E12.length ≤ 3 ∧ 0 ≤ h12 ∧ h12 ≤ 3) := Lib.hid (by have := HO12.out; have := HG11.out; omega)
    rw [hpb]
    clear hw13 hpb H12 HX12 HO12 H11 HX11 HG11 HA11 HA12
    have q0 := HX13.out.p.c0
    have q1 := HX13.out.p.c1
    have q2 := HX13.out.p.c2
    have q3 := HX13.out.p.c3
    have q4 := HX13.out.p.c4
    go_upto_region 20 with (first
      | (go_at_call 16; (refine (cvfind 3 0 0 0 0 ad (by have := HAD.out; omega) [] _ ad false 0 false (Lib.hid (by have := HG13.out; omega)) (Lib.hid (full8 (by have := HG13.out; omega))) (Lib.hid (by have := HG13.out; omega)) HWp _ H13.out).mono ?_); rintro e w14 ⟨rfl, h14, v14, E14, hm, ho, hk, hv⟩; have H14 := Lib.hid hm; have HA14 := Lib.hid (And.intro (HA13.out.1.keepB hk HA13.out.2) (HA13.out.2.next HA13.out.1.lt hv)); have HB14 := Lib.hid (And.intro (HB13.out.1.keepB hk HB13.out.2) (HB13.out.2.next HB13.out.1.lt hv)); clear hm ho hk hv q0 q1 q2 q3 q4))
    obtain ⟨w15, hw15⟩ : ∃ w15, w15 = w14.alloc (.cells #[.int .i64 0, .int .i64 ad, .bool false] 40 (0, 0)) := ⟨_, rfl⟩
    rw [← hw15]
    obtain ⟨pd, hpd⟩ : ∃ pd, w14.heap.size = pd := ⟨_, rfl⟩
    have H15 : Hid (CV w w15 S a b N cb 8 (upd (fun _ => false) 0 true) (fun _ => 0) W (upd (fun _ => false) 0 true) (fun _ => 0) W2 h14 v14 E14) := Lib.hid (by rw [hw15]; exact H14.out.below ((Below.refl _ _).alloc (Nat.le_refl _) _))
    have HA15 : Hid (PlC w15 pa 0 ad false) := Lib.hid (by rw [hw15]; exact HA14.out.1.below ((Below.refl _ _).alloc (Nat.le_refl _) _))
    have HB15 : Hid (PlC w15 pb 0 ad true) := Lib.hid (by rw [hw15]; exact HB14.out.1.below ((Below.refl _ _).alloc (Nat.le_refl _) _))
    have HD15 : Hid (PlC w15 pd 0 ad false) := Lib.hid (by rw [hw15, ← hpd]; exact PlC.new _ _ _ _ _)
    rw [hpd]
    have x0 : (0 : Int) ≤ ad := by omega
    have x1 : (ad : Int) ≤ 31 := by have := HAD.out; omega
    have e0 := HA15.out.c0
    have e2 := HA15.out.c2
    have f0 := HB15.out.c0
    have f2 := HB15.out.c2
    have d1 := HD15.out.c1
    have d2 := HD15.out.c2
    clear hw15 hpd H14 HA14 HB14 H13 HX13 HG13 HA13 HB13
    go_wp2_with fail
    go_ret
    exact ⟨by simp, H15.out.sv.bel⟩
theorem walk_CacheRoots (a0 : Int) (a1 : Bool) (w : World) (w0 : (Lit.int .u32 a0).wf = true) (hL : laidMetH Tryd.prog Rows.cacheRootsRow.laid w) :
    Calls Tryd.prog 6 #[.int .u32 a0, .bool a1] w fun e w' => e = .returned (.bool true) ∧ Below w.heap.size w w' := by
  obtain ⟨vs, vr, hE⟩ := (errs2 hL ⟨_, by repeat (first | exact List.Mem.head _ | apply List.Mem.tail)⟩ ⟨_, by repeat (first | exact List.Mem.head _ | apply List.Mem.tail)⟩)
  exact croots_walk a0 a1 (fit32 w0).1 (fit32 w0).2 w vs vr hE
end Go.Proofs.YtedidopkemjgeaaDoor
namespace Go.Proofs.YtedidopkemjgeaaDoor
open Go.ChangeShapes Go.WideShapes Go.ChangeAt Go.RowKit
set_option linter.unusedVariables false
set_option linter.unusedSimpArgs false
theorem FindOut.fault {E E' : List EW} {full : Bool} {hits hits' k0 k1 k2 k3 k4 sh f : Int} {ids : List Int} (h : FindOut E E' full hits hits' k0 k1 k2 k3 k4 sh ids f) (hf : ¬ f = 0) : E' = E ∧ hits' = hits := by
  rcases h with ⟨e, _, _, _, _, h⟩ | ⟨_, h1, ⟨h, _⟩ | ⟨_, h2⟩⟩
  · exact absurd h hf
  · exact absurd h hf
  · exact ⟨h2, h1⟩
theorem CacheAt.clearedX {w : World} {N cb : Nat} {size hits : Int} {v : Value} {E : List EW} (h : CacheAt w N cb size hits v E) : CacheAt (w.setCell ⟨cb, 2, none⟩ (.slice none 0 0)) N cb size hits (.slice none 0 0) [] := by
  refine ⟨h.nb, by simpa using h.cl, ?_, ?_, World.cell?_setCell_same _ _ _ h.c2, fun j => by simpa using h.fr j, World.ownsRow_nil _ _ _ _, by simp [Value.ownBlock], fun e he => by cases he⟩
  · rw [World.cell?_setCell_other _ _ _ _ (by simp)]; exact h.c0
  · rw [World.cell?_setCell_other _ _ _ _ (by simp)]; exact h.c1
theorem cclear_is (cb : Nat) (v : Value) (w : World) (c2 : w.cell? ⟨cb, 2, none⟩ = some v) (fr : w.frozen? ⟨cb, 2, none⟩ = false) :
    Calls Tryd.prog 21 #[.pointer (some ⟨cb, 0, none⟩)] w fun e w' => e = .returned (.tuple #[]) ∧ w' = w.setCell ⟨cb, 2, none⟩ (.slice none 0 0) := by
  go_enter Tryd.func21, Tryd.ntmps21
  go_wp2_with fail
  go_end0
  exact ⟨rfl, rfl⟩
theorem way_voidX {a b : Shp} {th : Nat → Bool} {vr_ : Nat → Int} {th2 : Nat → Bool} {vr2 : Nat → Int} {k0 k1 k2 k3 k4 f below : Int} (W : Nat → Nat → Value) (addr : Int) (ro : Bool) (h0 : 0 ≤ k4) (hz : entP (szP k0 k4) (szB k0 k4) (liveB a b th vr_ th2 vr2 k0 k1 k2) k0 k4 below addr = (0, f)) (hf : (f != 0) = true) : Way a b th vr_ W th2 vr2 k0 k1 k2 k3 k4 below addr ro [] 0 0 false f :=
  .fault _ _ _ f h0 ⟨rfl, rfl⟩ rfl hz hf
set_option maxRecDepth 100000 in
set_option maxHeartbeats 8000000 in
theorem cgone_walk (a0 : Int) (a1 : Bool) (x : Nat) (hx16 : x < 16) (C0 : Hid (∀ w, Calls Tryd.prog 13 #[.int .i64 a0, .int .i64 16] w fun e w' => e = .returned (.int .i64 (x : Int)) ∧ w = w')) (w : World) (vs vr : Value) (hE : ErrsAt vs vr w) :
    Calls Tryd.prog 7 #[.int .i64 a0, .bool a1] w fun e w' => e = .returned (.bool true) ∧ Below w.heap.size w w' := by
  have HE := Lib.hid hE
  clear hE
  have HX := Lib.hid hx16
  have x0 : (0 : Int) ≤ x := by omega
  have x1 : (x : Int) < 16 := by omega
  clear hx16
  go_enter Tryd.func7, Tryd.ntmps7
  go_upto_region 7 with (first
    | (go_at_call 12; (with_reducible refine (cfirst_is vs vr _ HE.out).mono ?_); rintro e w1 ⟨rfl, hb1⟩; have HB1 := Lib.hid hb1; clear hb1)
    | (go_at_call 13; (with_reducible refine (C0.out _).mono ?_); rintro e w9 ⟨rfl, rfl⟩)
    | (go_at_call 24; (with_reducible refine (snew_ok 1 3 1 3 (Lib.hid rfl) (Lib.hid rfl) (by decide) (by decide) (by decide) (by decide) _).mono ?_); rintro e w2 ⟨S, a, b, rfl, hs, hn, hb⟩; have HN := Lib.hid hn.out; have H2 : Hid (SV w w2 S a b _ _ _ _ _ _) := Lib.hid ⟨HB1.out.trans (hb.mono HB1.out.size), by have := hn.out.2.2; have := HB1.out.size; omega, hs⟩; clear hs hb hn)
    | (go_at_call 15; (with_reducible refine (cnew_ok 8 (by decide) (by decide) _).mono ?_); rintro e w3 ⟨cb, rfl, hc, hb⟩; have H3 := Lib.hid (CV.new H2.out hc hb); clear hc hb))
  obtain ⟨N, hN⟩ : ∃ N, w2.heap.size = N := ⟨_, rfl⟩
  rw [hN] at H3
  have HAB : Hid (0 < a.n ∧ 0 < b.n) := Lib.hid (by have := HN.out; omega)
  clear hN H2 HB1
  have s1 := H3.out.sv.st.s1
  go_upto_region 10 with (first
    | (go_at_call 26; (with_reducible refine (pmake_at 0 (some ⟨w3.heap.size, 0, none⟩) 1 1 [1] (Lib.hid rfl) (by decide) 0 (Lib.hid rfl) HAB.out.2 (Lib.hid (by decide)) (Lib.hid (by intro i hi; omega)) 0 (Lib.hid rfl) _ (H3.out.sv.st.pg.below ((Below.refl _ _).alloc (Nat.le_refl _) _)) (srcu1 w3 1 _ b.B b.G H3.out.sv.st.pg.ar.lt.2 (H3.out.sv.st.pg.row.lt b.G rfl).2)).mono ?_); rintro e w4 ⟨rfl, hP, hb⟩; have H4 := Lib.hid ((H3.out.below ((Below.refl _ _).alloc (Nat.le_refl _) _)).page hP hb ways_nil); clear hP hb s1))
  obtain ⟨W2, hW2⟩ : ∃ W2, W2 = fresh (fun _ _ => 0) 0 [1] := ⟨_, rfl⟩
  rw [← hW2] at H4
  have HTA : Hid ((upd (fun _ => false) 0 true) 0 = true) := Lib.hid rfl
  clear hW2 H3
  have s0 := H4.out.sv.st.s0
  go_upto_region 11 with (first
    | (go_at_call 25; (with_reducible refine (nmake_at 0 vs vr none 0 0 (fun _ _ => 0) (by decide) (Lib.hid (by intro i hi; omega)) 0 (Lib.hid rfl) HAB.out.1 (Lib.hid (by decide)) (Lib.hid (by intro i hi; omega)) 0 (Lib.hid rfl) _ (HE.out.below H4.out.sv.bel) H4.out.sv.st.nd (srcK_none _ _ _ _)).mono ?_); rintro e w5 ⟨rfl, hM, hb⟩; have H5 := Lib.hid (H4.out.node hM hb ways_nil); clear hM hb s0))
  obtain ⟨W0, hW0⟩ : ∃ W0, W0 = freshV (fun _ b => zc b) 0 (kcs (fun _ _ => 0) 0) := ⟨_, rfl⟩
  have HA16 : Hid (All16 (W0 0)) := Lib.hid (by rw [hW0]; exact All16.fresh _ _ _)
  rw [← hW0] at H5
  clear hW0 H4
  refine wp_region_noPanic ?_
  refine wp_region_held_drew (S := fun w' => World.cell? w' ⟨S, 0, none⟩ = some (.pointer (some ⟨a.P, 0, none⟩))) (by kernel_rfl) (H5.out.below (Below.refl w5.heap.size w5).drew).sv.st.s0 (fun hHeld => ?_)
  refine wpAnyH_take (i := 0) (v := ?_) (by rfl) (by kernel_rfl) (by kernel_rfl) (by kernel_rfl) (fun _ _ _ h => h) (Or.inl ⟨by kernel_rfl, ?_⟩) (by assumption) ?_; rotate_left 1; (focus (intro w hSw; (try dsimp only at hSw); simp only [List.getElem_toArray, List.getElem_cons_succ, List.getElem_cons_zero]; all_goals go_simp; all_goals (try with_reducible rfl))); (try simp only [Act.put, List.getElem_toArray, List.getElem_cons_succ, List.getElem_cons_zero, List.setIfInBounds_toArray, List.set_cons_zero, List.set_cons_succ])
  refine wpAnyH_take (i := 1) (v := ?_) (by rfl) (by kernel_rfl) (by kernel_rfl) (by kernel_rfl) (fun _ _ _ h => h) (Or.inl ⟨by kernel_rfl, ?_⟩) (by assumption) ?_; rotate_left 1; (focus (intro w hSw; (try dsimp only at hSw); simp only [List.getElem_toArray, List.getElem_cons_succ, List.getElem_cons_zero]; all_goals go_simp; all_goals (try with_reducible rfl))); (try simp only [Act.put, List.getElem_toArray, List.getElem_cons_succ, List.getElem_cons_zero, List.setIfInBounds_toArray, List.set_cons_zero, List.set_cons_succ])
  refine wpAnyH_take (i := 2) (v := ?_) (by rfl) (by kernel_rfl) (by kernel_rfl) (by kernel_rfl) (fun _ _ _ h => h) (Or.inl ⟨by kernel_rfl, ?_⟩) (by assumption) ?_; rotate_left 1; (focus (intro w hSw; (try dsimp only at hSw); simp only [List.getElem_toArray, List.getElem_cons_succ, List.getElem_cons_zero]; all_goals go_simp; all_goals (try with_reducible rfl))); (try simp only [Act.put, List.getElem_toArray, List.getElem_cons_succ, List.getElem_cons_zero, List.setIfInBounds_toArray, List.set_cons_zero, List.set_cons_succ])
  refine wpAnyH_take (i := 3) (v := ?_) (by rfl) (by kernel_rfl) (by kernel_rfl) (by kernel_rfl) (fun _ _ _ h => h) (Or.inl ⟨by kernel_rfl, ?_⟩) (by assumption) ?_; rotate_left 1; (focus (intro w hSw; (try dsimp only at hSw); simp only [List.getElem_toArray, List.getElem_cons_succ, List.getElem_cons_zero]; all_goals go_simp; all_goals (try with_reducible rfl))); (try simp only [Act.put, List.getElem_toArray, List.getElem_cons_succ, List.getElem_cons_zero, List.setIfInBounds_toArray, List.set_cons_zero, List.set_cons_succ])
  refine wpAnyH_take (i := 4) (v := ?_) (by rfl) (by kernel_rfl) (by kernel_rfl) (by kernel_rfl) (fun _ _ _ h => h) (Or.inl ⟨by kernel_rfl, ?_⟩) (by assumption) ?_; rotate_left 1; (focus (intro w hSw; (try dsimp only at hSw); simp only [List.getElem_toArray, List.getElem_cons_succ, List.getElem_cons_zero]; all_goals go_simp; all_goals (try with_reducible rfl))); (try simp only [Act.put, List.getElem_toArray, List.getElem_cons_succ, List.getElem_cons_zero, List.setIfInBounds_toArray, List.set_cons_zero, List.set_cons_succ])
  refine wpAnyH_take (i := 5) (v := ?_) (by rfl) (by kernel_rfl) (by kernel_rfl) (by kernel_rfl) (fun _ _ _ h => h) (Or.inl ⟨by kernel_rfl, ?_⟩) (by assumption) ?_; rotate_left 1; (focus (intro w hSw; (try dsimp only at hSw); simp only [List.getElem_toArray, List.getElem_cons_succ, List.getElem_cons_zero]; all_goals go_simp; all_goals (try with_reducible rfl))); (try simp only [Act.put, List.getElem_toArray, List.getElem_cons_succ, List.getElem_cons_zero, List.setIfInBounds_toArray, List.set_cons_zero, List.set_cons_succ])
  refine wpAnyH_ready (rs := [6]) (by kernel_rfl) (by simp) ?_; refine AllReadyH.cons (by rfl) (fun K hK => ?_) AllReadyH.nil; rw [if_pos (by kernel_rfl)]; simp only [List.getElem_toArray, List.getElem_cons_succ, List.getElem_cons_zero]
  have HD := Lib.hid (H5.out.below (Below.refl w5.heap.size w5).drew)
  go_wp2_with (first
    | (go_at_call 27; (with_reducible refine (spagekey_in 0 0 (Lib.hid rfl) HAB.out.2 HTA 0 (Lib.hid rfl) _ HD.out.sv.st).mono ?_); rintro e w6 ⟨rfl, hb⟩; have H6 := Lib.hid (HD.out.below hb); clear hb))
  refine hK.out _ _ H6.out.sv.st.s0 (fun hHeld => ?_)
  clear hK K
  (try simp only [Act.put, List.getElem_toArray, List.getElem_cons_succ, List.getElem_cons_zero, List.setIfInBounds_toArray, List.set_cons_zero, List.set_cons_succ])
  refine wpAnyH_ready (rs := [7]) (by kernel_rfl) (by simp) ?_; refine AllReadyH.cons (by rfl) (fun K hK => ?_) AllReadyH.nil; rw [if_pos (by kernel_rfl)]; simp only [List.getElem_toArray, List.getElem_cons_succ, List.getElem_cons_zero]
  go_wp2_with (first
    | (go_at_call 19; (with_reducible refine (nset_at vs vr 0 x 0 x (Lib.hid rfl) (Lib.hid rfl) HAB.out.1 HX.out HTA 3 0 0 0 0 (Lib.hid (by decide)) _ (HE.out.below H6.out.sv.bel) H6.out.sv.st.nd (Lib.hid HA16.out.one)).mono ?_); rintro e w7 ⟨rfl, hM, hb⟩; have H7 := Lib.hid (H6.out.node hM hb ways_nil); clear hM hb))
  refine hK.out _ _ H7.out.sv.st.s0 (fun hHeld => ?_)
  clear hK K
  (try simp only [Act.put, List.getElem_toArray, List.getElem_cons_succ, List.getElem_cons_zero, List.setIfInBounds_toArray, List.set_cons_zero, List.set_cons_succ])
  refine wpAnyH_done (by kernel_rfl) ?_ _
  refine NoPanic.normal ?_
  obtain ⟨W, hW⟩ : ∃ W, W = updV W0 0 (x * 5) (k5 3 0 0 0 0) := ⟨_, rfl⟩
  have HKW : Hid (KAt (W 0) x 3 0 0 0 0) := Lib.hid (by rw [hW]; exact updV_key W0 0 x 3 0 0 0 0)
  rw [← hW] at H7
  clear hW H5 HD H6 HA16
  go_upto_region 13 with (first
    | (go_at_call 28; (with_reducible refine (snodekey_in 0 1 0 (Lib.hid rfl) (by decide) (by decide) HAB.out.1 HTA 0 (Lib.hid rfl) _ H7.out.sv.st).mono ?_); rintro e w8 ⟨rfl, hb⟩; have H8 := Lib.hid (H7.out.below hb); clear hb))
  obtain ⟨w9, hw9⟩ : ∃ w9, w9 = w8.alloc (.cells #[.int .i64 2, .int .i64 0, .int .i64 0, .int .i64 0, .int .u32 1] 29 (0, 0)) := ⟨_, rfl⟩
  rw [← hw9]
  have H9 : Hid (CV w w9 S a b N cb 8 (upd (fun _ => false) 0 true) (fun _ => 0) W (upd (fun _ => false) 0 true) (fun _ => 0) W2 0 (.slice none 0 0) []) := Lib.hid (by rw [hw9]; exact H8.out.below ((Below.refl _ _).alloc (Nat.le_refl _) _))
  have HK9 : Hid (KeyC w9 w8.heap.size 2 0 0 0 1) := Lib.hid (by rw [hw9]; exact KeyC.new _ _ _ _ _ _ _)
  obtain ⟨kb, hkb⟩ : ∃ kb, Hid (w8.heap.size = kb) := ⟨_, Lib.hid rfl⟩
  have HO9 : Hid (OutC cb (.slice none 0 0) kb ∧ N ≤ kb) := Lib.hid ⟨⟨by rw [← hkb.out]; have := H8.out.ca.cl; omega, by simp [Value.ownBlock]⟩, by rw [← hkb.out]; exact H8.out.nN⟩
  rw [hkb.out] at HK9 ⊢
  clear hw9 hkb H7 H8
  obtain ⟨ad, had⟩ : ∃ ad : Nat, Hid (32 * x + 3 = ad) := ⟨_, Lib.hid rfl⟩
  have HAd : Hid (ad ≤ 4294967295) := Lib.hid (by have := had.out; have := HX.out; omega)
  have HLv : Hid (liveB a b (upd (fun _ => false) 0 true) (fun _ => 0) (upd (fun _ => false) 0 true) (fun _ => 0) 3 0 0 = true) := Lib.hid (by simp [liveB, thereB, upd, HAB.out.2])
  have HWk : Hid (Way a b (upd (fun _ => false) 0 true) (fun _ => 0) W (upd (fun _ => false) 0 true) (fun _ => 0) 2 0 0 0 1 5 ad false [0] ((0 : Nat) : Int) ((3 : Nat) : Int) false 0) := Lib.hid (way_r0 (way_at 1 0 x 3 3 0 0 0 0 rfl (by decide) (by decide) (by rw [← had.out]; congr 1; omega) (by decide) rfl HAB.out.1 rfl rfl HX.out (by decide) HKW.out (.page (by decide) (by omega) HLv.out (by decide))) (by decide))
  have y0 : (32 : Int) * x + 3 = ad := by have := had.out; omega
  have HY := Lib.hid y0
  have q0 := HK9.out.c0
  have q1 := HK9.out.c1
  have q2 := HK9.out.c2
  have q3 := HK9.out.c3
  have q4 := HK9.out.c4
  clear y0
  go_upto_region 14 with fail
  rw [HY.out]
  have HCF := Lib.hid (cvfind 2 0 0 0 1 ad HAd.out [0] _ _ false 0 false (Lib.hid (by decide)) (Lib.hid (by decide)) (Lib.hid (by decide)) HWk _ H9.out)
  go_upto_region 15 with (first
    | (go_at_call 16; (with_reducible refine HCF.out.mono ?_); rintro e w10 ⟨rfl, h10, v10, E10, hm, ho, hk, hv⟩; have H10 := Lib.hid hm; have HK10 := Lib.hid (HK9.out.keepB hk HO9.out.1); have HO10 := Lib.hid (HO9.out.1.next HK9.out.lt hv); have HG10 := Lib.hid ho.more; clear HCF hm ho hk hv q0 q1 q2 q3 q4))
  obtain ⟨w11, hw11⟩ : ∃ w11, w11 = w10.alloc (.cells #[.int .i64 0, .int .i64 3, .bool false] 40 (0, 0)) := ⟨_, rfl⟩
  rw [← hw11]
  have H11 : Hid (CV w w11 S a b N cb 8 (upd (fun _ => false) 0 true) (fun _ => 0) W (upd (fun _ => false) 0 true) (fun _ => 0) W2 h10 v10 E10) := Lib.hid (by rw [hw11]; exact H10.out.below ((Below.refl _ _).alloc (Nat.le_refl _) _))
  have HK11 : Hid (KeyC w11 kb 2 0 0 0 1) := Lib.hid (by rw [hw11]; exact HK10.out.below ((Below.refl _ _).alloc (Nat.le_refl _) _))
  have HH10 : Hid (0 ≤ h10 ∧ h10 ≤ 1) := Lib.hid (by have := HG10.out; omega)
  clear hw11 H9 HK9 H10 HK10 HWk HG10
  have s1 := H11.out.sv.st.s1
  have f0 := H11.out.sv.st.pg.f0
  go_upto_region 18 with (first
    | (go_at_call 30; (with_reducible refine (agive_at 0 _ H11.out.sv.st.pg.ar 0 (Lib.hid rfl) HAB.out.2 HTA 0 1 (Lib.hid rfl) (by decide) (by decide) (Lib.hid rfl)).mono ?_); rintro e w12 ⟨rfl, hA, hg⟩; have hb := PBelow.of (B := b.B) (G := b.G) hg (.inl rfl); have HSV := Lib.hid (H11.out.sv.page (H11.out.sv.st.pg.turn hA hg) hb); have HCA := Lib.hid (H11.out.ca.same hb.2.2.2.1 (fun k hk hks => hb.2.2.2.2 k hks (by have := H11.out.lo.p; omega) (by have := H11.out.lo.p; omega))); have HK12 := Lib.hid (HK11.out.pbelow hb (by have := H11.out.lo.p; have := HO9.out.2; omega) (by have := H11.out.lo.p; have := HO9.out.2; omega)); have c2 := HCA.out.c2; have fr := HCA.out.fr 2; have HS12 := Lib.hid hb.2.2.2.1; clear hA hg hb s1 f0)
    | (go_at_call 21; (with_reducible refine (cclear_is cb v10 _ c2 fr).mono ?_); rintro e w13 ⟨rfl, hw⟩; have HW := Lib.hid hw; clear hw c2 fr))
  have hkc : kb ≠ cb := HO9.out.1.1
  have H13 : Hid (CV w w13 S a b N cb 8 (upd (fun _ => false) 0 true) (fun _ => 0) W (upd (upd (fun _ => false) 0 true) 0 false) (upd (fun _ => 0) 0 1) W2 h10 (.slice none 0 0) []) := Lib.hid (by rw [HW.out]; exact ⟨HSV.out.put1 H11.out.lo cb 2 HCA.out.nb H11.out.n0 _, H11.out.lo, H11.out.n0, by have := HS12.out; have := H11.out.nN; simp; omega, HCA.out.clearedX, ways_nil⟩)
  have HK13 : Hid (KeyC w13 kb 2 0 0 0 1) := Lib.hid (by rw [HW.out]; exact HK12.out.same' (by simp) (set_heap _ _ _ _ _ hkc))
  clear H11 HK11 HSV HCA HK12 HS12 HW
  go_upto_if 93 with fail
  go_cut [] (fun wx => ∃ (th2 : Nat → Bool) (vr2 : Nat → Int) (W2' : Nat → Nat → Int), CV w wx S a b N cb 8 (upd (fun _ => false) 0 true) (fun _ => 0) W th2 vr2 W2' h10 (.slice none 0 0) [] ∧ KeyC wx kb 2 0 0 0 1 ∧ Hid (Way a b (upd (fun _ => false) 0 true) (fun _ => 0) W th2 vr2 2 0 0 0 1 5 ad false [0] 0 0 false 2))
  case first =>
    cases a1
    · go_wp2_with fail
      go_meet
      exact ⟨_, _, _, H13.out, HK13.out, Lib.hid (way_at 1 0 x 3 3 0 0 0 0 rfl (by decide) (by decide) (by rw [← had.out]; congr 1; omega) (by decide) rfl HAB.out.1 rfl rfl HX.out (by decide) HKW.out (way_voidX _ _ _ (by decide) (by simp [entP, szB, liveB, thereB, upd]) rfl))⟩
    · have s1 := H13.out.sv.st.s1
      go_wp2_with (first
        | (go_at_call 26; (with_reducible refine (pmake_at 0 (some ⟨w13.heap.size, 0, none⟩) 1 1 [9] (Lib.hid rfl) (by decide) 0 (Lib.hid rfl) HAB.out.2 (Lib.hid (by decide)) (Lib.hid (by intro i hi; omega)) 1 (Lib.hid (by decide)) _ (H13.out.sv.st.pg.below ((Below.refl _ _).alloc (Nat.le_refl _) _)) (srcu1 w13 9 _ b.B b.G H13.out.sv.st.pg.ar.lt.2 (H13.out.sv.st.pg.row.lt b.G rfl).2)).mono ?_); rintro e w14 ⟨rfl, hP, hb⟩; have H14 := Lib.hid ((H13.out.below ((Below.refl _ _).alloc (Nat.le_refl _) _)).page hP hb ways_nil); have HK14 := Lib.hid ((HK13.out.below ((Below.refl _ _).alloc (Nat.le_refl _) _)).pbelow hb (by have := H13.out.lo.p; have := HO9.out.2; omega) (by have := H13.out.lo.p; have := HO9.out.2; omega)); clear hP hb s1))
      go_meet
      exact ⟨_, _, _, H14.out, HK14.out, Lib.hid (way_at 1 0 x 3 3 0 0 0 0 rfl (by decide) (by decide) (by rw [← had.out]; congr 1; omega) (by decide) rfl HAB.out.1 rfl rfl HX.out (by decide) HKW.out (way_voidX _ _ _ (by decide) (by simp [entP, szB, liveB, thereB, upd]) rfl))⟩
  case rest =>
    obtain ⟨th2, vr2, W2', hm, hk, HWF⟩ := hcut
    have HC := Lib.hid hm
    have HK := Lib.hid hk
    clear hm hk H13 HK13
    have HOC : Hid (OutC cb (.slice none 0 0) kb) := HO9.out.1 |> Lib.hid
    have q0 := HK.out.c0
    have q1 := HK.out.c1
    have q2 := HK.out.c2
    have q3 := HK.out.c3
    have q4 := HK.out.c4
    have HCF := Lib.hid (cvfind 2 0 0 0 1 ad HAd.out [0] 0 0 false 2 false (Lib.hid (by decide)) (Lib.hid (by decide)) (Lib.hid (by have := HH10.out; omega)) HWF _ HC.out)
    go_upto_region 21 with (first
      | (go_at_call 16; (with_reducible refine HCF.out.mono ?_); rintro e w15 ⟨rfl, h15, v15, E15, hm, ho, hk, hv⟩; have H15 := Lib.hid hm; have HK15 := Lib.hid (HK.out.keepB hk HOC.out); have HG15 := Lib.hid (ho.fault (by decide)).1; clear HCF hm ho hk hv q0 q1 q2 q3 q4))
    obtain ⟨w16, hw16⟩ : ∃ w16, w16 = w15.alloc (.cells #[.int .i64 0, .int .i64 0, .bool false] 40 (0, 0)) := ⟨_, rfl⟩
    rw [← hw16]
    have H16 : Hid (CV w w16 S a b N cb 8 (upd (fun _ => false) 0 true) (fun _ => 0) W th2 vr2 W2' h15 v15 E15) := Lib.hid (by rw [hw16]; exact H15.out.below ((Below.refl _ _).alloc (Nat.le_refl _) _))
    have HK16 : Hid (KeyC w16 kb 2 0 0 0 1) := Lib.hid (by rw [hw16]; exact HK15.out.below ((Below.refl _ _).alloc (Nat.le_refl _) _))
    have HP16 : Hid (PlC w16 w15.heap.size 0 0 false) := Lib.hid (by rw [hw16]; exact PlC.new _ _ _ _ _)
    obtain ⟨pb, hpb⟩ : ∃ pb, w15.heap.size = pb := ⟨_, rfl⟩
    rw [hpb] at HP16 ⊢
    clear hw16 hpb H15 HK15
    have q0 := HK16.out.c0
    have q1 := HK16.out.c1
    have q2 := HK16.out.c2
    have q3 := HK16.out.c3
    have q4 := HK16.out.c4
    go_upto_region 22 with (first
      | (go_at_call 17; (with_reducible refine (pWalk_is 2 0 0 0 1 _ [0] 0 0 false 2 HWF _ H16.out.sv.st).mono ?_); rintro e w17 ⟨rfl, hb⟩; have H17 := Lib.hid (H16.out.below hb); have HP17 := Lib.hid (HP16.out.below hb); clear hb q0 q1 q2 q3 q4))
    obtain ⟨w18, hw18⟩ : ∃ w18, w18 = w17.alloc (.cells #[.int .i64 0, .int .i64 0, .bool false] 40 (0, 0)) := ⟨_, rfl⟩
    rw [← hw18]
    have H18 : Hid (CV w w18 S a b N cb 8 (upd (fun _ => false) 0 true) (fun _ => 0) W th2 vr2 W2' h15 v15 E15) := Lib.hid (by rw [hw18]; exact H17.out.below ((Below.refl _ _).alloc (Nat.le_refl _) _))
    have HP18 : Hid (PlC w18 pb 0 0 false) := Lib.hid (by rw [hw18]; exact HP17.out.below ((Below.refl _ _).alloc (Nat.le_refl _) _))
    have HQ18 : Hid (PlC w18 w17.heap.size 0 0 false) := Lib.hid (by rw [hw18]; exact PlC.new _ _ _ _ _)
    obtain ⟨qb, hqb⟩ : ∃ qb, w17.heap.size = qb := ⟨_, rfl⟩
    rw [hqb] at HQ18 ⊢
    clear hw18 hqb H17 HP17
    have p0 := HP18.out.c0
    have p1 := HQ18.out.c0
    have HE0 : Hid (E15.length = 0) := Lib.hid (by rw [HG15.out]; rfl)
    go_wp2_with (first
      | (go_at_call 22; (with_reducible refine (clen_is 0 HE0 _ H18.out).mono ?_); rintro e w19 ⟨rfl, rfl⟩))
    go_ret
    exact ⟨by simp, H18.out.sv.bel⟩
theorem walk_CacheGone (a0 : Int) (a1 : Bool) (w : World) (w0 : (Lit.int .i64 a0).wf = true) (hL : laidMetH Tryd.prog Rows.cacheGoneRow.laid w) :
    Calls Tryd.prog 7 #[.int .i64 a0, .bool a1] w fun e w' => e = .returned (.bool true) ∧ Below w.heap.size w w' := by
  obtain ⟨vs, vr, hE⟩ := (errs2 hL ⟨_, by repeat (first | exact List.Mem.head _ | apply List.Mem.tail)⟩ ⟨_, by repeat (first | exact List.Mem.head _ | apply List.Mem.tail)⟩)
  obtain ⟨x, hx, C0⟩ := number_nat a0 16 16 rfl (by decide) (by decide) (fit64 w0).1 (fit64 w0).2
  exact cgone_walk a0 a1 x hx (Lib.hid C0) w vs vr hE
end Go.Proofs.YtedidopkemjgeaaDoor
namespace Go.Proofs.YtedidopkemjgeaaDoor
open Go.ChangeShapes Go.WideShapes Go.ChangeAt Go.RowKit
set_option linter.unusedVariables false
set_option linter.unusedSimpArgs false
theorem ways_sub {a b : Shp} {th : Nat → Bool} {vr_ : Nat → Int} {W : Nat → Nat → Value} {th2 : Nat → Bool} {vr2 : Nat → Int} {E : List EW} (xs : List Int) (ok : WaysOk a b th vr_ W th2 vr2 E) : WaysOk a b th vr_ W th2 vr2 (offE xs E) := fun e he => ok e (mem_off he).1
/-- What the first finds leave. -/
def HitsAre (i : Nat) (hits : Int) (E : List EW) : Prop := (i = 0 ∧ E = [] ∧ hits = 0) ∨ (0 < i ∧ hits = (i : Int) - 1 ∧ ∃ d : EW, E = [d] ∧ d.is 2 0 0 0 1 0 = true ∧ d.ids = [0])
theorem HitsAre.next {i : Nat} {hits hits' : Int} {E E' : List EW} (h : HitsAre i hits E) (f : FindOut E E' false hits hits' 2 0 0 0 1 0 [0] 0) : HitsAre (i + 1) hits' E' := by
  rcases h with ⟨rfl, rfl, rfl⟩ | ⟨h0, rfl, d, rfl, hd, hi⟩
  · rcases f with ⟨e, he, _⟩ | ⟨_, h1, ⟨_, d, h2, h3, h4⟩ | ⟨h2, _⟩⟩
    · cases he
    · exact .inr ⟨by omega, by rw [h1]; rfl, d, h4, h2, h3⟩
    · exact absurd rfl h2
  · rcases f with ⟨e, he, _, h1, h2, _⟩ | ⟨h1, _⟩
    · exact .inr ⟨by omega, by rw [h2]; omega, d, h1, hd, hi⟩
    · have := h1 d (List.mem_singleton.2 rfl); rw [hd] at this; cases this
theorem HitsAre.len {i : Nat} {hits : Int} {E : List EW} (h : HitsAre i hits E) : E.length ≤ 1 ∧ 0 ≤ hits ∧ hits ≤ i := by
  rcases h with ⟨rfl, rfl, rfl⟩ | ⟨h0, rfl, d, rfl, hd, hi⟩
  · simp
  · simp; omega
theorem rn2 (w : World) (x y : Int) : RN (w.alloc (.cells #[.int .i64 x, .int .i64 y] 3 (0, 0))) w.heap.size 2 [x, y] := fun i hi => by
  have h2 : i = 0 ∨ i = 1 := by omega
  rcases h2 with rfl | rfl <;> simp
set_option maxRecDepth 100000 in
set_option maxHeartbeats 8000000 in
theorem chits_walk (a0 a1 a2 : Int) (x y : Nat) (hx30 : x < 30) (hy32 : y < 32) (C0 : Hid (∀ w, Calls Tryd.prog 13 #[.int .i64 a0, .int .i64 30] w fun e w' => e = .returned (.int .i64 (x : Int)) ∧ w = w')) (C1 : Hid (∀ w, Calls Tryd.prog 13 #[.int .i64 a1, .int .i64 32] w fun e w' => e = .returned (.int .i64 (y : Int)) ∧ w = w')) (w : World) (vs vr : Value) (hE : ErrsAt vs vr w) :
    Calls Tryd.prog 4 #[.int .i64 a0, .int .i64 a1, .int .i64 a2] w fun e w' => e = .returned (.bool true) ∧ Below w.heap.size w w' := by
  have HE := Lib.hid hE
  clear hE
  have HXY := Lib.hid (And.intro hx30 hy32)
  have x0 : (0 : Int) ≤ x := by omega
  have x1 : (x : Int) < 30 := by omega
  clear hx30 hy32
  go_enter Tryd.func4, Tryd.ntmps4
  go_upto_region 4 with (first
    | (go_at_call 12; (with_reducible refine (cfirst_is vs vr _ HE.out).mono ?_); rintro e w1 ⟨rfl, hb1⟩; have HB1 := Lib.hid hb1; clear hb1))
  have HL3 : Hid (∀ i, i < 3 → (w1.alloc (.cells #[.int .i64 0, .int .i64 1, .int .i64 1, .int .i64 1, .int .i64 2, .int .i64 1] 3 (0, 0))).cell? ⟨w1.heap.size, 2 * i, none⟩ = some (.int .i64 i) ∧ (w1.alloc (.cells #[.int .i64 0, .int .i64 1, .int .i64 1, .int .i64 1, .int .i64 2, .int .i64 1] 3 (0, 0))).cell? ⟨w1.heap.size, 2 * i + 1, none⟩ = some (.int .i64 1)) := Lib.hid (fun i hi => by
    have h3 : i = 0 ∨ i = 1 ∨ i = 2 := by omega
    rcases h3 with rfl | rfl | rfl <;> exact ⟨by simp, by simp⟩)
  have HL2 : Hid (w1.heap.size < (w1.alloc (.cells #[.int .i64 0, .int .i64 1, .int .i64 1, .int .i64 1, .int .i64 2, .int .i64 1] 3 (0, 0))).heap.size) := Lib.hid (by simp)
  have HE1 := Lib.hid (HE.out.below HB1.out)
  go_upto_region 6 with (first
    | (go_at_call 14; (with_reducible refine (made10_is 3 6 w1.heap.size (by decide) (Lib.hid (by decide)) vs vr _ (HE1.out.below ((Below.refl _ _).alloc (Nat.le_refl _) _)) HL2.out HL3).mono ?_); rintro e w2 ⟨S, a, b, W, W2, rfl, hs, hpg, hn⟩; have H1 := Lib.hid hs; have HPG := Lib.hid hpg.out; have HN := Lib.hid hn.out; clear hs hpg hn)
    | (go_at_call 15; (with_reducible refine (cnew_ok 8 (by decide) (by decide) _).mono ?_); rintro e w4 ⟨cb, rfl, hc, hb⟩; have HC3 := Lib.hid hc; have HB3 := Lib.hid hb; clear hc hb))
  obtain ⟨w3, hw3⟩ : ∃ w3, w3 = w2.alloc (.cells #[.int .i64 2, .int .i64 0, .int .i64 0, .int .i64 0, .int .u32 1] 29 (0, 0)) := ⟨_, rfl⟩
  rw [← hw3] at HC3 HB3
  have H3 : Hid (SV w w3 S a b (upd (fun _ => false) 0 true) (fun _ => 0) W (ltB 3) (fun _ => 0) W2) := Lib.hid (by rw [hw3]; exact ((H1.out.over ((Below.refl _ _).alloc (Nat.le_refl _) _)).over HB1.out).step ((Below.refl _ _).alloc (Nat.le_refl _) _))
  have HK3 : Hid (KeyC w3 w2.heap.size 2 0 0 0 1) := Lib.hid (by rw [hw3]; exact KeyC.new _ _ _ _ _ _ _)
  obtain ⟨N, hN⟩ : ∃ N, w3.heap.size = N := ⟨_, rfl⟩
  have H4 : Hid (CV w w4 S a b N cb 8 (upd (fun _ => false) 0 true) (fun _ => 0) W (ltB 3) (fun _ => 0) W2 0 (.slice none 0 0) []) := Lib.hid (by rw [← hN]; exact CV.new H3.out HC3.out HB3.out)
  have HK4 := Lib.hid (HK3.out.below HB3.out)
  obtain ⟨kb, hkb⟩ : ∃ kb, Hid (w2.heap.size = kb) := ⟨_, Lib.hid rfl⟩
  rw [hkb.out] at HK3 HK4 ⊢
  have HO4 : Hid (OutC cb (.slice none 0 0) kb) := Lib.hid ⟨by have := HK3.out.lt; have := H4.out.ca.nb; omega, by simp [Value.ownBlock]⟩
  have HAB : Hid (0 < a.n ∧ 0 < b.n) := Lib.hid (by have := HN.out; omega)
  clear hw3 hN hkb H1 H3 HC3 HB3 HK3 HL2 HL3 HE1 HB1
  go_upto_region 11 with (first
    | (go_at_call 13; (with_reducible refine (C0.out _).mono ?_); rintro e w9 ⟨rfl, rfl⟩)
    | (go_at_call 13; (with_reducible refine (C1.out _).mono ?_); rintro e w9 ⟨rfl, rfl⟩))
  obtain ⟨A, hA⟩ : ∃ A : Nat, Hid (x + 1 = A) := ⟨_, Lib.hid rfl⟩
  rw [show ((x : Int) + 1) = (A : Int) by have := hA.out; omega]
  have HA1 : Hid (1 ≤ A ∧ A ≤ 30) := Lib.hid (by have := hA.out; have := HXY.out; omega)
  clear x0 x1
  have HWk : Hid (∀ ad : Nat, ad < 32 → Way a b (upd (fun _ => false) 0 true) (fun _ => 0) W (ltB 3) (fun _ => 0) 2 0 0 0 1 5 ((ad : Nat) : Int) false [0] ((0 : Nat) : Int) ((ad : Nat) : Int) false 0) := Lib.hid (fun ad had => way_pg HPG.out (by decide) (by decide) HAB.out.1 HAB.out.2 had (by omega))
  go_loopw [12] (fun z wr => ∃ (i : Nat) (hits : Int) (v : Value) (E : List EW), i ≤ A ∧ z = .int .i64 i ∧ (CV w wr S a b N cb 8 (upd (fun _ => false) 0 true) (fun _ => 0) W (ltB 3) (fun _ => 0) W2 hits v E) ∧ KeyC wr kb 2 0 0 0 1 ∧ OutC cb v kb ∧ HitsAre i hits E) (fun z _ => 40 - (intOf z).toNat)
  case atStart => exact ⟨0, 0, _, [], by omega, rfl, H4.out, HK4.out, HO4.out, .inl ⟨rfl, rfl, rfl⟩⟩
  case round =>
    obtain ⟨i, hits, v, E, hi, rfl, hc, hk, ho, hh⟩ := hrel
    have HC := Lib.hid hc
    have HK := Lib.hid hk
    have HO := Lib.hid ho
    have HH := Lib.hid hh
    have HL := Lib.hid hh.len
    have i0 : (0 : Int) ≤ i := by omega
    have i30 : (i : Int) ≤ 30 := by have := HA1.out; omega
    clear hc hk ho hh
    by_cases hlt : i < A
    · have i1 : (i : Int) < A := by omega
      have y0 : (0 : Int) ≤ y := by omega
      have y1 : (y : Int) < 32 := by have := HXY.out; omega
      obtain ⟨ad, had⟩ : ∃ ad : Nat, Hid ((i + y) % 32 = ad) := ⟨_, Lib.hid rfl⟩
      have HAD : Hid (ad < 32) := Lib.hid (by rw [← had.out]; exact Nat.mod_lt _ (by decide))
      have ead : Int.tmod ((i : Int) + y) 32 = ad := by rw [Int.tmod_eq_emod_of_nonneg (by omega)]; have := had.out; omega
      have ad0 : (0 : Int) ≤ ad := by omega
      have ad1 : (ad : Int) < 4294967296 := by have := HAD.out; omega
      have q0 := HK.out.c0
      have q1 := HK.out.c1
      have q2 := HK.out.c2
      have q3 := HK.out.c3
      have q4 := HK.out.c4
      have HS0 : Hid ((ad : Int) / 32 = 0) := Lib.hid (by have := HAD.out; omega)
      have HCF := Lib.hid (cvfind 2 0 0 0 1 ad (by omega) [0] _ ad false 0 false (Lib.hid (by have := HL.out; omega)) (Lib.hid (full8 (by have := HL.out; omega))) (Lib.hid (by have := HL.out; have := HA1.out; omega)) (Lib.hid (HWk.out ad HAD.out)) _ HC.out)
      go_wp2_with (first
        | (go_at_call 16; (with_reducible refine HCF.out.mono ?_); rintro e w10 ⟨rfl, h10, v10, E10, hm, ho, hk, hv⟩; have H10 := Lib.hid hm; have HK10 := Lib.hid (HK.out.keepB hk HO.out); have HO10 := Lib.hid (HO.out.next HK.out.lt hv); rw [HS0.out] at ho; have HH10 := Lib.hid (HH.out.next ho); clear HCF hm ho hk hv q0 q1 q2 q3 q4))
      go_roundw
      case rel => exact ⟨i + 1, h10, v10, E10, by omega, by go_num, H10.out.below ((Below.refl _ _).alloc (Nat.le_refl _) _), HK10.out.below ((Below.refl _ _).alloc (Nat.le_refl _) _), HO10.out, HH10.out⟩
      case measure => simp [intOf]; omega
    · obtain rfl : i = A := by omega
      obtain ⟨d, rfl, rfl, hd, hids⟩ : ∃ d : EW, hits = (i : Int) - 1 ∧ E = [d] ∧ d.is 2 0 0 0 1 0 = true ∧ d.ids = [0] := by
        rcases HH.out with ⟨h0, _⟩ | ⟨_, h1, d, h2, h3, h4⟩
        · have := HA1.out; omega
        · exact ⟨d, h1, h2, h3, h4⟩
      have HDI := Lib.hid hids
      have i1 : (1 : Int) ≤ i := by have := HA1.out; omega
      have hii : ¬ (i : Int) < i := by omega
      have HOff : Hid (offE [9, 10] [d] = [d] ∧ offE [3, 0] [d] = []) := Lib.hid (by unfold offE; simp [EW.on, hids])
      have HIds : Hid (∀ (E : List EW), (E = [d] ∨ E = []) → E.length ≤ 64 ∧ ∀ e, e ∈ E → e.ids.length ≤ 1000) := Lib.hid (fun E hE => by
        rcases hE with rfl | rfl
        · exact ⟨by simp, fun e he => by simp at he; subst he; simp [hids]⟩
        · exact ⟨by simp, fun e he => by cases he⟩)
      obtain ⟨hits, hhits⟩ : ∃ h, Hid (h = (i : Int) - 1) := ⟨_, Lib.hid rfl⟩
      rw [← hhits.out] at HC HH HL
      have hh1 : (i : Int) - 1 = hits := hhits.out.symm
      clear hd hids
      go_upto_region 18 with (first
        | (go_at_call 23; (with_reducible refine (chits_is _ HC.out).mono ?_); rintro e w8 ⟨rfl, rfl⟩)
        | (go_at_call 22; (with_reducible refine (clen_is 1 (Lib.hid rfl) _ HC.out).mono ?_); rintro e w8 ⟨rfl, rfl⟩))
      have HCa := Lib.hid (fun o => HC.out.below ((Below.refl _ _).alloc (Nat.le_refl _) _ : Below wr.heap.size wr (wr.alloc o)))
      have HGn : Hid (v.ownBlock ≠ some wr.heap.size) := Lib.hid (fun e => by have := (HC.out.ca.row.lt _ e).2; omega)
      go_upto_region 19 with (first
        | (go_at_call 20; (refine (cforget_is wr.heap.size 2 [9, 10] 2 (Lib.hid rfl) (by decide) (HIds.out _ (.inl rfl)).1 (Lib.hid (HIds.out _ (.inl rfl)).2) _ (HCa.out _).ca (HCa.out _).nN (by simp) HGn.out (Lib.hid (rn2 wr 9 10))).mono ?_); rintro e w11 ⟨rfl, v11, hc, hb, hk, hv⟩; have hkk := (HK.out.below ((Below.refl _ _).alloc (Nat.le_refl _) _ : Below wr.heap.size wr (wr.alloc (.cells #[.int .i64 9, .int .i64 10] 3 (0, 0))))).keepB hk HO.out; have HK11 := Lib.hid hkk; rw [HOff.out.1] at hc; have H11 := Lib.hid ((HCa.out _).found hb hc (HC.out.ok)); have HO11 : Hid (OutC cb v11 kb) := Lib.hid ⟨HO.out.1, by rw [hv]; exact HO.out.2⟩; clear hc hb hk hv hkk))
      go_upto_region 21 with (first
        | (go_at_call 22; (with_reducible refine (clen_is 1 (Lib.hid rfl) _ H11.out).mono ?_); rintro e w8 ⟨rfl, rfl⟩))
      clear HC HK HO HCa HGn
      go_upto_if 79 with fail
      go_cut [] (fun wx => ∃ (v : Value), (CV w wx S a b N cb 8 (upd (fun _ => false) 0 true) (fun _ => 0) W (ltB 3) (fun _ => 0) W2 hits v []) ∧ KeyC wx kb 2 0 0 0 1 ∧ OutC cb v kb)
      case first =>
        obtain ⟨t, ht⟩ : ∃ t, (a2.tmod 2 == 0) = t := ⟨_, rfl⟩
        have HGn : Hid (v11.ownBlock ≠ some w11.heap.size) := Lib.hid (fun e => by have := (H11.out.ca.row.lt _ e).2; omega)
        have HCa := Lib.hid (fun o => H11.out.below ((Below.refl _ _).alloc (Nat.le_refl _) _ : Below w11.heap.size w11 (w11.alloc o)))
        cases t
        · have c2 := H11.out.ca.c2
          have fr := H11.out.ca.fr 2
          go_wp2_with (first
            | (go_at_call 21; (with_reducible refine (cclear_is cb v11 _ c2 fr).mono ?_); rintro e w12 ⟨rfl, hw⟩; have HW := Lib.hid hw; clear hw c2 fr))
          go_meet
          have hne : kb ≠ cb := HO11.out.1
          refine ⟨.slice none 0 0, ?_, ?_, HO11.out.1, by simp [Value.ownBlock]⟩
          · rw [HW.out]
            exact ⟨H11.out.sv.put1 H11.out.lo cb 2 H11.out.ca.nb H11.out.n0 _, H11.out.lo, H11.out.n0, by simpa using H11.out.nN, H11.out.ca.clearedX, ways_nil⟩
          · rw [HW.out]
            exact HK11.out.same' (by simp) (set_heap _ _ _ _ _ hne)
        · have q1 := HK11.out.c1
          go_wp2_with (first
            | (go_at_call 20; (refine (cforget_is w11.heap.size 2 [3, 0] 2 (Lib.hid rfl) (by decide) (HIds.out _ (.inl rfl)).1 (Lib.hid (HIds.out _ (.inl rfl)).2) _ (HCa.out _).ca (HCa.out _).nN (by simp) HGn.out (Lib.hid (rn2 w11 3 0))).mono ?_); rintro e w12 ⟨rfl, v12, hc, hb, hk, hv⟩; have hkk := (HK11.out.below ((Below.refl _ _).alloc (Nat.le_refl _) _ : Below w11.heap.size w11 (w11.alloc (.cells #[.int .i64 3, .int .i64 0] 3 (0, 0))))).keepB hk HO11.out; have HK12 := Lib.hid hkk; rw [HOff.out.2] at hc; have H12 := Lib.hid ((HCa.out _).found hb hc ways_nil); have HO12 : Hid (OutC cb v12 kb) := Lib.hid ⟨HO11.out.1, by rw [hv]; exact HO11.out.2⟩; clear hc hb hk hv hkk q1))
          go_meet
          exact ⟨v12, H12.out, HK12.out, HO12.out⟩
      case rest =>
        obtain ⟨v, hm, hk, ho⟩ := hcut
        have HC := Lib.hid hm
        have HK := Lib.hid hk
        have HO := Lib.hid ho
        clear hm hk ho H11 HK11 HO11
        have y0 : (0 : Int) ≤ y := by omega
        have y1 : (y : Int) < 4294967296 := by have := HXY.out; omega
        have q0 := HK.out.c0
        have q1 := HK.out.c1
        have q2 := HK.out.c2
        have q3 := HK.out.c3
        have q4 := HK.out.c4
        have HCF := Lib.hid (cvfind 2 0 0 0 1 y (by omega) [0] _ y false 0 false (Lib.hid (by decide)) (Lib.hid (by decide)) (Lib.hid (by have := hhits.out; have := HA1.out; omega)) (Lib.hid (HWk.out y HXY.out.2)) _ HC.out)
        go_upto_region 25 with (first
          | (go_at_call 16; (with_reducible refine HCF.out.mono ?_); rintro e w10 ⟨rfl, h10, v10, E10, hm, ho, hk, hv⟩; have H10 := Lib.hid hm; have HO10 := Lib.hid ho; clear HCF hm ho hk hv q0 q1 q2 q3 q4))
        obtain ⟨rfl, d, rfl⟩ : h10 = hits ∧ ∃ d : EW, E10 = [d] := by
          rcases HO10.out with ⟨e, he, _⟩ | ⟨_, h1, ⟨_, d, _, _, h4⟩ | ⟨h2, _⟩⟩
          · cases he
          · exact ⟨h1, d, h4⟩
          · exact absurd rfl h2
        go_wp2_with (first
          | (go_at_call 23; (with_reducible refine (chits_is _ H10.out).mono ?_); rintro e w8 ⟨rfl, rfl⟩)
          | (go_at_call 22; (with_reducible refine (clen_is 1 (Lib.hid rfl) _ H10.out).mono ?_); rintro e w8 ⟨rfl, rfl⟩))
        go_ret
        exact ⟨by simp, H10.out.sv.bel⟩
theorem walk_CacheHits (a0 a1 a2 : Int) (w : World) (w0 : (Lit.int .i64 a0).wf = true) (w1 : (Lit.int .i64 a1).wf = true) (w2 : (Lit.int .i64 a2).wf = true) (hL : laidMetH Tryd.prog Rows.cacheHitsRow.laid w) :
    Calls Tryd.prog 4 #[.int .i64 a0, .int .i64 a1, .int .i64 a2] w fun e w' => e = .returned (.bool true) ∧ Below w.heap.size w w' := by
  obtain ⟨vs, vr, hE⟩ := (errs2 hL ⟨_, by repeat (first | exact List.Mem.head _ | apply List.Mem.tail)⟩ ⟨_, by repeat (first | exact List.Mem.head _ | apply List.Mem.tail)⟩)
  obtain ⟨x, hx, C0⟩ := number_nat a0 30 30 rfl (by decide) (by decide) (fit64 w0).1 (fit64 w0).2
  obtain ⟨y, hy, C1⟩ := number_nat a1 32 32 rfl (by decide) (by decide) (fit64 w1).1 (fit64 w1).2
  exact chits_walk a0 a1 a2 x y hx hy (Lib.hid C0) (Lib.hid C1) w vs vr hE
end Go.Proofs.YtedidopkemjgeaaDoor
