/-
  Cr, Cg, Ch, Ce as one.
-/
import Derived.Test.YtedidopkemjgeaaDoorP11
import Derived.Test.YtedidopkemjgeaaDoorP10
import Derived.Test.YtedidopkemjgeaaDoorP12
namespace Go.Proofs.YtedidopkemjgeaaDoor
open Go.ChangeShapes Go.WideShapes Go.ChangeAt Go.RowKit
set_option linter.unusedVariables false
set_option linter.unusedSimpArgs false
theorem FindOut.more {E E' : List EW} {hits hits' k0 k1 k2 k3 k4 sh f : Int} {ids : List Int} (h : FindOut E E' false hits hits' k0 k1 k2 k3 k4 sh ids f) : E'.length ≤ E.length + 1 ∧ hits ≤ hits' ∧ hits' ≤ hits + 1 := by
  rcases h with ⟨e, _, _, rfl, rfl, _⟩ | ⟨_, rfl, ⟨_, d, _, _, rfl⟩ | ⟨_, rfl⟩⟩
  · omega
  · simp [stay]; omega
  · omega
/-- The three keys of this law, in their boxes. -/
structure Box3 (w : World) (cb : Nat) (v : Value) (bk br bp : Nat) : Prop where
  k : KeyC w bk 2 0 0 0 1
  r : KeyC w br 2 0 0 1 1
  p : KeyC w bp 3 0 0 0 0
  ok : OutC cb v bk
  or : OutC cb v br
  op : OutC cb v bp
theorem Box3.next {w w' : World} {cb : Nat} {v v' : Value} {bk br bp : Nat} (h : Box3 w cb v bk br bp) (hk : KeepB w w' cb v) (hv : v'.ownBlock = v.ownBlock ∨ ∃ g, w.heap.size ≤ g ∧ v'.ownBlock = some g) : Box3 w' cb v' bk br bp :=
  ⟨h.k.keepB hk h.ok, h.r.keepB hk h.or, h.p.keepB hk h.op, h.ok.next h.k.lt hv, h.or.next h.r.lt hv, h.op.next h.p.lt hv⟩
theorem Box3.below {w w' : World} {cb : Nat} {v : Value} {bk br bp : Nat} (h : Box3 w cb v bk br bp) (hb : Below w.heap.size w w') : Box3 w' cb v bk br bp :=
  ⟨h.k.below hb, h.r.below hb, h.p.below hb, h.ok, h.or, h.op⟩
theorem full8 {n : Nat} (h : n ≤ 7) : ((n : Int) == 8) = false := by simp; omega
set_option maxRecDepth 100000 in
set_option maxHeartbeats 8000000 in
theorem croots_walk (a0 : Int) (a1 : Bool) (hu0 : 0 ≤ a0) (hu1 : a0 ≤ 4294967295) (w : World) (vs vr : Value) (hE : ErrsAt vs vr w) :
    Calls Tryd.prog 6 #[.int .u32 a0, .bool a1] w fun e w' => e = .returned (.bool true) ∧ Below w.heap.size w w' := by
  have HE := Lib.hid hE
  obtain ⟨ad, had⟩ : ∃ ad : Nat, (ad : Int) = a0 % 32 := ⟨(a0 % 32).toNat, by omega⟩
  have hadl : ad < 32 := by omega
  have HAD := Lib.hid hadl
  have EAD : Hid (a0.tmod 32 = ad) := Lib.hid (by rw [Int.tmod_eq_emod_of_nonneg hu0]; exact had.symm)
  clear hE had hu0 hu1 hadl
  go_enter Tryd.func6, Tryd.ntmps6
  go_upto_region 6 with (first
    | (go_at_call 12; (with_reducible refine (cfirst_is vs vr _ HE.out).mono ?_); rintro e w1 ⟨rfl, hb1⟩; have HB1 := Lib.hid hb1; clear hb1)
    | (go_at_call 24; (with_reducible refine (snew_ok 1 2 1 2 (Lib.hid rfl) (Lib.hid rfl) (by decide) (by decide) (by decide) (by decide) _).mono ?_); rintro e w2 ⟨S, a, b, rfl, hs, hn, hb⟩; have HN := Lib.hid hn.out; have H2 : Hid (SV w w2 S a b _ _ _ _ _ _) := Lib.hid ⟨HB1.out.trans (hb.mono HB1.out.size), by have := hn.out.2.2; have := HB1.out.size; omega, hs⟩; clear hs hb hn)
    | (go_at_call 15; (with_reducible refine (cnew_ok 8 (by decide) (by decide) _).mono ?_); rintro e w3 ⟨cb, rfl, hc, hb⟩; have H3 := Lib.hid (CV.new H2.out hc hb); clear hc hb))
  obtain ⟨N, hN⟩ : ∃ N, w2.heap.size = N := ⟨_, rfl⟩
  rw [hN] at H3
  have HAB : Hid (0 < a.n ∧ 0 < b.n) := Lib.hid (by have := HN.out; omega)
  clear hN H2 HB1
  have s1 := H3.out.sv.st.s1
  go_upto_region 9 with (first
    | (go_at_call 26; (with_reducible refine (pmake_at 0 (some ⟨w3.heap.size, 0, none⟩) 1 1 [1] (Lib.hid rfl) (by decide) 0 (Lib.hid rfl) HAB.out.2 (Lib.hid (by decide)) (Lib.hid (by intro i hi; omega)) 0 (Lib.hid rfl) _ (H3.out.sv.st.pg.below ((Below.refl _ _).alloc (Nat.le_refl _) _)) (srcu1 w3 1 _ b.B b.G H3.out.sv.st.pg.ar.lt.2 (H3.out.sv.st.pg.row.lt b.G rfl).2)).mono ?_); rintro e w4 ⟨rfl, hP, hb⟩; have H4 := Lib.hid ((H3.out.below ((Below.refl _ _).alloc (Nat.le_refl _) _)).page hP hb ways_nil); clear hP hb s1))
  obtain ⟨W2, hW2⟩ : ∃ W2, W2 = fresh (fun _ _ => 0) 0 [1] := ⟨_, rfl⟩
  rw [← hW2] at H4
  have HTA : Hid ((upd (fun _ => false) 0 true) 0 = true) := Lib.hid rfl
  clear hW2 H3
  refine wp_region_noPanic ?_
  refine wp_region_held_drew (S := fun w' => World.cell? w' ⟨S, 0, none⟩ = some (.pointer (some ⟨a.P, 0, none⟩))) (by kernel_rfl) (H4.out.below (Below.refl w4.heap.size w4).drew).sv.st.s0 (fun hHeld => ?_)
  refine wpAnyH_take (i := 0) (v := ?_) (by rfl) (by kernel_rfl) (by kernel_rfl) (by kernel_rfl) (fun _ _ _ h => h) (Or.inl ⟨by kernel_rfl, ?_⟩) (by assumption) ?_; rotate_left 1; (focus (intro w hSw; (try dsimp only at hSw); simp only [List.getElem_toArray, List.getElem_cons_succ, List.getElem_cons_zero]; all_goals go_simp; all_goals (try with_reducible rfl))); (try simp only [Act.put, List.getElem_toArray, List.getElem_cons_succ, List.getElem_cons_zero, List.setIfInBounds_toArray, List.set_cons_zero, List.set_cons_succ])
  refine wpAnyH_take (i := 1) (v := ?_) (by rfl) (by kernel_rfl) (by kernel_rfl) (by kernel_rfl) (fun _ _ _ h => h) (Or.inl ⟨by kernel_rfl, ?_⟩) (by assumption) ?_; rotate_left 1; (focus (intro w hSw; (try dsimp only at hSw); simp only [List.getElem_toArray, List.getElem_cons_succ, List.getElem_cons_zero]; all_goals go_simp; all_goals (try with_reducible rfl))); (try simp only [Act.put, List.getElem_toArray, List.getElem_cons_succ, List.getElem_cons_zero, List.setIfInBounds_toArray, List.set_cons_zero, List.set_cons_succ])
  refine wpAnyH_take (i := 2) (v := ?_) (by rfl) (by kernel_rfl) (by kernel_rfl) (by kernel_rfl) (fun _ _ _ h => h) (Or.inl ⟨by kernel_rfl, ?_⟩) (by assumption) ?_; rotate_left 1; (focus (intro w hSw; (try dsimp only at hSw); simp only [List.getElem_toArray, List.getElem_cons_succ, List.getElem_cons_zero]; all_goals go_simp; all_goals (try with_reducible rfl))); (try simp only [Act.put, List.getElem_toArray, List.getElem_cons_succ, List.getElem_cons_zero, List.setIfInBounds_toArray, List.set_cons_zero, List.set_cons_succ])
  refine wpAnyH_take (i := 3) (v := ?_) (by rfl) (by kernel_rfl) (by kernel_rfl) (by kernel_rfl) (fun _ _ _ h => h) (Or.inl ⟨by kernel_rfl, ?_⟩) (by assumption) ?_; rotate_left 1; (focus (intro w hSw; (try dsimp only at hSw); simp only [List.getElem_toArray, List.getElem_cons_succ, List.getElem_cons_zero]; all_goals go_simp; all_goals (try with_reducible rfl))); (try simp only [Act.put, List.getElem_toArray, List.getElem_cons_succ, List.getElem_cons_zero, List.setIfInBounds_toArray, List.set_cons_zero, List.set_cons_succ])
  refine wpAnyH_take (i := 4) (v := ?_) (by rfl) (by kernel_rfl) (by kernel_rfl) (by kernel_rfl) (fun _ _ _ h => h) (Or.inl ⟨by kernel_rfl, ?_⟩) (by assumption) ?_; rotate_left 1; (focus (intro w hSw; (try dsimp only at hSw); simp only [List.getElem_toArray, List.getElem_cons_succ, List.getElem_cons_zero]; all_goals go_simp; all_goals (try with_reducible rfl))); (try simp only [Act.put, List.getElem_toArray, List.getElem_cons_succ, List.getElem_cons_zero, List.setIfInBounds_toArray, List.set_cons_zero, List.set_cons_succ])
  refine wpAnyH_ready (rs := [5]) (by kernel_rfl) (by simp) ?_; refine AllReadyH.cons (by rfl) (fun K hK => ?_) AllReadyH.nil; rw [if_pos (by kernel_rfl)]; simp only [List.getElem_toArray, List.getElem_cons_succ, List.getElem_cons_zero]
  have HD := Lib.hid (H4.out.below (Below.refl w4.heap.size w4).drew)
  go_wp2_with (first
    | (go_at_call 27; (with_reducible refine (spagekey_in 0 0 (Lib.hid rfl) HAB.out.2 HTA 0 (Lib.hid rfl) _ HD.out.sv.st).mono ?_); rintro e w5 ⟨rfl, hb⟩; have H5 := Lib.hid (HD.out.below hb); clear hb))
  refine hK.out _ _ H5.out.sv.st.s0 (fun hHeld => ?_)
  clear hK K
  (try simp only [Act.put, List.getElem_toArray, List.getElem_cons_succ, List.getElem_cons_zero, List.setIfInBounds_toArray, List.set_cons_zero, List.set_cons_succ])
  refine wpAnyH_ready (rs := [6]) (by kernel_rfl) (by simp) ?_; refine AllReadyH.cons (by rfl) (fun K hK => ?_) AllReadyH.nil; rw [if_pos (by kernel_rfl)]; simp only [List.getElem_toArray, List.getElem_cons_succ, List.getElem_cons_zero]
  go_wp2_with fail
  have H5a := Lib.hid (H5.out.below ((Below.refl _ _).alloc (Nat.le_refl _) _ : Below w5.heap.size w5 (w5.alloc (.cells #[.int .i64 3, .int .i64 0, .int .i64 0, .int .i64 0, .int .u32 0] 29 (0, 0)))))
  have HSrc := Lib.hid (srcK1 w5 3 0 0 0 0 29 a.B a.G H5.out.sv.st.lo.n.2.2.1 H5.out.sv.st.lo.n.2.2.2)
  have HKRi : Hid (∀ x, x < 1 → KRight (kkOf 3 0 0 0 0) x) := Lib.hid (fun x _ => by show rightB 3 0 0 0 0 = true; decide)
  refine hK.out _ _ H5a.out.sv.st.s0 (fun hHeld => ?_)
  clear hK K
  (try simp only [Act.put, List.getElem_toArray, List.getElem_cons_succ, List.getElem_cons_zero, List.setIfInBounds_toArray, List.set_cons_zero, List.set_cons_succ])
  refine wpAnyH_ready (rs := [7]) (by kernel_rfl) (by simp) ?_; refine AllReadyH.cons (by rfl) (fun K hK => ?_) AllReadyH.nil; rw [if_pos (by kernel_rfl)]; simp only [List.getElem_toArray, List.getElem_cons_succ, List.getElem_cons_zero]
  go_wp2_with (first
    | (go_at_call 25; (with_reducible refine (nmake_at 0 vs vr (some ⟨w5.heap.size, 0, none⟩) 1 1 (kkOf 3 0 0 0 0) (by decide) HKRi 0 (Lib.hid rfl) HAB.out.1 (Lib.hid (by decide)) (Lib.hid (by intro i hi; omega)) 0 (Lib.hid rfl) _ (HE.out.below H5a.out.sv.bel) H5a.out.sv.st.nd HSrc.out).mono ?_); rintro e w6 ⟨rfl, hM, hb⟩; have H6 := Lib.hid (H5a.out.node hM hb ways_nil); clear hM hb))
  refine hK.out _ _ H6.out.sv.st.s0 (fun hHeld => ?_)
  clear hK K
  (try simp only [Act.put, List.getElem_toArray, List.getElem_cons_succ, List.getElem_cons_zero, List.setIfInBounds_toArray, List.set_cons_zero, List.set_cons_succ])
  refine wpAnyH_done (by kernel_rfl) ?_ _
  refine NoPanic.normal ?_
  obtain ⟨W, hW⟩ : ∃ W, W = freshV (fun _ b => zc b) 0 (kcs (kkOf 3 0 0 0 0) 1) := ⟨_, rfl⟩
  have HKW : Hid (KAt (W 0) 0 3 0 0 0 0) := Lib.hid (by rw [hW]; exact freshV_key _ 0 (kkOf 3 0 0 0 0) 1 0 (by decide))
  rw [← hW] at H6
  clear hW H4 HD H5 H5a HSrc HKRi
  go_upto_region 15 with (first
    | (go_at_call 28; (with_reducible refine (snodekey_in 0 1 0 (Lib.hid rfl) (by decide) (by decide) HAB.out.1 HTA 0 (Lib.hid rfl) _ H6.out.sv.st).mono ?_); rintro e w7 ⟨rfl, hb⟩; have H7 := Lib.hid (H6.out.below hb); have H7a := Lib.hid (fun o o' => (H7.out.below ((Below.refl _ _).alloc (Nat.le_refl _) _ : Below w7.heap.size w7 (w7.alloc o))).below ((Below.refl _ _).alloc (Nat.le_refl _) _ : Below _ _ ((w7.alloc o).alloc o'))); clear hb)
    | (go_at_call 27; (with_reducible refine (spagekey_in 0 0 (Lib.hid rfl) HAB.out.2 HTA 0 (Lib.hid rfl) _ (H7a.out _ _).sv.st).mono ?_); rintro e w8 ⟨rfl, hb⟩; have HB8 := Lib.hid hb; clear hb))
  rw [EAD.out]
  obtain ⟨w9, hw9⟩ : ∃ w9, w9 = w8.alloc (.cells #[.int .i64 3, .int .i64 0, .int .i64 0, .int .i64 0, .int .u32 0] 29 (0, 0)) := ⟨_, rfl⟩
  rw [← hw9]
  have H8 := Lib.hid ((H7a.out (.cells #[.int .i64 2, .int .i64 0, .int .i64 0, .int .i64 0, .int .u32 1] 29 (0, 0)) (.cells #[.int .i64 2, .int .i64 0, .int .i64 0, .int .i64 1, .int .u32 1] 29 (0, 0))).below HB8.out)
  have H9 : Hid (CV w w9 S a b N cb 8 (upd (fun _ => false) 0 true) (fun _ => 0) W (upd (fun _ => false) 0 true) (fun _ => 0) W2 0 (.slice none 0 0) []) := Lib.hid (by rw [hw9]; exact H8.out.below ((Below.refl _ _).alloc (Nat.le_refl _) _))
  obtain ⟨bk, hbk⟩ : ∃ bk, w7.heap.size = bk := ⟨_, rfl⟩
  obtain ⟨bp, hbp⟩ : ∃ bp, w8.heap.size = bp := ⟨_, rfl⟩
  have HX9 : Hid (Box3 w9 cb (.slice none 0 0) bk (bk + 1) bp) := Lib.hid (by
    have k1 := ((KeyC.new w7 2 0 0 0 1 29).below ((Below.refl _ _).alloc (Nat.le_refl _) _ : Below _ _ (World.alloc _ (.cells #[.int .i64 2, .int .i64 0, .int .i64 0, .int .i64 1, .int .u32 1] 29 (0, 0))))).below HB8.out
    have k2 := (KeyC.new (w7.alloc (.cells #[.int .i64 2, .int .i64 0, .int .i64 0, .int .i64 0, .int .u32 1] 29 (0, 0))) 2 0 0 1 1 29)
    rw [show (w7.alloc (.cells #[.int .i64 2, .int .i64 0, .int .i64 0, .int .i64 0, .int .u32 1] 29 (0, 0))).heap.size = w7.heap.size + 1 by simp] at k2
    have k2' := k2.below HB8.out
    have hcl := H7.out.ca.cl
    have hs8 : w7.heap.size + 1 + 1 ≤ w8.heap.size := by have := HB8.out.size; simpa using this
    rw [← hbk, ← hbp, hw9]
    exact ⟨k1.below ((Below.refl _ _).alloc (Nat.le_refl _) _), k2'.below ((Below.refl _ _).alloc (Nat.le_refl _) _), KeyC.new _ _ _ _ _ _ _, ⟨by omega, by simp [Value.ownBlock]⟩, ⟨by omega, by simp [Value.ownBlock]⟩, ⟨by omega, by simp [Value.ownBlock]⟩⟩)
  rw [hbk, hbp]
  clear hw9 hbk hbp H6 H7 H7a HB8 H8
  obtain ⟨br, hbr⟩ : ∃ br, bk + 1 = br := ⟨_, rfl⟩
  rw [hbr] at HX9 ⊢
  clear hbr
  have HLv : Hid (liveB a b (upd (fun _ => false) 0 true) (fun _ => 0) (upd (fun _ => false) 0 true) (fun _ => 0) 3 0 0 = true) := Lib.hid (by simp [liveB, thereB, upd, HAB.out.2])
  have HWk : Hid (Way a b (upd (fun _ => false) 0 true) (fun _ => 0) W (upd (fun _ => false) 0 true) (fun _ => 0) 2 0 0 0 1 5 ad false [0] ((0 : Nat) : Int) ad false 0) := Lib.hid (way_r0 (way_at 1 0 0 ad 3 0 0 0 0 rfl (by decide) (by decide) (by simp) (by decide) rfl HAB.out.1 rfl rfl (by decide) (by have := HAD.out; omega) HKW.out (.page (by decide) (by omega) HLv.out (by have := HAD.out; omega))) (by decide))
  have HWr : Hid (Way a b (upd (fun _ => false) 0 true) (fun _ => 0) W (upd (fun _ => false) 0 true) (fun _ => 0) 2 0 0 1 1 5 ad false [0] ((0 : Nat) : Int) ad true 0) := Lib.hid (way_r0 (way_at 1 0 0 ad 3 0 0 0 0 rfl (by decide) (by decide) (by simp) (by decide) rfl HAB.out.1 rfl rfl (by decide) (by have := HAD.out; omega) HKW.out (.page (by decide) (by omega) HLv.out (by have := HAD.out; omega))) (by decide))
  have HWp : Hid (Way a b (upd (fun _ => false) 0 true) (fun _ => 0) W (upd (fun _ => false) 0 true) (fun _ => 0) 3 0 0 0 0 5 ad false [] ((0 : Nat) : Int) ad false 0) := Lib.hid (way_r0 (.page (by decide) (by omega) HLv.out (by have := HAD.out; omega)) (by decide))
  go_upto_if 66 with fail
  go_cut [] (fun wx => ∃ (hits : Int) (v : Value) (E : List EW), CV w wx S a b N cb 8 (upd (fun _ => false) 0 true) (fun _ => 0) W (upd (fun _ => false) 0 true) (fun _ => 0) W2 hits v E ∧ Box3 wx cb v bk br bp ∧ E.length ≤ 1 ∧ 0 ≤ hits ∧ hits ≤ 1)
  case first =>
    cases a1
    · go_wp2_with fail
      go_meet
      exact ⟨0, _, [], H9.out, HX9.out, by simp, by decide, by decide⟩
    · have q0 := HX9.out.r.c0
      have q1 := HX9.out.r.c1
      have q2 := HX9.out.r.c2
      have q3 := HX9.out.r.c3
      have q4 := HX9.out.r.c4
      go_wp2_with (first
        | (go_at_call 16; (refine (cvfind 2 0 0 1 1 ad (by have := HAD.out; omega) [0] _ ad true 0 false (Lib.hid (by decide)) (Lib.hid (by decide)) (Lib.hid (by decide)) HWr _ H9.out).mono ?_); rintro e w10 ⟨rfl, h10, v10, E10, hm, ho, hk, hv⟩; have H10 := Lib.hid hm; have HX10 := Lib.hid (HX9.out.next hk hv); have HO10 := Lib.hid ho.more; clear hm ho hk hv q0 q1 q2 q3 q4))
      go_meet
      exact ⟨h10, v10, E10, H10.out, HX10.out, by have := HO10.out.1; simpa using this, by have := HO10.out; omega, by have := HO10.out; omega⟩
  case rest =>
    obtain ⟨hits, v, E, hm, hx, hl, h0, h1⟩ := hcut
    have HC := Lib.hid hm
    have HX := Lib.hid hx
    have HG := Lib.hid (And.intro hl (And.intro h0 h1))
    clear hm hx hl h0 h1 H9 HX9
    have q0 := HX.out.k.c0
    have q1 := HX.out.k.c1
    have q2 := HX.out.k.c2
    have q3 := HX.out.k.c3
    have q4 := HX.out.k.c4
    go_upto_region 18 with (first
      | (go_at_call 16; (refine (cvfind 2 0 0 0 1 ad (by have := HAD.out; omega) [0] _ ad false 0 false (Lib.hid (by have := HG.out; omega)) (Lib.hid (full8 (by have := HG.out; omega))) (Lib.hid (by have := HG.out; omega)) HWk _ HC.out).mono ?_); rintro e w10 ⟨rfl, h10, v10, E10, hm, ho, hk, hv⟩; have H10 := Lib.hid hm; have HX10 := Lib.hid (HX.out.next hk hv); have HO10 := Lib.hid ho.more; clear hm ho hk hv q0 q1 q2 q3 q4))
    obtain ⟨w11, hw11⟩ : ∃ w11, w11 = w10.alloc (.cells #[.int .i64 0, .int .i64 ad, .bool false] 40 (0, 0)) := ⟨_, rfl⟩
    rw [← hw11]
    obtain ⟨pa, hpa⟩ : ∃ pa, w10.heap.size = pa := ⟨_, rfl⟩
    have H11 : Hid (CV w w11 S a b N cb 8 (upd (fun _ => false) 0 true) (fun _ => 0) W (upd (fun _ => false) 0 true) (fun _ => 0) W2 h10 v10 E10) := Lib.hid (by rw [hw11]; exact H10.out.below ((Below.refl _ _).alloc (Nat.le_refl _) _))
    have HX11 : Hid (Box3 w11 cb v10 bk br bp) := Lib.hid (by rw [hw11]; exact HX10.out.below ((Below.refl _ _).alloc (Nat.le_refl _) _))
    have HA11 : Hid (PlC w11 pa 0 ad false ∧ OutC cb v10 pa) := Lib.hid (by rw [hw11, ← hpa]; exact ⟨PlC.new _ _ _ _ _, by have := H10.out.ca.cl; omega, fun e => by have := (H10.out.ca.row.lt _ e).2; omega⟩)
    have HG11 : Hid (E10.length ≤ 2 ∧ 0 ≤ h10 ∧ h10 ≤ 2) := Lib.hid (by have := HO10.out; have := HG.out; omega)
    rw [hpa]
    clear hw11 hpa H10 HX10 HO10 HC HX HG
    have q0 := HX11.out.r.c0
    have q1 := HX11.out.r.c1
    have q2 := HX11.out.r.c2
    have q3 := HX11.out.r.c3
    have q4 := HX11.out.r.c4
    go_upto_region 19 with (first
      | (go_at_call 16; (refine (cvfind 2 0 0 1 1 ad (by have := HAD.out; omega) [0] _ ad true 0 false (Lib.hid (by have := HG11.out; omega)) (Lib.hid (full8 (by have := HG11.out; omega))) (Lib.hid (by have := HG11.out; omega)) HWr _ H11.out).mono ?_); rintro e w12 ⟨rfl, h12, v12, E12, hm, ho, hk, hv⟩; have H12 := Lib.hid hm; have HX12 := Lib.hid (HX11.out.next hk hv); have HA12 := Lib.hid (And.intro (HA11.out.1.keepB hk HA11.out.2) (HA11.out.2.next HA11.out.1.lt hv)); have HO12 := Lib.hid ho.more; clear hm ho hk hv q0 q1 q2 q3 q4))
    obtain ⟨w13, hw13⟩ : ∃ w13, w13 = w12.alloc (.cells #[.int .i64 0, .int .i64 ad, .bool true] 40 (0, 0)) := ⟨_, rfl⟩
    rw [← hw13]
    obtain ⟨pb, hpb⟩ : ∃ pb, w12.heap.size = pb := ⟨_, rfl⟩
    have H13 : Hid (CV w w13 S a b N cb 8 (upd (fun _ => false) 0 true) (fun _ => 0) W (upd (fun _ => false) 0 true) (fun _ => 0) W2 h12 v12 E12) := Lib.hid (by rw [hw13]; exact H12.out.below ((Below.refl _ _).alloc (Nat.le_refl _) _))
    have HX13 : Hid (Box3 w13 cb v12 bk br bp) := Lib.hid (by rw [hw13]; exact HX12.out.below ((Below.refl _ _).alloc (Nat.le_refl _) _))
    have HA13 : Hid (PlC w13 pa 0 ad false ∧ OutC cb v12 pa) := Lib.hid (by rw [hw13]; exact ⟨HA12.out.1.below ((Below.refl _ _).alloc (Nat.le_refl _) _), HA12.out.2⟩)
    have HB13 : Hid (PlC w13 pb 0 ad true ∧ OutC cb v12 pb) := Lib.hid (by rw [hw13, ← hpb]; exact ⟨PlC.new _ _ _ _ _, by have := H12.out.ca.cl; omega, fun e => by have := (H12.out.ca.row.lt _ e).2; omega⟩)
    have HG13 : Hid (E12.length ≤ 3 ∧ 0 ≤ h12 ∧ h12 ≤ 3) := Lib.hid (by have := HO12.out; have := HG11.out; omega)
    rw [hpb]
    clear hw13 hpb H12 HX12 HO12 H11 HX11 HG11 HA11 HA12
    have q0 := HX13.out.p.c0
    have q1 := HX13.out.p.c1
    have q2 := HX13.out.p.c2
    have q3 := HX13.out.p.c3
    have q4 := HX13.out.p.c4
    go_upto_region 20 with (first
      | (go_at_call 16; (refine (cvfind 3 0 0 0 0 ad (by have := HAD.out; omega) [] _ ad false 0 false (Lib.hid (by have := HG13.out; omega)) (Lib.hid (full8 (by have := HG13.out; omega))) (Lib.hid (by have := HG13.out; omega)) HWp _ H13.out).mono ?_); rintro e w14 ⟨rfl, h14, v14, E14, hm, ho, hk, hv⟩; have H14 := Lib.hid hm; have HA14 := Lib.hid (And.intro (HA13.out.1.keepB hk HA13.out.2) (HA13.out.2.next HA13.out.1.lt hv)); have HB14 := Lib.hid (And.intro (HB13.out.1.keepB hk HB13.out.2) (HB13.out.2.next HB13.out.1.lt hv)); clear hm ho hk hv q0 q1 q2 q3 q4))
    obtain ⟨w15, hw15⟩ : ∃ w15, w15 = w14.alloc (.cells #[.int .i64 0, .int .i64 ad, .bool false] 40 (0, 0)) := ⟨_, rfl⟩
    rw [← hw15]
    obtain ⟨pd, hpd⟩ : ∃ pd, w14.heap.size = pd := ⟨_, rfl⟩
    have H15 : Hid (CV w w15 S a b N cb 8 (upd (fun _ => false) 0 true) (fun _ => 0) W (upd (fun _ => false) 0 true) (fun _ => 0) W2 h14 v14 E14) := Lib.hid (by rw [hw15]; exact H14.out.below ((Below.refl _ _).alloc (Nat.le_refl _) _))
    have HA15 : Hid (PlC w15 pa 0 ad false) := Lib.hid (by rw [hw15]; exact HA14.out.1.below ((Below.refl _ _).alloc (Nat.le_refl _) _))
    have HB15 : Hid (PlC w15 pb 0 ad true) := Lib.hid (by rw [hw15]; exact HB14.out.1.below ((Below.refl _ _).alloc (Nat.le_refl _) _))
    have HD15 : Hid (PlC w15 pd 0 ad false) := Lib.hid (by rw [hw15, ← hpd]; exact PlC.new _ _ _ _ _)
    rw [hpd]
    have x0 : (0 : Int) ≤ ad := by omega
    have x1 : (ad : Int) ≤ 31 := by have := HAD.out; omega
    have e0 := HA15.out.c0
    have e2 := HA15.out.c2
    have f0 := HB15.out.c0
    have f2 := HB15.out.c2
    have d1 := HD15.out.c1
    have d2 := HD15.out.c2
    clear hw15 hpd H14 HA14 HB14 H13 HX13 HG13 HA13 HB13
    go_wp2_with fail
    go_ret
    exact ⟨by simp, H15.out.sv.bel⟩
theorem walk_CacheRoots (a0 : Int) (a1 : Bool) (w : World) (w0 : (Lit.int .u32 a0).wf = true) (hL : laidMetH Tryd.prog Rows.cacheRootsRow.laid w) :
    Calls Tryd.prog 6 #[.int .u32 a0, .bool a1] w fun e w' => e = .returned (.bool true) ∧ Below w.heap.size w w' := by
  obtain ⟨vs, vr, hE⟩ := (errs2 hL ⟨_, by repeat (first | exact List.Mem.head _ | apply List.Mem.tail)⟩ ⟨_, by repeat (first | exact List.Mem.head _ | apply List.Mem.tail)⟩)
  exact croots_walk a0 a1 (fit32 w0).1 (fit32 w0).2 w vs vr hE
end Go.Proofs.YtedidopkemjgeaaDoor
namespace Go.Proofs.YtedidopkemjgeaaDoor
open Go.ChangeShapes Go.WideShapes Go.ChangeAt Go.RowKit
set_option linter.unusedVariables false
set_option linter.unusedSimpArgs false
theorem FindOut.fault {E E' : List EW} {full : Bool} {hits hits' k0 k1 k2 k3 k4 sh f : Int} {ids : List Int} (h : FindOut E E' full hits hits' k0 k1 k2 k3 k4 sh ids f) (hf : ¬ f = 0) : E' = E ∧ hits' = hits := by
  rcases h with ⟨e, _, _, _, _, h⟩ | ⟨_, h1, ⟨h, _⟩ | ⟨_, h2⟩⟩
  · exact absurd h hf
  · exact absurd h hf
  · exact ⟨h2, h1⟩
theorem CacheAt.clearedX {w : World} {N cb : Nat} {size hits : Int} {v : Value} {E : List EW} (h : CacheAt w N cb size hits v E) : CacheAt (w.setCell ⟨cb, 2, none⟩ (.slice none 0 0)) N cb size hits (.slice none 0 0) [] := by
  refine ⟨h.nb, by simpa using h.cl, ?_, ?_, World.cell?_setCell_same _ _ _ h.c2, fun j => by simpa using h.fr j, World.ownsRow_nil _ _ _ _, by simp [Value.ownBlock], fun e he => by cases he⟩
  · rw [World.cell?_setCell_other _ _ _ _ (by simp)]; exact h.c0
  · rw [World.cell?_setCell_other _ _ _ _ (by simp)]; exact h.c1
theorem cclear_is (cb : Nat) (v : Value) (w : World) (c2 : w.cell? ⟨cb, 2, none⟩ = some v) (fr : w.frozen? ⟨cb, 2, none⟩ = false) :
    Calls Tryd.prog 21 #[.pointer (some ⟨cb, 0, none⟩)] w fun e w' => e = .returned (.tuple #[]) ∧ w' = w.setCell ⟨cb, 2, none⟩ (.slice none 0 0) := by
  go_enter Tryd.func21, Tryd.ntmps21
  go_wp2_with fail
  go_end0
  exact ⟨rfl, rfl⟩
theorem way_voidX {a b : Shp} {th : Nat → Bool} {vr_ : Nat → Int} {th2 : Nat → Bool} {vr2 : Nat → Int} {k0 k1 k2 k3 k4 f below : Int} (W : Nat → Nat → Value) (addr : Int) (ro : Bool) (h0 : 0 ≤ k4) (hz : entP (szP k0 k4) (szB k0 k4) (liveB a b th vr_ th2 vr2 k0 k1 k2) k0 k4 below addr = (0, f)) (hf : (f != 0) = true) : Way a b th vr_ W th2 vr2 k0 k1 k2 k3 k4 below addr ro [] 0 0 false f :=
  .fault _ _ _ f h0 ⟨rfl, rfl⟩ rfl hz hf
set_option maxRecDepth 100000 in
set_option maxHeartbeats 8000000 in
theorem cgone_walk (a0 : Int) (a1 : Bool) (x : Nat) (hx16 : x < 16) (C0 : Hid (∀ w, Calls Tryd.prog 13 #[.int .i64 a0, .int .i64 16] w fun e w' => e = .returned (.int .i64 (x : Int)) ∧ w = w')) (w : World) (vs vr : Value) (hE : ErrsAt vs vr w) :
    Calls Tryd.prog 7 #[.int .i64 a0, .bool a1] w fun e w' => e = .returned (.bool true) ∧ Below w.heap.size w w' := by
  have HE := Lib.hid hE
  clear hE
  have HX := Lib.hid hx16
  have x0 : (0 : Int) ≤ x := by omega
  have x1 : (x : Int) < 16 := by omega
  clear hx16
  go_enter Tryd.func7, Tryd.ntmps7
  go_upto_region 7 with (first
    | (go_at_call 12; (with_reducible refine (cfirst_is vs vr _ HE.out).mono ?_); rintro e w1 ⟨rfl, hb1⟩; have HB1 := Lib.hid hb1; clear hb1)
    | (go_at_call 13; (with_reducible refine (C0.out _).mono ?_); rintro e w9 ⟨rfl, rfl⟩)
    | (go_at_call 24; (with_reducible refine (snew_ok 1 3 1 3 (Lib.hid rfl) (Lib.hid rfl) (by decide) (by decide) (by decide) (by decide) _).mono ?_); rintro e w2 ⟨S, a, b, rfl, hs, hn, hb⟩; have HN := Lib.hid hn.out; have H2 : Hid (SV w w2 S a b _ _ _ _ _ _) := Lib.hid ⟨HB1.out.trans (hb.mono HB1.out.size), by have := hn.out.2.2; have := HB1.out.size; omega, hs⟩; clear hs hb hn)
    | (go_at_call 15; (with_reducible refine (cnew_ok 8 (by decide) (by decide) _).mono ?_); rintro e w3 ⟨cb, rfl, hc, hb⟩; have H3 := Lib.hid (CV.new H2.out hc hb); clear hc hb))
  obtain ⟨N, hN⟩ : ∃ N, w2.heap.size = N := ⟨_, rfl⟩
  rw [hN] at H3
  have HAB : Hid (0 < a.n ∧ 0 < b.n) := Lib.hid (by have := HN.out; omega)
  clear hN H2 HB1
  have s1 := H3.out.sv.st.s1
  go_upto_region 10 with (first
    | (go_at_call 26; (with_reducible refine (pmake_at 0 (some ⟨w3.heap.size, 0, none⟩) 1 1 [1] (Lib.hid rfl) (by decide) 0 (Lib.hid rfl) HAB.out.2 (Lib.hid (by decide)) (Lib.hid (by intro i hi; omega)) 0 (Lib.hid rfl) _ (H3.out.sv.st.pg.below ((Below.refl _ _).alloc (Nat.le_refl _) _)) (srcu1 w3 1 _ b.B b.G H3.out.sv.st.pg.ar.lt.2 (H3.out.sv.st.pg.row.lt b.G rfl).2)).mono ?_); rintro e w4 ⟨rfl, hP, hb⟩; have H4 := Lib.hid ((H3.out.below ((Below.refl _ _).alloc (Nat.le_refl _) _)).page hP hb ways_nil); clear hP hb s1))
  obtain ⟨W2, hW2⟩ : ∃ W2, W2 = fresh (fun _ _ => 0) 0 [1] := ⟨_, rfl⟩
  rw [← hW2] at H4
  have HTA : Hid ((upd (fun _ => false) 0 true) 0 = true) := Lib.hid rfl
  clear hW2 H3
  have s0 := H4.out.sv.st.s0
  go_upto_region 11 with (first
    | (go_at_call 25; (with_reducible refine (nmake_at 0 vs vr none 0 0 (fun _ _ => 0) (by decide) (Lib.hid (by intro i hi; omega)) 0 (Lib.hid rfl) HAB.out.1 (Lib.hid (by decide)) (Lib.hid (by intro i hi; omega)) 0 (Lib.hid rfl) _ (HE.out.below H4.out.sv.bel) H4.out.sv.st.nd (srcK_none _ _ _ _)).mono ?_); rintro e w5 ⟨rfl, hM, hb⟩; have H5 := Lib.hid (H4.out.node hM hb ways_nil); clear hM hb s0))
  obtain ⟨W0, hW0⟩ : ∃ W0, W0 = freshV (fun _ b => zc b) 0 (kcs (fun _ _ => 0) 0) := ⟨_, rfl⟩
  have HA16 : Hid (All16 (W0 0)) := Lib.hid (by rw [hW0]; exact All16.fresh _ _ _)
  rw [← hW0] at H5
  clear hW0 H4
  refine wp_region_noPanic ?_
  refine wp_region_held_drew (S := fun w' => World.cell? w' ⟨S, 0, none⟩ = some (.pointer (some ⟨a.P, 0, none⟩))) (by kernel_rfl) (H5.out.below (Below.refl w5.heap.size w5).drew).sv.st.s0 (fun hHeld => ?_)
  refine wpAnyH_take (i := 0) (v := ?_) (by rfl) (by kernel_rfl) (by kernel_rfl) (by kernel_rfl) (fun _ _ _ h => h) (Or.inl ⟨by kernel_rfl, ?_⟩) (by assumption) ?_; rotate_left 1; (focus (intro w hSw; (try dsimp only at hSw); simp only [List.getElem_toArray, List.getElem_cons_succ, List.getElem_cons_zero]; all_goals go_simp; all_goals (try with_reducible rfl))); (try simp only [Act.put, List.getElem_toArray, List.getElem_cons_succ, List.getElem_cons_zero, List.setIfInBounds_toArray, List.set_cons_zero, List.set_cons_succ])
  refine wpAnyH_take (i := 1) (v := ?_) (by rfl) (by kernel_rfl) (by kernel_rfl) (by kernel_rfl) (fun _ _ _ h => h) (Or.inl ⟨by kernel_rfl, ?_⟩) (by assumption) ?_; rotate_left 1; (focus (intro w hSw; (try dsimp only at hSw); simp only [List.getElem_toArray, List.getElem_cons_succ, List.getElem_cons_zero]; all_goals go_simp; all_goals (try with_reducible rfl))); (try simp only [Act.put, List.getElem_toArray, List.getElem_cons_succ, List.getElem_cons_zero, List.setIfInBounds_toArray, List.set_cons_zero, List.set_cons_succ])
  refine wpAnyH_take (i := 2) (v := ?_) (by rfl) (by kernel_rfl) (by kernel_rfl) (by kernel_rfl) (fun _ _ _ h => h) (Or.inl ⟨by kernel_rfl, ?_⟩) (by assumption) ?_; rotate_left 1; (focus (intro w hSw; (try dsimp only at hSw); simp only [List.getElem_toArray, List.getElem_cons_succ, List.getElem_cons_zero]; all_goals go_simp; all_goals (try with_reducible rfl))); (try simp only [Act.put, List.getElem_toArray, List.getElem_cons_succ, List.getElem_cons_zero, List.setIfInBounds_toArray, List.set_cons_zero, List.set_cons_succ])
  refine wpAnyH_take (i := 3) (v := ?_) (by rfl) (by kernel_rfl) (by kernel_rfl) (by kernel_rfl) (fun _ _ _ h => h) (Or.inl ⟨by kernel_rfl, ?_⟩) (by assumption) ?_; rotate_left 1; (focus (intro w hSw; (try dsimp only at hSw); simp only [List.getElem_toArray, List.getElem_cons_succ, List.getElem_cons_zero]; all_goals go_simp; all_goals (try with_reducible rfl))); (try simp only [Act.put, List.getElem_toArray, List.getElem_cons_succ, List.getElem_cons_zero, List.setIfInBounds_toArray, List.set_cons_zero, List.set_cons_succ])
  refine wpAnyH_take (i := 4) (v := ?_) (by rfl) (by kernel_rfl) (by kernel_rfl) (by kernel_rfl) (fun _ _ _ h => h) (Or.inl ⟨by kernel_rfl, ?_⟩) (by assumption) ?_; rotate_left 1; (focus (intro w hSw; (try dsimp only at hSw); simp only [List.getElem_toArray, List.getElem_cons_succ, List.getElem_cons_zero]; all_goals go_simp; all_goals (try with_reducible rfl))); (try simp only [Act.put, List.getElem_toArray, List.getElem_cons_succ, List.getElem_cons_zero, List.setIfInBounds_toArray, List.set_cons_zero, List.set_cons_succ])
  refine wpAnyH_take (i := 5) (v := ?_) (by rfl) (by kernel_rfl) (by kernel_rfl) (by kernel_rfl) (fun _ _ _ h => h) (Or.inl ⟨by kernel_rfl, ?_⟩) (by assumption) ?_; rotate_left 1; (focus (intro w hSw; (try dsimp only at hSw); simp only [List.getElem_toArray, List.getElem_cons_succ, List.getElem_cons_zero]; all_goals go_simp; all_goals (try with_reducible rfl))); (try simp only [Act.put, List.getElem_toArray, List.getElem_cons_succ, List.getElem_cons_zero, List.setIfInBounds_toArray, List.set_cons_zero, List.set_cons_succ])
  refine wpAnyH_ready (rs := [6]) (by kernel_rfl) (by simp) ?_; refine AllReadyH.cons (by rfl) (fun K hK => ?_) AllReadyH.nil; rw [if_pos (by kernel_rfl)]; simp only [List.getElem_toArray, List.getElem_cons_succ, List.getElem_cons_zero]
  have HD := Lib.hid (H5.out.below (Below.refl w5.heap.size w5).drew)
  go_wp2_with (first
    | (go_at_call 27; (with_reducible refine (spagekey_in 0 0 (Lib.hid rfl) HAB.out.2 HTA 0 (Lib.hid rfl) _ HD.out.sv.st).mono ?_); rintro e w6 ⟨rfl, hb⟩; have H6 := Lib.hid (HD.out.below hb); clear hb))
  refine hK.out _ _ H6.out.sv.st.s0 (fun hHeld => ?_)
  clear hK K
  (try simp only [Act.put, List.getElem_toArray, List.getElem_cons_succ, List.getElem_cons_zero, List.setIfInBounds_toArray, List.set_cons_zero, List.set_cons_succ])
  refine wpAnyH_ready (rs := [7]) (by kernel_rfl) (by simp) ?_; refine AllReadyH.cons (by rfl) (fun K hK => ?_) AllReadyH.nil; rw [if_pos (by kernel_rfl)]; simp only [List.getElem_toArray, List.getElem_cons_succ, List.getElem_cons_zero]
  go_wp2_with (first
    | (go_at_call 19; (with_reducible refine (nset_at vs vr 0 x 0 x (Lib.hid rfl) (Lib.hid rfl) HAB.out.1 HX.out HTA 3 0 0 0 0 (Lib.hid (by decide)) _ (HE.out.below H6.out.sv.bel) H6.out.sv.st.nd (Lib.hid HA16.out.one)).mono ?_); rintro e w7 ⟨rfl, hM, hb⟩; have H7 := Lib.hid (H6.out.node hM hb ways_nil); clear hM hb))
  refine hK.out _ _ H7.out.sv.st.s0 (fun hHeld => ?_)
  clear hK K
  (try simp only [Act.put, List.getElem_toArray, List.getElem_cons_succ, List.getElem_cons_zero, List.setIfInBounds_toArray, List.set_cons_zero, List.set_cons_succ])
  refine wpAnyH_done (by kernel_rfl) ?_ _
  refine NoPanic.normal ?_
  obtain ⟨W, hW⟩ : ∃ W, W = updV W0 0 (x * 5) (k5 3 0 0 0 0) := ⟨_, rfl⟩
  have HKW : Hid (KAt (W 0) x 3 0 0 0 0) := Lib.hid (by rw [hW]; exact updV_key W0 0 x 3 0 0 0 0)
  rw [← hW] at H7
  clear hW H5 HD H6 HA16
  go_upto_region 13 with (first
    | (go_at_call 28; (with_reducible refine (snodekey_in 0 1 0 (Lib.hid rfl) (by decide) (by decide) HAB.out.1 HTA 0 (Lib.hid rfl) _ H7.out.sv.st).mono ?_); rintro e w8 ⟨rfl, hb⟩; have H8 := Lib.hid (H7.out.below hb); clear hb))
  obtain ⟨w9, hw9⟩ : ∃ w9, w9 = w8.alloc (.cells #[.int .i64 2, .int .i64 0, .int .i64 0, .int .i64 0, .int .u32 1] 29 (0, 0)) := ⟨_, rfl⟩
  rw [← hw9]
  have H9 : Hid (CV w w9 S a b N cb 8 (upd (fun _ => false) 0 true) (fun _ => 0) W (upd (fun _ => false) 0 true) (fun _ => 0) W2 0 (.slice none 0 0) []) := Lib.hid (by rw [hw9]; exact H8.out.below ((Below.refl _ _).alloc (Nat.le_refl _) _))
  have HK9 : Hid (KeyC w9 w8.heap.size 2 0 0 0 1) := Lib.hid (by rw [hw9]; exact KeyC.new _ _ _ _ _ _ _)
  obtain ⟨kb, hkb⟩ : ∃ kb, Hid (w8.heap.size = kb) := ⟨_, Lib.hid rfl⟩
  have HO9 : Hid (OutC cb (.slice none 0 0) kb ∧ N ≤ kb) := Lib.hid ⟨⟨by rw [← hkb.out]; have := H8.out.ca.cl; omega, by simp [Value.ownBlock]⟩, by rw [← hkb.out]; exact H8.out.nN⟩
  rw [hkb.out] at HK9 ⊢
  clear hw9 hkb H7 H8
  obtain ⟨ad, had⟩ : ∃ ad : Nat, Hid (32 * x + 3 = ad) := ⟨_, Lib.hid rfl⟩
  have HAd : Hid (ad ≤ 4294967295) := Lib.hid (by have := had.out; have := HX.out; omega)
  have HLv : Hid (liveB a b (upd (fun _ => false) 0 true) (fun _ => 0) (upd (fun _ => false) 0 true) (fun _ => 0) 3 0 0 = true) := Lib.hid (by simp [liveB, thereB, upd, HAB.out.2])
  have HWk : Hid (Way a b (upd (fun _ => false) 0 true) (fun _ => 0) W (upd (fun _ => false) 0 true) (fun _ => 0) 2 0 0 0 1 5 ad false [0] ((0 : Nat) : Int) ((3 : Nat) : Int) false 0) := Lib.hid (way_r0 (way_at 1 0 x 3 3 0 0 0 0 rfl (by decide) (by decide) (by rw [← had.out]; congr 1; omega) (by decide) rfl HAB.out.1 rfl rfl HX.out (by decide) HKW.out (.page (by decide) (by omega) HLv.out (by decide))) (by decide))
  have y0 : (32 : Int) * x + 3 = ad := by have := had.out; omega
  have HY := Lib.hid y0
  have q0 := HK9.out.c0
  have q1 := HK9.out.c1
  have q2 := HK9.out.c2
  have q3 := HK9.out.c3
  have q4 := HK9.out.c4
  clear y0
  go_upto_region 14 with fail
  rw [HY.out]
  have HCF := Lib.hid (cvfind 2 0 0 0 1 ad HAd.out [0] _ _ false 0 false (Lib.hid (by decide)) (Lib.hid (by decide)) (Lib.hid (by decide)) HWk _ H9.out)
  go_upto_region 15 with (first
    | (go_at_call 16; (with_reducible refine HCF.out.mono ?_); rintro e w10 ⟨rfl, h10, v10, E10, hm, ho, hk, hv⟩; have H10 := Lib.hid hm; have HK10 := Lib.hid (HK9.out.keepB hk HO9.out.1); have HO10 := Lib.hid (HO9.out.1.next HK9.out.lt hv); have HG10 := Lib.hid ho.more; clear HCF hm ho hk hv q0 q1 q2 q3 q4))
  obtain ⟨w11, hw11⟩ : ∃ w11, w11 = w10.alloc (.cells #[.int .i64 0, .int .i64 3, .bool false] 40 (0, 0)) := ⟨_, rfl⟩
  rw [← hw11]
  have H11 : Hid (CV w w11 S a b N cb 8 (upd (fun _ => false) 0 true) (fun _ => 0) W (upd (fun _ => false) 0 true) (fun _ => 0) W2 h10 v10 E10) := Lib.hid (by rw [hw11]; exact H10.out.below ((Below.refl _ _).alloc (Nat.le_refl _) _))
  have HK11 : Hid (KeyC w11 kb 2 0 0 0 1) := Lib.hid (by rw [hw11]; exact HK10.out.below ((Below.refl _ _).alloc (Nat.le_refl _) _))
  have HH10 : Hid (0 ≤ h10 ∧ h10 ≤ 1) := Lib.hid (by have := HG10.out; omega)
  clear hw11 H9 HK9 H10 HK10 HWk HG10
  have s1 := H11.out.sv.st.s1
  have f0 := H11.out.sv.st.pg.f0
  go_upto_region 18 with (first
    | (go_at_call 30; (with_reducible refine (agive_at 0 _ H11.out.sv.st.pg.ar 0 (Lib.hid rfl) HAB.out.2 HTA 0 1 (Lib.hid rfl) (by decide) (by decide) (Lib.hid rfl)).mono ?_); rintro e w12 ⟨rfl, hA, hg⟩; have hb := PBelow.of (B := b.B) (G := b.G) hg (.inl rfl); have HSV := Lib.hid (H11.out.sv.page (H11.out.sv.st.pg.turn hA hg) hb); have HCA := Lib.hid (H11.out.ca.same hb.2.2.2.1 (fun k hk hks => hb.2.2.2.2 k hks (by have := H11.out.lo.p; omega) (by have := H11.out.lo.p; omega))); have HK12 := Lib.hid (HK11.out.pbelow hb (by have := H11.out.lo.p; have := HO9.out.2; omega) (by have := H11.out.lo.p; have := HO9.out.2; omega)); have c2 := HCA.out.c2; have fr := HCA.out.fr 2; have HS12 := Lib.hid hb.2.2.2.1; clear hA hg hb s1 f0)
    | (go_at_call 21; (with_reducible refine (cclear_is cb v10 _ c2 fr).mono ?_); rintro e w13 ⟨rfl, hw⟩; have HW := Lib.hid hw; clear hw c2 fr))
  have hkc : kb ≠ cb := HO9.out.1.1
  have H13 : Hid (CV w w13 S a b N cb 8 (upd (fun _ => false) 0 true) (fun _ => 0) W (upd (upd (fun _ => false) 0 true) 0 false) (upd (fun _ => 0) 0 1) W2 h10 (.slice none 0 0) []) := Lib.hid (by rw [HW.out]; exact ⟨HSV.out.put1 H11.out.lo cb 2 HCA.out.nb H11.out.n0 _, H11.out.lo, H11.out.n0, by have := HS12.out; have := H11.out.nN; simp; omega, HCA.out.clearedX, ways_nil⟩)
  have HK13 : Hid (KeyC w13 kb 2 0 0 0 1) := Lib.hid (by rw [HW.out]; exact HK12.out.same' (by simp) (set_heap _ _ _ _ _ hkc))
  clear H11 HK11 HSV HCA HK12 HS12 HW
  go_upto_if 93 with fail
  go_cut [] (fun wx => ∃ (th2 : Nat → Bool) (vr2 : Nat → Int) (W2' : Nat → Nat → Int), CV w wx S a b N cb 8 (upd (fun _ => false) 0 true) (fun _ => 0) W th2 vr2 W2' h10 (.slice none 0 0) [] ∧ KeyC wx kb 2 0 0 0 1 ∧ Hid (Way a b (upd (fun _ => false) 0 true) (fun _ => 0) W th2 vr2 2 0 0 0 1 5 ad false [0] 0 0 false 2))
  case first =>
    cases a1
    · go_wp2_with fail
      go_meet
      exact ⟨_, _, _, H13.out, HK13.out, Lib.hid (way_at 1 0 x 3 3 0 0 0 0 rfl (by decide) (by decide) (by rw [← had.out]; congr 1; omega) (by decide) rfl HAB.out.1 rfl rfl HX.out (by decide) HKW.out (way_voidX _ _ _ (by decide) (by simp [entP, szB, liveB, thereB, upd]) rfl))⟩
    · have s1 := H13.out.sv.st.s1
      go_wp2_with (first
        | (go_at_call 26; (with_reducible refine (pmake_at 0 (some ⟨w13.heap.size, 0, none⟩) 1 1 [9] (Lib.hid rfl) (by decide) 0 (Lib.hid rfl) HAB.out.2 (Lib.hid (by decide)) (Lib.hid (by intro i hi; omega)) 1 (Lib.hid (by decide)) _ (H13.out.sv.st.pg.below ((Below.refl _ _).alloc (Nat.le_refl _) _)) (srcu1 w13 9 _ b.B b.G H13.out.sv.st.pg.ar.lt.2 (H13.out.sv.st.pg.row.lt b.G rfl).2)).mono ?_); rintro e w14 ⟨rfl, hP, hb⟩; have H14 := Lib.hid ((H13.out.below ((Below.refl _ _).alloc (Nat.le_refl _) _)).page hP hb ways_nil); have HK14 := Lib.hid ((HK13.out.below ((Below.refl _ _).alloc (Nat.le_refl _) _)).pbelow hb (by have := H13.out.lo.p; have := HO9.out.2; omega) (by have := H13.out.lo.p; have := HO9.out.2; omega)); clear hP hb s1))
      go_meet
      exact ⟨_, _, _, H14.out, HK14.out, Lib.hid (way_at 1 0 x 3 3 0 0 0 0 rfl (by decide) (by decide) (by rw [← had.out]; congr 1; omega) (by decide) rfl HAB.out.1 rfl rfl HX.out (by decide) HKW.out (way_voidX _ _ _ (by decide) (by simp [entP, szB, liveB, thereB, upd]) rfl))⟩
  case rest =>
    obtain ⟨th2, vr2, W2', hm, hk, HWF⟩ := hcut
    have HC := Lib.hid hm
    have HK := Lib.hid hk
    clear hm hk H13 HK13
    have HOC : Hid (OutC cb (.slice none 0 0) kb) := HO9.out.1 |> Lib.hid
    have q0 := HK.out.c0
    have q1 := HK.out.c1
    have q2 := HK.out.c2
    have q3 := HK.out.c3
    have q4 := HK.out.c4
    have HCF := Lib.hid (cvfind 2 0 0 0 1 ad HAd.out [0] 0 0 false 2 false (Lib.hid (by decide)) (Lib.hid (by decide)) (Lib.hid (by have := HH10.out; omega)) HWF _ HC.out)
    go_upto_region 21 with (first
      | (go_at_call 16; (with_reducible refine HCF.out.mono ?_); rintro e w15 ⟨rfl, h15, v15, E15, hm, ho, hk, hv⟩; have H15 := Lib.hid hm; have HK15 := Lib.hid (HK.out.keepB hk HOC.out); have HG15 := Lib.hid (ho.fault (by decide)).1; clear HCF hm ho hk hv q0 q1 q2 q3 q4))
    obtain ⟨w16, hw16⟩ : ∃ w16, w16 = w15.alloc (.cells #[.int .i64 0, .int .i64 0, .bool false] 40 (0, 0)) := ⟨_, rfl⟩
    rw [← hw16]
    have H16 : Hid (CV w w16 S a b N cb 8 (upd (fun _ => false) 0 true) (fun _ => 0) W th2 vr2 W2' h15 v15 E15) := Lib.hid (by rw [hw16]; exact H15.out.below ((Below.refl _ _).alloc (Nat.le_refl _) _))
    have HK16 : Hid (KeyC w16 kb 2 0 0 0 1) := Lib.hid (by rw [hw16]; exact HK15.out.below ((Below.refl _ _).alloc (Nat.le_refl _) _))
    have HP16 : Hid (PlC w16 w15.heap.size 0 0 false) := Lib.hid (by rw [hw16]; exact PlC.new _ _ _ _ _)
    obtain ⟨pb, hpb⟩ : ∃ pb, w15.heap.size = pb := ⟨_, rfl⟩
    rw [hpb] at HP16 ⊢
    clear hw16 hpb H15 HK15
    have q0 := HK16.out.c0
    have q1 := HK16.out.c1
    have q2 := HK16.out.c2
    have q3 := HK16.out.c3
    have q4 := HK16.out.c4
    go_upto_region 22 with (first
      | (go_at_call 17; (with_reducible refine (pWalk_is 2 0 0 0 1 _ [0] 0 0 false 2 HWF _ H16.out.sv.st).mono ?_); rintro e w17 ⟨rfl, hb⟩; have H17 := Lib.hid (H16.out.below hb); have HP17 := Lib.hid (HP16.out.below hb); clear hb q0 q1 q2 q3 q4))
    obtain ⟨w18, hw18⟩ : ∃ w18, w18 = w17.alloc (.cells #[.int .i64 0, .int .i64 0, .bool false] 40 (0, 0)) := ⟨_, rfl⟩
    rw [← hw18]
    have H18 : Hid (CV w w18 S a b N cb 8 (upd (fun _ => false) 0 true) (fun _ => 0) W th2 vr2 W2' h15 v15 E15) := Lib.hid (by rw [hw18]; exact H17.out.below ((Below.refl _ _).alloc (Nat.le_refl _) _))
    have HP18 : Hid (PlC w18 pb 0 0 false) := Lib.hid (by rw [hw18]; exact HP17.out.below ((Below.refl _ _).alloc (Nat.le_refl _) _))
    have HQ18 : Hid (PlC w18 w17.heap.size 0 0 false) := Lib.hid (by rw [hw18]; exact PlC.new _ _ _ _ _)
    obtain ⟨qb, hqb⟩ : ∃ qb, w17.heap.size = qb := ⟨_, rfl⟩
    rw [hqb] at HQ18 ⊢
    clear hw18 hqb H17 HP17
    have p0 := HP18.out.c0
    have p1 := HQ18.out.c0
    have HE0 : Hid (E15.length = 0) := Lib.hid (by rw [HG15.out]; rfl)
    go_wp2_with (first
      | (go_at_call 22; (with_reducible refine (clen_is 0 HE0 _ H18.out).mono ?_); rintro e w19 ⟨rfl, rfl⟩))
    go_ret
    exact ⟨by simp, H18.out.sv.bel⟩
theorem walk_CacheGone (a0 : Int) (a1 : Bool) (w : World) (w0 : (Lit.int .i64 a0).wf = true) (hL : laidMetH Tryd.prog Rows.cacheGoneRow.laid w) :
    Calls Tryd.prog 7 #[.int .i64 a0, .bool a1] w fun e w' => e = .returned (.bool true) ∧ Below w.heap.size w w' := by
  obtain ⟨vs, vr, hE⟩ := (errs2 hL ⟨_, by repeat (first | exact List.Mem.head _ | apply List.Mem.tail)⟩ ⟨_, by repeat (first | exact List.Mem.head _ | apply List.Mem.tail)⟩)
  obtain ⟨x, hx, C0⟩ := number_nat a0 16 16 rfl (by decide) (by decide) (fit64 w0).1 (fit64 w0).2
  exact cgone_walk a0 a1 x hx (Lib.hid C0) w vs vr hE
end Go.Proofs.YtedidopkemjgeaaDoor
namespace Go.Proofs.YtedidopkemjgeaaDoor
open Go.ChangeShapes Go.WideShapes Go.ChangeAt Go.RowKit
set_option linter.unusedVariables false
set_option linter.unusedSimpArgs false
theorem ways_sub {a b : Shp} {th : Nat → Bool} {vr_ : Nat → Int} {W : Nat → Nat → Value} {th2 : Nat → Bool} {vr2 : Nat → Int} {E : List EW} (xs : List Int) (ok : WaysOk a b th vr_ W th2 vr2 E) : WaysOk a b th vr_ W th2 vr2 (offE xs E) := fun e he => ok e (mem_off he).1
/-- What the first finds leave. -/
def HitsAre (i : Nat) (hits : Int) (E : List EW) : Prop := (i = 0 ∧ E = [] ∧ hits = 0) ∨ (0 < i ∧ hits = (i : Int) - 1 ∧ ∃ d : EW, E = [d] ∧ d.is 2 0 0 0 1 0 = true ∧ d.ids = [0])
theorem HitsAre.next {i : Nat} {hits hits' : Int} {E E' : List EW} (h : HitsAre i hits E) (f : FindOut E E' false hits hits' 2 0 0 0 1 0 [0] 0) : HitsAre (i + 1) hits' E' := by
  rcases h with ⟨rfl, rfl, rfl⟩ | ⟨h0, rfl, d, rfl, hd, hi⟩
  · rcases f with ⟨e, he, _⟩ | ⟨_, h1, ⟨_, d, h2, h3, h4⟩ | ⟨h2, _⟩⟩
    · cases he
    · exact .inr ⟨by omega, by rw [h1]; rfl, d, h4, h2, h3⟩
    · exact absurd rfl h2
  · rcases f with ⟨e, he, _, h1, h2, _⟩ | ⟨h1, _⟩
    · exact .inr ⟨by omega, by rw [h2]; omega, d, h1, hd, hi⟩
    · have := h1 d (List.mem_singleton.2 rfl); rw [hd] at this; cases this
theorem HitsAre.len {i : Nat} {hits : Int} {E : List EW} (h : HitsAre i hits E) : E.length ≤ 1 ∧ 0 ≤ hits ∧ hits ≤ i := by
  rcases h with ⟨rfl, rfl, rfl⟩ | ⟨h0, rfl, d, rfl, hd, hi⟩
  · simp
  · simp; omega
theorem rn2 (w : World) (x y : Int) : RN (w.alloc (.cells #[.int .i64 x, .int .i64 y] 3 (0, 0))) w.heap.size 2 [x, y] := fun i hi => by
  have h2 : i = 0 ∨ i = 1 := by omega
  rcases h2 with rfl | rfl <;> simp
set_option maxRecDepth 100000 in
set_option maxHeartbeats 8000000 in
theorem chits_walk (a0 a1 a2 : Int) (x y : Nat) (hx30 : x < 30) (hy32 : y < 32) (C0 : Hid (∀ w, Calls Tryd.prog 13 #[.int .i64 a0, .int .i64 30] w fun e w' => e = .returned (.int .i64 (x : Int)) ∧ w = w')) (C1 : Hid (∀ w, Calls Tryd.prog 13 #[.int .i64 a1, .int .i64 32] w fun e w' => e = .returned (.int .i64 (y : Int)) ∧ w = w')) (w : World) (vs vr : Value) (hE : ErrsAt vs vr w) :
    Calls Tryd.prog 4 #[.int .i64 a0, .int .i64 a1, .int .i64 a2] w fun e w' => e = .returned (.bool true) ∧ Below w.heap.size w w' := by
  have HE := Lib.hid hE
  clear hE
  have HXY := Lib.hid (And.intro hx30 hy32)
  have x0 : (0 : Int) ≤ x := by omega
  have x1 : (x : Int) < 30 := by omega
  clear hx30 hy32
  go_enter Tryd.func4, Tryd.ntmps4
  go_upto_region 4 with (first
    | (go_at_call 12; (with_reducible refine (cfirst_is vs vr _ HE.out).mono ?_); rintro e w1 ⟨rfl, hb1⟩; have HB1 := Lib.hid hb1; clear hb1))
  have HL3 : Hid (∀ i, i < 3 → (w1.alloc (.cells #[.int .i64 0, .int .i64 1, .int .i64 1, .int .i64 1, .int .i64 2, .int .i64 1] 3 (0, 0))).cell? ⟨w1.heap.size, 2 * i, none⟩ = some (.int .i64 i) ∧ (w1.alloc (.cells #[.int .i64 0, .int .i64 1, .int .i64 1, .int .i64 1, .int .i64 2, .int .i64 1] 3 (0, 0))).cell? ⟨w1.heap.size, 2 * i + 1, none⟩ = some (.int .i64 1)) := Lib.hid (fun i hi => by
    have h3 : i = 0 ∨ i = 1 ∨ i = 2 := by omega
    rcases h3 with rfl | rfl | rfl <;> exact ⟨by simp, by simp⟩)
  have HL2 : Hid (w1.heap.size < (w1.alloc (.cells #[.int .i64 0, .int .i64 1, .int .i64 1, .int .i64 1, .int .i64 2, .int .i64 1] 3 (0, 0))).heap.size) := Lib.hid (by simp)
  have HE1 := Lib.hid (HE.out.below HB1.out)
  go_upto_region 6 with (first
    | (go_at_call 14; (with_reducible refine (made10_is 3 6 w1.heap.size (by decide) (Lib.hid (by decide)) vs vr _ (HE1.out.below ((Below.refl _ _).alloc (Nat.le_refl _) _)) HL2.out HL3).mono ?_); rintro e w2 ⟨S, a, b, W, W2, rfl, hs, hpg, hn⟩; have H1 := Lib.hid hs; have HPG := Lib.hid hpg.out; have HN := Lib.hid hn.out; clear hs hpg hn)
    | (go_at_call 15; (with_reducible refine (cnew_ok 8 (by decide) (by decide) _).mono ?_); rintro e w4 ⟨cb, rfl, hc, hb⟩; have HC3 := Lib.hid hc; have HB3 := Lib.hid hb; clear hc hb))
  obtain ⟨w3, hw3⟩ : ∃ w3, w3 = w2.alloc (.cells #[.int .i64 2, .int .i64 0, .int .i64 0, .int .i64 0, .int .u32 1] 29 (0, 0)) := ⟨_, rfl⟩
  rw [← hw3] at HC3 HB3
  have H3 : Hid (SV w w3 S a b (upd (fun _ => false) 0 true) (fun _ => 0) W (ltB 3) (fun _ => 0) W2) := Lib.hid (by rw [hw3]; exact ((H1.out.over ((Below.refl _ _).alloc (Nat.le_refl _) _)).over HB1.out).step ((Below.refl _ _).alloc (Nat.le_refl _) _))
  have HK3 : Hid (KeyC w3 w2.heap.size 2 0 0 0 1) := Lib.hid (by rw [hw3]; exact KeyC.new _ _ _ _ _ _ _)
  obtain ⟨N, hN⟩ : ∃ N, w3.heap.size = N := ⟨_, rfl⟩
  have H4 : Hid (CV w w4 S a b N cb 8 (upd (fun _ => false) 0 true) (fun _ => 0) W (ltB 3) (fun _ => 0) W2 0 (.slice none 0 0) []) := Lib.hid (by rw [← hN]; exact CV.new H3.out HC3.out HB3.out)
  have HK4 := Lib.hid (HK3.out.below HB3.out)
  obtain ⟨kb, hkb⟩ : ∃ kb, Hid (w2.heap.size = kb) := ⟨_, Lib.hid rfl⟩
  rw [hkb.out] at HK3 HK4 ⊢
  have HO4 : Hid (OutC cb (.slice none 0 0) kb) := Lib.hid ⟨by have := HK3.out.lt; have := H4.out.ca.nb; omega, by simp [Value.ownBlock]⟩
  have HAB : Hid (0 < a.n ∧ 0 < b.n) := Lib.hid (by have := HN.out; omega)
  clear hw3 hN hkb H1 H3 HC3 HB3 HK3 HL2 HL3 HE1 HB1
  go_upto_region 11 with (first
    | (go_at_call 13; (with_reducible refine (C0.out _).mono ?_); rintro e w9 ⟨rfl, rfl⟩)
    | (go_at_call 13; (with_reducible refine (C1.out _).mono ?_); rintro e w9 ⟨rfl, rfl⟩))
  obtain ⟨A, hA⟩ : ∃ A : Nat, Hid (x + 1 = A) := ⟨_, Lib.hid rfl⟩
  rw [show ((x : Int) + 1) = (A : Int) by have := hA.out; omega]
  have HA1 : Hid (1 ≤ A ∧ A ≤ 30) := Lib.hid (by have := hA.out; have := HXY.out; omega)
  clear x0 x1
  have HWk : Hid (∀ ad : Nat, ad < 32 → Way a b (upd (fun _ => false) 0 true) (fun _ => 0) W (ltB 3) (fun _ => 0) 2 0 0 0 1 5 ((ad : Nat) : Int) false [0] ((0 : Nat) : Int) ((ad : Nat) : Int) false 0) := Lib.hid (fun ad had => way_pg HPG.out (by decide) (by decide) HAB.out.1 HAB.out.2 had (by omega))
  go_loopw [12] (fun z wr => ∃ (i : Nat) (hits : Int) (v : Value) (E : List EW), i ≤ A ∧ z = .int .i64 i ∧ (CV w wr S a b N cb 8 (upd (fun _ => false) 0 true) (fun _ => 0) W (ltB 3) (fun _ => 0) W2 hits v E) ∧ KeyC wr kb 2 0 0 0 1 ∧ OutC cb v kb ∧ HitsAre i hits E) (fun z _ => 40 - (intOf z).toNat)
  case atStart => exact ⟨0, 0, _, [], by omega, rfl, H4.out, HK4.out, HO4.out, .inl ⟨rfl, rfl, rfl⟩⟩
  case round =>
    obtain ⟨i, hits, v, E, hi, rfl, hc, hk, ho, hh⟩ := hrel
    have HC := Lib.hid hc
    have HK := Lib.hid hk
    have HO := Lib.hid ho
    have HH := Lib.hid hh
    have HL := Lib.hid hh.len
    have i0 : (0 : Int) ≤ i := by omega
    have i30 : (i : Int) ≤ 30 := by have := HA1.out; omega
    clear hc hk ho hh
    by_cases hlt : i < A
    · have i1 : (i : Int) < A := by omega
      have y0 : (0 : Int) ≤ y := by omega
      have y1 : (y : Int) < 32 := by have := HXY.out; omega
      obtain ⟨ad, had⟩ : ∃ ad : Nat, Hid ((i + y) % 32 = ad) := ⟨_, Lib.hid rfl⟩
      have HAD : Hid (ad < 32) := Lib.hid (by rw [← had.out]; exact Nat.mod_lt _ (by decide))
      have ead : Int.tmod ((i : Int) + y) 32 = ad := by rw [Int.tmod_eq_emod_of_nonneg (by omega)]; have := had.out; omega
      have ad0 : (0 : Int) ≤ ad := by omega
      have ad1 : (ad : Int) < 4294967296 := by have := HAD.out; omega
      have q0 := HK.out.c0
      have q1 := HK.out.c1
      have q2 := HK.out.c2
      have q3 := HK.out.c3
      have q4 := HK.out.c4
      have HS0 : Hid ((ad : Int) / 32 = 0) := Lib.hid (by have := HAD.out; omega)
      have HCF := Lib.hid (cvfind 2 0 0 0 1 ad (by omega) [0] _ ad false 0 false (Lib.hid (by have := HL.out; omega)) (Lib.hid (full8 (by have := HL.out; omega))) (Lib.hid (by have := HL.out; have := HA1.out; omega)) (Lib.hid (HWk.out ad HAD.out)) _ HC.out)
      go_wp2_with (first
        | (go_at_call 16; (with_reducible refine HCF.out.mono ?_); rintro e w10 ⟨rfl, h10, v10, E10, hm, ho, hk, hv⟩; have H10 := Lib.hid hm; have HK10 := Lib.hid (HK.out.keepB hk HO.out); have HO10 := Lib.hid (HO.out.next HK.out.lt hv); rw [HS0.out] at ho; have HH10 := Lib.hid (HH.out.next ho); clear HCF hm ho hk hv q0 q1 q2 q3 q4))
      go_roundw
      case rel => exact ⟨i + 1, h10, v10, E10, by omega, by go_num, H10.out.below ((Below.refl _ _).alloc (Nat.le_refl _) _), HK10.out.below ((Below.refl _ _).alloc (Nat.le_refl _) _), HO10.out, HH10.out⟩
      case measure => simp [intOf]; omega
    · obtain rfl : i = A := by omega
      obtain ⟨d, rfl, rfl, hd, hids⟩ : ∃ d : EW, hits = (i : Int) - 1 ∧ E = [d] ∧ d.is 2 0 0 0 1 0 = true ∧ d.ids = [0] := by
        rcases HH.out with ⟨h0, _⟩ | ⟨_, h1, d, h2, h3, h4⟩
        · have := HA1.out; omega
        · exact ⟨d, h1, h2, h3, h4⟩
      have HDI := Lib.hid hids
      have i1 : (1 : Int) ≤ i := by have := HA1.out; omega
      have hii : ¬ (i : Int) < i := by omega
      have HOff : Hid (offE [9, 10] [d] = [d] ∧ offE [3, 0] [d] = []) := Lib.hid (by unfold offE; simp [EW.on, hids])
      have HIds : Hid (∀ (E : List EW), (E = [d] ∨ E = []) → E.length ≤ 64 ∧ ∀ e, e ∈ E → e.ids.length ≤ 1000) := Lib.hid (fun E hE => by
        rcases hE with rfl | rfl
        · exact ⟨by simp, fun e he => by simp at he; subst he; simp [hids]⟩
        · exact ⟨by simp, fun e he => by cases he⟩)
      obtain ⟨hits, hhits⟩ : ∃ h, Hid (h = (i : Int) - 1) := ⟨_, Lib.hid rfl⟩
      rw [← hhits.out] at HC HH HL
      have hh1 : (i : Int) - 1 = hits := hhits.out.symm
      clear hd hids
      go_upto_region 18 with (first
        | (go_at_call 23; (with_reducible refine (chits_is _ HC.out).mono ?_); rintro e w8 ⟨rfl, rfl⟩)
        | (go_at_call 22; (with_reducible refine (clen_is 1 (Lib.hid rfl) _ HC.out).mono ?_); rintro e w8 ⟨rfl, rfl⟩))
      have HCa := Lib.hid (fun o => HC.out.below ((Below.refl _ _).alloc (Nat.le_refl _) _ : Below wr.heap.size wr (wr.alloc o)))
      have HGn : Hid (v.ownBlock ≠ some wr.heap.size) := Lib.hid (fun e => by have := (HC.out.ca.row.lt _ e).2; omega)
      go_upto_region 19 with (first
        | (go_at_call 20; (refine (cforget_is wr.heap.size 2 [9, 10] 2 (Lib.hid rfl) (by decide) (HIds.out _ (.inl rfl)).1 (Lib.hid (HIds.out _ (.inl rfl)).2) _ (HCa.out _).ca (HCa.out _).nN (by simp) HGn.out (Lib.hid (rn2 wr 9 10))).mono ?_); rintro e w11 ⟨rfl, v11, hc, hb, hk, hv⟩; have hkk := (HK.out.below ((Below.refl _ _).alloc (Nat.le_refl _) _ : Below wr.heap.size wr (wr.alloc (.cells #[.int .i64 9, .int .i64 10] 3 (0, 0))))).keepB hk HO.out; have HK11 := Lib.hid hkk; rw [HOff.out.1] at hc; have H11 := Lib.hid ((HCa.out _).found hb hc (HC.out.ok)); have HO11 : Hid (OutC cb v11 kb) := Lib.hid ⟨HO.out.1, by rw [hv]; exact HO.out.2⟩; clear hc hb hk hv hkk))
      go_upto_region 21 with (first
        | (go_at_call 22; (with_reducible refine (clen_is 1 (Lib.hid rfl) _ H11.out).mono ?_); rintro e w8 ⟨rfl, rfl⟩))
      clear HC HK HO HCa HGn
      go_upto_if 79 with fail
      go_cut [] (fun wx => ∃ (v : Value), (CV w wx S a b N cb 8 (upd (fun _ => false) 0 true) (fun _ => 0) W (ltB 3) (fun _ => 0) W2 hits v []) ∧ KeyC wx kb 2 0 0 0 1 ∧ OutC cb v kb)
      case first =>
        obtain ⟨t, ht⟩ : ∃ t, (a2.tmod 2 == 0) = t := ⟨_, rfl⟩
        have HGn : Hid (v11.ownBlock ≠ some w11.heap.size) := Lib.hid (fun e => by have := (H11.out.ca.row.lt _ e).2; omega)
        have HCa := Lib.hid (fun o => H11.out.below ((Below.refl _ _).alloc (Nat.le_refl _) _ : Below w11.heap.size w11 (w11.alloc o)))
        cases t
        · have c2 := H11.out.ca.c2
          have fr := H11.out.ca.fr 2
          go_wp2_with (first
            | (go_at_call 21; (with_reducible refine (cclear_is cb v11 _ c2 fr).mono ?_); rintro e w12 ⟨rfl, hw⟩; have HW := Lib.hid hw; clear hw c2 fr))
          go_meet
          have hne : kb ≠ cb := HO11.out.1
          refine ⟨.slice none 0 0, ?_, ?_, HO11.out.1, by simp [Value.ownBlock]⟩
          · rw [HW.out]
            exact ⟨H11.out.sv.put1 H11.out.lo cb 2 H11.out.ca.nb H11.out.n0 _, H11.out.lo, H11.out.n0, by simpa using H11.out.nN, H11.out.ca.clearedX, ways_nil⟩
          · rw [HW.out]
            exact HK11.out.same' (by simp) (set_heap _ _ _ _ _ hne)
        · have q1 := HK11.out.c1
          go_wp2_with (first
            | (go_at_call 20; (refine (cforget_is w11.heap.size 2 [3, 0] 2 (Lib.hid rfl) (by decide) (HIds.out _ (.inl rfl)).1 (Lib.hid (HIds.out _ (.inl rfl)).2) _ (HCa.out _).ca (HCa.out _).nN (by simp) HGn.out (Lib.hid (rn2 w11 3 0))).mono ?_); rintro e w12 ⟨rfl, v12, hc, hb, hk, hv⟩; have hkk := (HK11.out.below ((Below.refl _ _).alloc (Nat.le_refl _) _ : Below w11.heap.size w11 (w11.alloc (.cells #[.int .i64 3, .int .i64 0] 3 (0, 0))))).keepB hk HO11.out; have HK12 := Lib.hid hkk; rw [HOff.out.2] at hc; have H12 := Lib.hid ((HCa.out _).found hb hc ways_nil); have HO12 : Hid (OutC cb v12 kb) := Lib.hid ⟨HO11.out.1, by rw [hv]; exact HO11.out.2⟩; clear hc hb hk hv hkk q1))
          go_meet
          exact ⟨v12, H12.out, HK12.out, HO12.out⟩
      case rest =>
        obtain ⟨v, hm, hk, ho⟩ := hcut
        have HC := Lib.hid hm
        have HK := Lib.hid hk
        have HO := Lib.hid ho
        clear hm hk ho H11 HK11 HO11
        have y0 : (0 : Int) ≤ y := by omega
        have y1 : (y : Int) < 4294967296 := by have := HXY.out; omega
        have q0 := HK.out.c0
        have q1 := HK.out.c1
        have q2 := HK.out.c2
        have q3 := HK.out.c3
        have q4 := HK.out.c4
        have HCF := Lib.hid (cvfind 2 0 0 0 1 y (by omega) [0] _ y false 0 false (Lib.hid (by decide)) (Lib.hid (by decide)) (Lib.hid (by have := hhits.out; have := HA1.out; omega)) (Lib.hid (HWk.out y HXY.out.2)) _ HC.out)
        go_upto_region 25 with (first
          | (go_at_call 16; (with_reducible refine HCF.out.mono ?_); rintro e w10 ⟨rfl, h10, v10, E10, hm, ho, hk, hv⟩; have H10 := Lib.hid hm; have HO10 := Lib.hid ho; clear HCF hm ho hk hv q0 q1 q2 q3 q4))
        obtain ⟨rfl, d, rfl⟩ : h10 = hits ∧ ∃ d : EW, E10 = [d] := by
          rcases HO10.out with ⟨e, he, _⟩ | ⟨_, h1, ⟨_, d, _, _, h4⟩ | ⟨h2, _⟩⟩
          · cases he
          · exact ⟨h1, d, h4⟩
          · exact absurd rfl h2
        go_wp2_with (first
          | (go_at_call 23; (with_reducible refine (chits_is _ H10.out).mono ?_); rintro e w8 ⟨rfl, rfl⟩)
          | (go_at_call 22; (with_reducible refine (clen_is 1 (Lib.hid rfl) _ H10.out).mono ?_); rintro e w8 ⟨rfl, rfl⟩))
        go_ret
        exact ⟨by simp, H10.out.sv.bel⟩
theorem walk_CacheHits (a0 a1 a2 : Int) (w : World) (w0 : (Lit.int .i64 a0).wf = true) (w1 : (Lit.int .i64 a1).wf = true) (w2 : (Lit.int .i64 a2).wf = true) (hL : laidMetH Tryd.prog Rows.cacheHitsRow.laid w) :
    Calls Tryd.prog 4 #[.int .i64 a0, .int .i64 a1, .int .i64 a2] w fun e w' => e = .returned (.bool true) ∧ Below w.heap.size w w' := by
  obtain ⟨vs, vr, hE⟩ := (errs2 hL ⟨_, by repeat (first | exact List.Mem.head _ | apply List.Mem.tail)⟩ ⟨_, by repeat (first | exact List.Mem.head _ | apply List.Mem.tail)⟩)
  obtain ⟨x, hx, C0⟩ := number_nat a0 30 30 rfl (by decide) (by decide) (fit64 w0).1 (fit64 w0).2
  obtain ⟨y, hy, C1⟩ := number_nat a1 32 32 rfl (by decide) (by decide) (fit64 w1).1 (fit64 w1).2
  exact chits_walk a0 a1 a2 x y hx hy (Lib.hid C0) (Lib.hid C1) w vs vr hE
end Go.Proofs.YtedidopkemjgeaaDoor
namespace Go.Proofs.YtedidopkemjgeaaDoor
open Go.ChangeShapes Go.WideShapes Go.ChangeAt Go.RowKit
set_option linter.unusedVariables false
set_option linter.unusedSimpArgs false
/-- Ways of pages one behind the other, the eldest first. -/
def ShE (lo : Nat) (E : List EW) : Prop := ∀ q, q < E.length → ∃ e : EW, E[q]? = some e ∧ e.is 2 0 0 0 1 ((lo + q : Nat) : Int) = true
theorem EW.is_sh {e : EW} {x : Int} (h : e.is 2 0 0 0 1 x = true) : e.sh = x := by
  simp only [EW.is, Bool.and_eq_true, beq_iff_eq] at h
  exact h.2.2.2.2.2
theorem EW.is_not {e : EW} {x : Int} (h : e.sh ≠ x) : e.is 2 0 0 0 1 x = false := by
  cases h2 : e.is 2 0 0 0 1 x
  · rfl
  · exact absurd (EW.is_sh h2) h
theorem ShE.miss {lo i : Nat} {E : List EW} (h : ShE lo E) (hi : lo + E.length = i) : ∀ e, e ∈ E → e.is 2 0 0 0 1 (i : Int) = false := by
  intro e he
  obtain ⟨q, hq⟩ := List.mem_iff_getElem?.1 he
  have hql : q < E.length := (List.getElem?_eq_some_iff.1 hq).1
  obtain ⟨e', h1, h2⟩ := h q hql
  rw [hq] at h1
  injection h1 with h1
  subst h1
  exact EW.is_not (by rw [EW.is_sh h2]; omega)
theorem ShE.push {lo : Nat} {E : List EW} {d : EW} (h : ShE lo E) (hd : d.is 2 0 0 0 1 ((lo + E.length : Nat) : Int) = true) : ShE lo (E ++ [d]) := by
  intro q hq
  rw [List.length_append] at hq
  by_cases hql : q < E.length
  · obtain ⟨e, h1, h2⟩ := h q hql
    exact ⟨e, by rw [List.getElem?_append_left hql]; exact h1, h2⟩
  · have hqe : q = E.length := by simp at hq; omega
    subst hqe
    exact ⟨d, by simp, hd⟩
theorem ShE.tail {lo : Nat} {E : List EW} (h : ShE lo E) : ShE (lo + 1) E.tail := by
  intro q hq
  rw [List.length_tail] at hq
  obtain ⟨e, h1, h2⟩ := h (q + 1) (by omega)
  refine ⟨e, by rw [List.getElem?_tail]; exact h1, ?_⟩
  rw [show lo + 1 + q = lo + (q + 1) by omega]
  exact h2
theorem ShE.find {s i lo : Nat} {E E' : List EW} {full : Bool} {hits hits' : Int} (h : ShE lo E) (hl : E.length = min s i) (hlo : lo + E.length = i) (hs : 1 ≤ s) (hf : ((E.length : Int) == (s : Int)) = full) (f : FindOut E E' full hits hits' 2 0 0 0 1 (i : Int) [0] 0) : hits' = hits ∧ ∃ lo', ShE lo' E' ∧ E'.length = min s (i + 1) ∧ lo' + E'.length = i + 1 := by
  rcases f with ⟨e, he, hi, _⟩ | ⟨_, h1, ⟨_, d, hd, _, rfl⟩ | ⟨h2, _⟩⟩
  · rw [h.miss hlo e he] at hi; cases hi
  · refine ⟨h1, ?_⟩
    cases full
    · have hne : ¬ (E.length : Int) = s := by simpa using hf
      have hne : E.length ≠ s := by omega
      refine ⟨lo, h.push (by rw [hlo]; exact hd), ?_, ?_⟩
      · simp [stay]; omega
      · simp [stay]; omega
    · have he : (E.length : Int) = s := by simpa using hf
      have he : E.length = s := by omega
      have hlt : E.tail.length = E.length - 1 := List.length_tail
      refine ⟨lo + 1, h.tail.push (by rw [show lo + 1 + E.tail.length = i by omega]; exact hd), ?_, ?_⟩
      · simp [stay]; omega
      · simp [stay]; omega
  · exact absurd rfl h2
theorem ShE.hit {i lo : Nat} {E E' : List EW} {full : Bool} {hits hits' : Int} (h : ShE lo E) (h1 : lo ≤ i) (h2 : i < lo + E.length) (f : FindOut E E' full hits hits' 2 0 0 0 1 (i : Int) [0] 0) : hits' = hits + 1 ∧ E' = E := by
  rcases f with ⟨e, he, hi, h3, h4, _⟩ | ⟨hm, _⟩
  · exact ⟨h4, h3⟩
  · obtain ⟨e, he, hi⟩ := h (i - lo) (by omega)
    rw [show lo + (i - lo) = i by omega] at hi
    rw [hm e (List.mem_of_getElem? he)] at hi
    cases hi
theorem right_pg16 (q : Nat) (h : q < 16) : rightB 3 q 0 0 0 = true := by
  have h3 : q = 0 ∨ q = 1 ∨ q = 2 ∨ q = 3 ∨ q = 4 ∨ q = 5 ∨ q = 6 ∨ q = 7 ∨ q = 8 ∨ q = 9 ∨ q = 10 ∨ q = 11 ∨ q = 12 ∨ q = 13 ∨ q = 14 ∨ q = 15 := by omega
  rcases h3 with rfl | rfl | rfl | rfl | rfl | rfl | rfl | rfl | rfl | rfl | rfl | rfl | rfl | rfl | rfl | rfl <;> decide
set_option maxRecDepth 100000 in
theorem cnew_no (x : Int) (hx : Hid (x < 1 ∨ 64 < x)) (w : World) (A : Nat → Addr) (hS : Sen A w) :
    Calls Tryd.prog 15 #[.int .i64 x] w fun e w' => e = .returned (.tuple #[.pointer none, eV (sA A 2)]) ∧ Below w.heap.size w w' := by
  have c2 := hS.c2
  by_cases h1 : x < 1
  · have d1 : decide (x < 1) = true := decide_eq_true h1
    clear h1 hS
    go_enter Tryd.func15, Tryd.ntmps15
    go_wp2_with fail
    go_quiet (fail)
    go_wp2_with fail
    go_ret2
    exact ⟨rfl, below_drewN (Below.refl _ _) _⟩
  · have d1 : decide (x < 1) = false := decide_eq_false h1
    have d2 : decide (64 < x) = true := decide_eq_true (by have := hx.out; omega)
    clear h1 hS
    go_enter Tryd.func15, Tryd.ntmps15
    go_wp2_with fail
    go_quiet (fail)
    go_wp2_with fail
    go_ret2
    exact ⟨rfl, below_drewN (Below.refl _ _) _⟩
theorem srcu_noneX (w : World) (B G : Nat) : SrcU w none [] B G := ⟨fun j hj => by simp at hj⟩
/-- The first slots are pages. -/
def PgF (f : Nat → Value) (n : Nat) : Prop := (∀ i, i < n → KAt f i 3 i 0 0 0) ∧ All16 f
theorem PgF.all16 {f : Nat → Value} {n : Nat} (h : PgF f n) : All16 f := h.2
theorem way_pf {a b : Shp} {W : Nat → Nat → Value} {n i x ad : Nat} (hp : PgF (W 0) n) (hi : i < n) (hn : n ≤ 16) (ha : 0 < a.n) (hb : i < b.n) (hx : x < 32) (had : ad = 32 * i + x) : Way a b (upd (fun _ => false) 0 true) (fun _ => 0) W (ltB n) (fun _ => 0) 2 0 0 0 1 5 ad false [0] i x false 0 :=
  way_r0 (way_at 1 0 i x 3 i 0 0 0 rfl (by decide) (by decide) (by rw [had, Nat.mul_comm 32 i]) (by decide) rfl ha rfl rfl (by omega) (by simpa using hx) (hp.1 i hi) (.page (by decide) (by omega) (by simp [liveB, thereB, ltB, hi, hb]) (by omega))) (by decide)
theorem PgF.next {W : Nat → Nat → Value} {i : Nat} (h : PgF (W 0) i) (hi : i < 16) : PgF (updV W 0 (i * 5) (k5 3 i 0 0 0) 0) (i + 1) := by
  refine ⟨fun q hq => ?_, h.2.set 0 i 3 i 0 0 0⟩
  by_cases e : q = i
  · subst e; exact updV_key W 0 q 3 q 0 0 0
  · exact updV_rest W 0 i 0 q 3 i 0 0 0 (fun e' => e e'.2) (h.1 q (by omega))
set_option maxRecDepth 100000 in
set_option maxHeartbeats 8000000 in
theorem celdest_walk (a0 a1 : Int) (s M x y : Nat) (hs : Hid (x + 1 = s)) (hM : Hid (y + 1 = M)) (hx8 : x < 8) (hy16 : y < 16) (C0 : Hid (∀ w, Calls Tryd.prog 13 #[.int .i64 a0, .int .i64 8] w fun e w' => e = .returned (.int .i64 (x : Int)) ∧ w = w')) (C1 : Hid (∀ w, Calls Tryd.prog 13 #[.int .i64 a1, .int .i64 16] w fun e w' => e = .returned (.int .i64 (y : Int)) ∧ w = w')) (w : World) (vs vr : Value) (hE : ErrsAt vs vr w) (A : Nat → Addr) (hS : Sen A w) :
    Calls Tryd.prog 5 #[.int .i64 a0, .int .i64 a1] w fun e w' => e = .returned (.bool true) ∧ Below w.heap.size w w' := by
  have HE := Lib.hid hE
  have HS := Lib.hid hS
  clear hE hS
  have HXY := Lib.hid (And.intro hx8 hy16)
  have x0 : (0 : Int) ≤ x := by omega
  have x1 : (x : Int) < 8 := by omega
  have y0 : (0 : Int) ≤ y := by omega
  have y1 : (y : Int) < 16 := by omega
  have es : (x : Int) + 1 = s := by have := hs.out; omega
  have eM : (y : Int) + 1 = M := by have := hM.out; omega
  have HSM : Hid (1 ≤ s ∧ s ≤ 8 ∧ 1 ≤ M ∧ M ≤ 16) := Lib.hid (by have := hs.out; have := hM.out; omega)
  clear hx8 hy16
  go_enter Tryd.func5, Tryd.ntmps5
  go_upto_region 6 with (first
    | (go_at_call 12; (with_reducible refine (cfirst_is vs vr _ HE.out).mono ?_); rintro e w1 ⟨rfl, hb1⟩; have HB1 := Lib.hid hb1; clear hb1)
    | (go_at_call 13; (with_reducible refine (C0.out _).mono ?_); rintro e w9 ⟨rfl, rfl⟩)
    | (go_at_call 13; (with_reducible refine (C1.out _).mono ?_); rintro e w9 ⟨rfl, rfl⟩))
  have ES := Lib.hid es
  have EM := Lib.hid eM
  clear es eM x0 x1 y0 y1
  have s1 : (1 : Int) ≤ s := by have := HSM.out; omega
  have s8 : (s : Int) ≤ 64 := by have := HSM.out; omega
  have m1 : (1 : Int) ≤ M := by have := HSM.out; omega
  have m16 : (M : Int) ≤ 16 := by have := HSM.out; omega
  go_upto_region 8 with (first
    | (go_at_call 24; (with_reducible refine (snew_ok 1 16 1 16 (Lib.hid rfl) (Lib.hid rfl) (by decide) (by decide) (by decide) (by decide) _).mono ?_); rintro e w2 ⟨S, a, b, rfl, hs, hn, hb⟩; have HN := Lib.hid hn.out; have H2 : Hid (SV w w2 S a b _ _ _ _ _ _) := Lib.hid ⟨HB1.out.trans (hb.mono HB1.out.size), by have := hn.out.2.2; have := HB1.out.size; omega, hs⟩; clear hs hb hn)
    | (go_at_call 15; (with_reducible refine (cnew_ok (s : Int) s1 s8 _).mono ?_); rintro e w3 ⟨cb, rfl, hc, hb⟩; have H3 := Lib.hid (CV.new H2.out hc hb); clear hc hb))
  obtain ⟨N, hN⟩ : ∃ N, w2.heap.size = N := ⟨_, rfl⟩
  rw [hN] at H3
  have HAB : Hid (0 < a.n ∧ b.n = 16) := Lib.hid (by have := HN.out; omega)
  have HTA : Hid ((upd (fun _ => false) 0 true) 0 = true) := Lib.hid rfl
  clear hN H2 HB1
  have s0 := H3.out.sv.st.s0
  go_upto_region 11 with (first
    | (go_at_call 25; (with_reducible refine (nmake_at 0 vs vr none 0 0 (fun _ _ => 0) (by decide) (Lib.hid (by intro i hi; omega)) 0 (Lib.hid rfl) HAB.out.1 (Lib.hid (by decide)) (Lib.hid (by intro i hi; omega)) 0 (Lib.hid rfl) _ (HE.out.below H3.out.sv.bel) H3.out.sv.st.nd (srcK_none _ _ _ _)).mono ?_); rintro e w5 ⟨rfl, hM, hb⟩; have H5 := Lib.hid (H3.out.node hM hb ways_nil); clear hM hb s0))
  obtain ⟨W0, hW0⟩ : ∃ W0, W0 = freshV (fun _ b => zc b) 0 (kcs (fun _ _ => 0) 0) := ⟨_, rfl⟩
  have HA16 : Hid (All16 (W0 0)) := Lib.hid (by rw [hW0]; exact All16.fresh _ _ _)
  rw [← hW0] at H5
  clear hW0 H3
  go_wp2_with fail
  go_loopw [10] (fun z wr => ∃ (i : Nat) (W : Nat → Nat → Value) (W2 : Nat → Nat → Int), i ≤ M ∧ z = .int .i64 i ∧ (CV w wr S a b N cb (s : Int) (upd (fun _ => false) 0 true) (fun _ => 0) W (ltB i) (fun _ => 0) W2 0 (.slice none 0 0) []) ∧ PgF (W 0) i) (fun z _ => 20 - (intOf z).toNat)
  case atStart => exact ⟨0, W0, _, by omega, rfl, by rw [ltB_0]; exact H5.out, fun i hi => by omega, HA16.out⟩
  case round =>
    obtain ⟨i, W, W2, hi, rfl, hc, hp⟩ := hrel
    have HC := Lib.hid hc
    have HP := Lib.hid hp
    have i0 : (0 : Int) ≤ i := by omega
    have i16 : (i : Int) ≤ 16 := by have := HSM.out; omega
    clear hc hp H5
    by_cases hlt : i < M
    · have i1 : (i : Int) < M := by omega
      have HI16 : Hid (i < 16 ∧ i < b.n) := Lib.hid (by have := HSM.out; have := HAB.out; omega)
      have sp := HC.out.sv.st.s1
      go_upto_region 15 with (first
        | (go_at_call 26; (with_reducible refine (pmake_at i none 0 0 [] (Lib.hid rfl) (by decide) i (Lib.hid rfl) HI16.out.2 (Lib.hid (by simp [freeB, ltB])) (Lib.hid (by intro q hq; simp [freeB, ltB, hq])) 0 (Lib.hid rfl) _ HC.out.sv.st.pg (srcu_noneX _ _ _)).mono ?_); rintro e w6 ⟨rfl, hP, hb⟩; have hc6 := HC.out.page hP hb ways_nil; rw [ltB_s] at hc6; have H6 := Lib.hid hc6; clear hP hb hc6 sp))
      obtain ⟨W2', hW2'⟩ : ∃ W2', W2' = fresh W2 i [] := ⟨_, rfl⟩
      rw [← hW2'] at H6
      have HTI : Hid (ltB (i + 1) i = true) := Lib.hid (by simp [ltB])
      clear hW2' HC
      refine wp_region_noPanic ?_
      refine wp_region_held_drew (S := fun w' => World.cell? w' ⟨S, 0, none⟩ = some (.pointer (some ⟨a.P, 0, none⟩))) (by kernel_rfl) (H6.out.below (Below.refl w6.heap.size w6).drew).sv.st.s0 (fun hHeld => ?_)
      refine wpAnyH_take (i := 0) (v := ?_) (by rfl) (by kernel_rfl) (by kernel_rfl) (by kernel_rfl) (fun _ _ _ h => h) (Or.inl ⟨by kernel_rfl, ?_⟩) (by assumption) ?_; rotate_left 1; (focus (intro w hSw; (try dsimp only at hSw); simp only [List.getElem_toArray, List.getElem_cons_succ, List.getElem_cons_zero]; all_goals go_simp; all_goals (try with_reducible rfl))); (try simp only [Act.put, List.getElem_toArray, List.getElem_cons_succ, List.getElem_cons_zero, List.setIfInBounds_toArray, List.set_cons_zero, List.set_cons_succ])
      refine wpAnyH_take (i := 1) (v := ?_) (by rfl) (by kernel_rfl) (by kernel_rfl) (by kernel_rfl) (fun _ _ _ h => h) (Or.inl ⟨by kernel_rfl, ?_⟩) (by assumption) ?_; rotate_left 1; (focus (intro w hSw; (try dsimp only at hSw); simp only [List.getElem_toArray, List.getElem_cons_succ, List.getElem_cons_zero]; all_goals go_simp; all_goals (try with_reducible rfl))); (try simp only [Act.put, List.getElem_toArray, List.getElem_cons_succ, List.getElem_cons_zero, List.setIfInBounds_toArray, List.set_cons_zero, List.set_cons_succ])
      refine wpAnyH_take (i := 2) (v := ?_) (by rfl) (by kernel_rfl) (by kernel_rfl) (by kernel_rfl) (fun _ _ _ h => h) (Or.inl ⟨by kernel_rfl, ?_⟩) (by assumption) ?_; rotate_left 1; (focus (intro w hSw; (try dsimp only at hSw); simp only [List.getElem_toArray, List.getElem_cons_succ, List.getElem_cons_zero]; all_goals go_simp; all_goals (try with_reducible rfl))); (try simp only [Act.put, List.getElem_toArray, List.getElem_cons_succ, List.getElem_cons_zero, List.setIfInBounds_toArray, List.set_cons_zero, List.set_cons_succ])
      refine wpAnyH_take (i := 3) (v := ?_) (by rfl) (by kernel_rfl) (by kernel_rfl) (by kernel_rfl) (fun _ _ _ h => h) (Or.inl ⟨by kernel_rfl, ?_⟩) (by assumption) ?_; rotate_left 1; (focus (intro w hSw; (try dsimp only at hSw); simp only [List.getElem_toArray, List.getElem_cons_succ, List.getElem_cons_zero]; all_goals go_simp; all_goals (try with_reducible rfl))); (try simp only [Act.put, List.getElem_toArray, List.getElem_cons_succ, List.getElem_cons_zero, List.setIfInBounds_toArray, List.set_cons_zero, List.set_cons_succ])
      refine wpAnyH_take (i := 4) (v := ?_) (by rfl) (by kernel_rfl) (by kernel_rfl) (by kernel_rfl) (fun _ _ _ h => h) (Or.inl ⟨by kernel_rfl, ?_⟩) (by assumption) ?_; rotate_left 1; (focus (intro w hSw; (try dsimp only at hSw); simp only [List.getElem_toArray, List.getElem_cons_succ, List.getElem_cons_zero]; all_goals go_simp; all_goals (try with_reducible rfl))); (try simp only [Act.put, List.getElem_toArray, List.getElem_cons_succ, List.getElem_cons_zero, List.setIfInBounds_toArray, List.set_cons_zero, List.set_cons_succ])
      refine wpAnyH_take (i := 5) (v := ?_) (by rfl) (by kernel_rfl) (by kernel_rfl) (by kernel_rfl) (fun _ _ _ h => h) (Or.inl ⟨by kernel_rfl, ?_⟩) (by assumption) ?_; rotate_left 1; (focus (intro w hSw; (try dsimp only at hSw); simp only [List.getElem_toArray, List.getElem_cons_succ, List.getElem_cons_zero]; all_goals go_simp; all_goals (try with_reducible rfl))); (try simp only [Act.put, List.getElem_toArray, List.getElem_cons_succ, List.getElem_cons_zero, List.setIfInBounds_toArray, List.set_cons_zero, List.set_cons_succ])
      refine wpAnyH_take (i := 6) (v := ?_) (by rfl) (by kernel_rfl) (by kernel_rfl) (by kernel_rfl) (fun _ _ _ h => h) (Or.inl ⟨by kernel_rfl, ?_⟩) (by assumption) ?_; rotate_left 1; (focus (intro w hSw; (try dsimp only at hSw); simp only [List.getElem_toArray, List.getElem_cons_succ, List.getElem_cons_zero]; all_goals go_simp; all_goals (try with_reducible rfl))); (try simp only [Act.put, List.getElem_toArray, List.getElem_cons_succ, List.getElem_cons_zero, List.setIfInBounds_toArray, List.set_cons_zero, List.set_cons_succ])
      refine wpAnyH_ready (rs := [7]) (by kernel_rfl) (by simp) ?_; refine AllReadyH.cons (by rfl) (fun K hK => ?_) AllReadyH.nil; rw [if_pos (by kernel_rfl)]; simp only [List.getElem_toArray, List.getElem_cons_succ, List.getElem_cons_zero]
      have HD := Lib.hid (H6.out.below (Below.refl w6.heap.size w6).drew)
      go_wp2_with (first
        | (go_at_call 27; (with_reducible refine (spagekey_in (i : Int) i (Lib.hid rfl) HI16.out.2 HTI 0 (Lib.hid rfl) _ HD.out.sv.st).mono ?_); rintro e w7 ⟨rfl, hb⟩; have H7 := Lib.hid (HD.out.below hb); clear hb))
      refine hK.out _ _ H7.out.sv.st.s0 (fun hHeld => ?_)
      clear hK K
      (try simp only [Act.put, List.getElem_toArray, List.getElem_cons_succ, List.getElem_cons_zero, List.setIfInBounds_toArray, List.set_cons_zero, List.set_cons_succ])
      refine wpAnyH_ready (rs := [8]) (by kernel_rfl) (by simp) ?_; refine AllReadyH.cons (by rfl) (fun K hK => ?_) AllReadyH.nil; rw [if_pos (by kernel_rfl)]; simp only [List.getElem_toArray, List.getElem_cons_succ, List.getElem_cons_zero]
      go_wp2_with (first
        | (go_at_call 19; (with_reducible refine (nset_at vs vr 0 (i : Int) 0 i (Lib.hid rfl) (Lib.hid rfl) HAB.out.1 HI16.out.1 HTA 3 (i : Int) 0 0 0 (Lib.hid (right_pg16 i HI16.out.1)) _ (HE.out.below H7.out.sv.bel) H7.out.sv.st.nd (Lib.hid HP.out.all16.one)).mono ?_); rintro e w8 ⟨rfl, hM, hb⟩; have H8 := Lib.hid (H7.out.node hM hb ways_nil); clear hM hb))
      refine hK.out _ _ H8.out.sv.st.s0 (fun hHeld => ?_)
      clear hK K
      (try simp only [Act.put, List.getElem_toArray, List.getElem_cons_succ, List.getElem_cons_zero, List.setIfInBounds_toArray, List.set_cons_zero, List.set_cons_succ])
      refine wpAnyH_done (by kernel_rfl) ?_ _
      refine NoPanic.normal ?_
      go_wp2_with fail
      go_roundw
      case rel => exact ⟨i + 1, _, W2', by omega, by go_num, H8.out, HP.out.next HI16.out.1⟩
      case measure => simp [intOf]; omega
    · obtain rfl : i = M := by omega
      have hii : ¬ (i : Int) < i := by omega
      go_upto_region 17 with (first
        | (go_at_call 28; (with_reducible refine (snodekey_in 0 1 0 (Lib.hid rfl) (by decide) (by decide) HAB.out.1 HTA 0 (Lib.hid rfl) _ HC.out.sv.st).mono ?_); rintro e w8 ⟨rfl, hb⟩; have H8 := Lib.hid (HC.out.below hb); clear hb))
      obtain ⟨w9, hw9⟩ : ∃ w9, w9 = w8.alloc (.cells #[.int .i64 2, .int .i64 0, .int .i64 0, .int .i64 0, .int .u32 1] 29 (0, 0)) := ⟨_, rfl⟩
      rw [← hw9]
      have H9 : Hid (CV w w9 S a b N cb (s : Int) (upd (fun _ => false) 0 true) (fun _ => 0) W (ltB i) (fun _ => 0) W2 0 (.slice none 0 0) []) := Lib.hid (by rw [hw9]; exact H8.out.below ((Below.refl _ _).alloc (Nat.le_refl _) _))
      have HK9 : Hid (KeyC w9 w8.heap.size 2 0 0 0 1) := Lib.hid (by rw [hw9]; exact KeyC.new _ _ _ _ _ _ _)
      obtain ⟨kb, hkb⟩ : ∃ kb, Hid (w8.heap.size = kb) := ⟨_, Lib.hid rfl⟩
      have HO9 : Hid (OutC cb (.slice none 0 0) kb) := Lib.hid ⟨by rw [← hkb.out]; have := H8.out.ca.cl; omega, by simp [Value.ownBlock]⟩
      rw [hkb.out] at HK9 ⊢
      clear hw9 hkb HC H8
      have HWk : Hid (∀ q x ad : Nat, q < i → x < 32 → 32 * q + x = ad → Way a b (upd (fun _ => false) 0 true) (fun _ => 0) W (ltB i) (fun _ => 0) 2 0 0 0 1 5 ((ad : Nat) : Int) false [0] ((q : Nat) : Int) ((x : Nat) : Int) false 0) := Lib.hid (fun q x ad hq hx had => way_pf HP.out hq (by have := HSM.out; omega) HAB.out.1 (by have := HSM.out; have := HAB.out; omega) hx had.symm)
      go_wp2_with fail
      go_loopw [12] (fun z wr => ∃ (j lo : Nat) (v : Value) (E : List EW), j ≤ i ∧ z = .int .i64 j ∧ (CV w wr S a b N cb (s : Int) (upd (fun _ => false) 0 true) (fun _ => 0) W (ltB i) (fun _ => 0) W2 0 v E) ∧ KeyC wr kb 2 0 0 0 1 ∧ OutC cb v kb ∧ ShE lo E ∧ E.length = min s j ∧ lo + E.length = j) (fun z _ => 20 - (intOf z).toNat)
      case atStart => exact ⟨0, 0, _, [], by omega, rfl, H9.out, HK9.out, HO9.out, fun q hq => by simp at hq, by simp, by simp⟩
      case round =>
        obtain ⟨j, lo, v, E, hj, rfl, hc, hk, ho, hse, hl, hlo⟩ := hrel
        have HC := Lib.hid hc
        have HK := Lib.hid hk
        have HO := Lib.hid ho
        have HSE := Lib.hid hse
        have HL := Lib.hid (And.intro hl hlo)
        have j0 : (0 : Int) ≤ j := by omega
        have j16 : (j : Int) ≤ 16 := by have := HSM.out; omega
        obtain ⟨full, hfull⟩ : ∃ full, Hid (((E.length : Int) == (s : Int)) = full) := ⟨_, Lib.hid rfl⟩
        have HRm : Hid ((E.length : Int) ≤ s ∧ (1 : Int) ≤ s ∧ (s : Int) ≤ 64) := Lib.hid (by have := HSM.out; omega)
        clear hc hk ho hse hl hlo H9 HK9
        have q0 := HK.out.c0
        have q1 := HK.out.c1
        have q2 := HK.out.c2
        have q3 := HK.out.c3
        have q4 := HK.out.c4
        by_cases hlt : j < i
        · have j1 : (j : Int) < i := by omega
          obtain ⟨ad, had⟩ : ∃ ad : Nat, Hid (32 * j = ad) := ⟨_, Lib.hid rfl⟩
          have ead : (32 : Int) * j = ad := by have := had.out; omega
          have ad0 : (0 : Int) ≤ ad := by omega
          have ad1 : (ad : Int) ≤ 1000 := by have := had.out; have := HSM.out; omega
          have HQ : Hid ((ad : Int) / 32 = (j : Int)) := Lib.hid (by omega)
          have HCF := Lib.hid (cvfind 2 0 0 0 1 ad (by omega) [0] _ _ false 0 full HRm hfull (Lib.hid (by decide)) (Lib.hid (HWk.out j 0 ad hlt (by decide) had.out)) _ HC.out)
          go_wp2_with (first
            | (go_at_call 16; (with_reducible refine HCF.out.mono ?_); rintro e w10 ⟨rfl, h10, v10, E10, hm, ho, hk, hv⟩; have HK10 := Lib.hid (HK.out.keepB hk HO.out); have HO10 := Lib.hid (HO.out.next HK.out.lt hv); rw [HQ.out] at ho; have hsf := HSE.out.find HL.out.1 HL.out.2 HSM.out.1 hfull.out ho; rw [hsf.1] at hm; have H10 := Lib.hid hm; have HF10 := Lib.hid hsf.2; clear HCF hm ho hk hv hsf q0 q1 q2 q3 q4))
          go_roundw
          case rel =>
            obtain ⟨lo', g1, g2, g3⟩ := HF10.out
            exact ⟨j + 1, lo', v10, E10, by omega, by go_num, H10.out, HK10.out, HO10.out, g1, g2, g3⟩
          case measure => simp [intOf]; omega
        · obtain rfl : j = i := by omega
          have hjj : ¬ (j : Int) < j := by omega
          have HWF : Hid (Way a b (upd (fun _ => false) 0 true) (fun _ => 0) W (ltB j) (fun _ => 0) 2 0 0 0 1 5 ((600 : Nat) : Int) false [] 0 0 false 3) := Lib.hid (way_voidX _ _ _ (by decide) (by simp [entP, szP, szB, liveB, thereB, upd, HAB.out.1]) rfl)
          have hcf := cvfind 2 0 0 0 1 600 (by decide) [] 0 0 false 3 full HRm hfull (Lib.hid (by decide)) HWF _ HC.out
          rw [show ((600 : Nat) : Int) = 600 from rfl] at hcf
          have HCF := Lib.hid hcf
          clear hcf
          go_upto_region 22 with (first
            | (go_at_call 16; (with_reducible refine HCF.out.mono ?_); rintro e w10 ⟨rfl, h10, v10, E10, hm, ho, hk, hv⟩; have HK10 := Lib.hid (HK.out.keepB hk HO.out); have HO10 := Lib.hid (HO.out.next HK.out.lt hv); have hsf := ho.fault (by decide); rw [hsf.1, hsf.2] at hm; have H10 := Lib.hid hm; clear HCF hm ho hk hv hsf q0 q1 q2 q3 q4))
          have HJM : Hid (1 ≤ j ∧ j ≤ 16 ∧ 1 ≤ s ∧ s ≤ 8) := Lib.hid (by have := HSM.out; omega)
          have HCX := Lib.hid (fun K (hK : E.length = K) => clen_is K (Lib.hid hK) _ H10.out)
          have HHX := Lib.hid (chits_is _ H10.out)
          go_cut [102] (fun v wx => v = .bool false ∧ wx = w10)
          case first =>
            by_cases hjs : j < s
            · have h1 : (j : Int) < s := by omega
              have hKj : E.length = j := by have := HL.out; omega
              have HCL := Lib.hid (HCX.out j hKj)
              clear hKj
              go_wp2_with (first
                | (go_at_call 22; (with_reducible refine HCL.out.mono ?_); rintro e w11 ⟨rfl, rfl⟩)
                | (go_at_call 23; (with_reducible refine HHX.out.mono ?_); rintro e w11 ⟨rfl, rfl⟩))
              go_meet
              exact ⟨by simp, rfl⟩
            · have h1 : ¬ (j : Int) < s := by omega
              have hKs : E.length = s := by have := HL.out; omega
              have HCL := Lib.hid (HCX.out s hKs)
              clear hKs
              go_wp2_with (first
                | (go_at_call 22; (with_reducible refine HCL.out.mono ?_); rintro e w11 ⟨rfl, rfl⟩)
                | (go_at_call 23; (with_reducible refine HHX.out.mono ?_); rintro e w11 ⟨rfl, rfl⟩))
              go_meet
              exact ⟨by simp, rfl⟩
          case rest =>
            obtain ⟨rfl, rfl⟩ := hcut
            go_upto_region 24 with fail
            go_cut [13] (fun v wx => v = .int .i64 (lo : Int) ∧ wx = wc)
            case first =>
              by_cases hjs : j ≤ s
              · have h1 : ¬ (0 : Int) < (j : Int) - s := by omega
                have hl0 : lo = 0 := by have := HL.out; omega
                go_wp2_with fail
                go_meet
                exact ⟨by rw [hl0]; rfl, rfl⟩
              · have h1 : (0 : Int) < (j : Int) - s := by omega
                have hl0 : (j : Int) - s = lo := by have := HL.out; omega
                go_wp2_with fail
                go_meet
                exact ⟨by simp [hl0], rfl⟩
            case rest =>
              obtain ⟨rfl, rfl⟩ := hcut
              have HLo : Hid (lo ≤ j ∧ lo + E.length = j) := Lib.hid (by have := HL.out; omega)
              clear HCX HHX
              go_wp2_with fail
              go_loopw [13] (fun z wr => ∃ (q : Nat) (hits : Int) (v : Value), lo ≤ q ∧ q ≤ j ∧ z = .int .i64 q ∧ hits = ((q - lo : Nat) : Int) ∧ (CV w wr S a b N cb (s : Int) (upd (fun _ => false) 0 true) (fun _ => 0) W (ltB j) (fun _ => 0) W2 hits v E) ∧ KeyC wr kb 2 0 0 0 1 ∧ OutC cb v kb) (fun z _ => 20 - (intOf z).toNat)
              case atStart => exact ⟨lo, 0, _, Nat.le_refl _, HLo.out.1, rfl, by simp, H10.out, HK10.out, HO10.out⟩
              case round =>
                obtain ⟨q, hits, v, hlq, hqj, rfl, hh, hc, hk, ho⟩ := hrel
                have HC3 := Lib.hid hc
                have HK3 := Lib.hid hk
                have HO3 := Lib.hid ho
                have HH := Lib.hid hh
                have q00 : (0 : Int) ≤ q := by omega
                have q16 : (q : Int) ≤ 16 := by have := HJM.out; omega
                clear hc hk ho hh
                by_cases hqlt : q < j
                · have q1 : (q : Int) < j := by omega
                  obtain ⟨ad, had⟩ : ∃ ad : Nat, Hid (32 * q + 5 = ad) := ⟨_, Lib.hid rfl⟩
                  have ead : (32 : Int) * q + 5 = ad := by have := had.out; omega
                  have ad0 : (0 : Int) ≤ ad := by omega
                  have ad1 : (ad : Int) ≤ 1000 := by omega
                  have HQ : Hid ((ad : Int) / 32 = (q : Int)) := Lib.hid (by omega)
                  have HCF := Lib.hid (cvfind 2 0 0 0 1 ad (by omega) [0] _ _ false 0 full HRm hfull (Lib.hid (by have := HH.out; omega)) (Lib.hid (HWk.out q 5 ad hqlt (by decide) had.out)) _ HC3.out)
                  have r0 := HK3.out.c0
                  have r1 := HK3.out.c1
                  have r2 := HK3.out.c2
                  have r3 := HK3.out.c3
                  have r4 := HK3.out.c4
                  go_wp2_with (first
                    | (go_at_call 16; (with_reducible refine HCF.out.mono ?_); rintro e w12 ⟨rfl, h12, v12, E12, hm, ho, hk, hv⟩; have HK12 := Lib.hid (HK3.out.keepB hk HO3.out); have HO12 := Lib.hid (HO3.out.next HK3.out.lt hv); rw [HQ.out] at ho; have hsf := HSE.out.hit hlq (by have := HLo.out; omega) ho; rw [hsf.1, hsf.2] at hm; have H12 := Lib.hid hm; clear HCF hm ho hk hv hsf r0 r1 r2 r3 r4))
                  go_roundw
                  case rel => exact ⟨q + 1, hits + 1, v12, by omega, by omega, by go_num, by have := HH.out; omega, H12.out, HK12.out, HO12.out⟩
                  case measure => simp [intOf]; omega
                · obtain rfl : q = j := by omega
                  have hqq : ¬ (q : Int) < q := by omega
                  have HHX := Lib.hid (chits_is _ HC3.out)
                  have HHv : Hid (hits = ((q - lo : Nat) : Int)) := HH
                  have HCO := Lib.hid (HC3.out.sv.bel)
                  go_upto_region 28 with fail
                  go_cut [125] (fun v wx => v = .bool false ∧ wx = wr)
                  case first =>
                    by_cases hjs : q < s
                    · have h1 : (q : Int) < s := by omega
                      have h2 : hits = q := by have := HHv.out; have := HL.out; omega
                      go_wp2_with (first
                        | (go_at_call 23; (with_reducible refine HHX.out.mono ?_); rintro e w13 ⟨rfl, rfl⟩))
                      go_meet
                      exact ⟨by simp, rfl⟩
                    · have h1 : ¬ (q : Int) < s := by omega
                      have h2 : hits = s := by have := HHv.out; have := HL.out; omega
                      go_wp2_with (first
                        | (go_at_call 23; (with_reducible refine HHX.out.mono ?_); rintro e w13 ⟨rfl, rfl⟩))
                      go_meet
                      exact ⟨by simp, rfl⟩
                  case rest =>
                    obtain ⟨rfl, rfl⟩ := hcut
                    have HS3 := Lib.hid (HS.out.below HCO.out)
                    go_wp2_with (first
                      | (go_at_call 15; (with_reducible refine (cnew_no 0 (Lib.hid (by decide)) _ A HS3.out).mono ?_); rintro e w14 ⟨rfl, hb⟩; have HB14 := Lib.hid (HCO.out.trans (hb.mono HCO.out.size)); have HS14 := Lib.hid (HS.out.below HB14.out); clear hb)
                      | (go_at_call 15; (with_reducible refine (cnew_no 65 (Lib.hid (by decide)) _ A HS14.out).mono ?_); rintro e w15 ⟨rfl, hb⟩; have HB15 := Lib.hid (HB14.out.trans (hb.mono HB14.out.size)); have HS15 := Lib.hid (HS.out.below HB15.out); clear hb)
                      | (go_at_call 29; (with_reducible refine (is_sen A 2 103 (by decide) (Lib.hid (by decide)) _ HS15.out).mono ?_); rintro e w16 ⟨rfl, hb⟩; have HB16 := Lib.hid (HB15.out.trans (hb.mono HB15.out.size)); have HS16 := Lib.hid (HS.out.below HB16.out); clear hb)
                      | (go_at_call 29; (with_reducible refine (is_sen A 2 103 (by decide) (Lib.hid (by decide)) _ HS16.out).mono ?_); rintro e w17 ⟨rfl, hb⟩; have HB17 := Lib.hid (HB16.out.trans (hb.mono HB16.out.size)); clear hb))
                    go_ret
                    exact ⟨rfl, HB17.out⟩
theorem walk_CacheEldest (a0 a1 : Int) (w : World) (w0 : (Lit.int .i64 a0).wf = true) (w1 : (Lit.int .i64 a1).wf = true) (hL : laidMetH Tryd.prog Rows.cacheEldestRow.laid w) :
    Calls Tryd.prog 5 #[.int .i64 a0, .int .i64 a1] w fun e w' => e = .returned (.bool true) ∧ Below w.heap.size w w' := by
  obtain ⟨vs, vr, hE⟩ := (errs2 hL ⟨_, by repeat (first | exact List.Mem.head _ | apply List.Mem.tail)⟩ ⟨_, by repeat (first | exact List.Mem.head _ | apply List.Mem.tail)⟩)
  have hS := (sen_of hL (by intro n hn; simp only [List.mem_cons, List.not_mem_nil, or_false] at hn; rcases hn with rfl | rfl | rfl | rfl | rfl | rfl | rfl | rfl | rfl | rfl | rfl | rfl <;> exact ⟨_, by repeat (first | exact List.Mem.head _ | apply List.Mem.tail)⟩))
  obtain ⟨x, hx, C0⟩ := number_nat a0 8 8 rfl (by decide) (by decide) (fit64 w0).1 (fit64 w0).2
  obtain ⟨y, hy, C1⟩ := number_nat a1 16 16 rfl (by decide) (by decide) (fit64 w1).1 (fit64 w1).2
  exact celdest_walk a0 a1 (x + 1) (y + 1) x y (Lib.hid rfl) (Lib.hid rfl) hx hy (Lib.hid C0) (Lib.hid C1) w vs vr hE _ hS
end Go.Proofs.YtedidopkemjgeaaDoor
