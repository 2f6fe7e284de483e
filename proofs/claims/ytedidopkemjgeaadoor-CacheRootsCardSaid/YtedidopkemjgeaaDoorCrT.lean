/-
  Cr as one.
-/
import Derived.Test.YtedidopkemjgeaaDoorP11
import Derived.Test.YtedidopkemjgeaaDoorP10
namespace Go.Proofs.YtedidopkemjgeaaDoor
open Go.ChangeShapes Go.WideShapes Go.ChangeAt Go.RowKit
set_option linter.unusedVariables false
set_option linter.unusedSimpArgs false
theorem FindOut.more {E E' : List EW} {hits hits' k0 k1 k2 k3 k4 sh f : Int} {ids : List Int} (h : FindOut E E' false hits hits' k0 k1 k2 k3 k4 sh ids f) : E'.length ≤ E.length + 1 ∧ hits ≤ hits' ∧ hits' ≤ hits + 1 := by
  rcases h with ⟨e, _, _, rfl, rfl, _⟩ | ⟨_, rfl, ⟨_, d, _, _, rfl⟩ | ⟨_, rfl⟩⟩
  · omega
  · simp [stay]; omega
  · omega
/-- The three keys of this law, in their boxes. -/
structure Box3 (w : World) (cb : Nat) (v : Value) (bk br bp : Nat) : Prop where
  k : KeyC w bk 2 0 0 0 1
  r : KeyC w br 2 0 0 1 1
  p : KeyC w bp 3 0 0 0 0
  ok : OutC cb v bk
  or : OutC cb v br
  op : OutC cb v bp
theorem Box3.next {w w' : World} {cb : Nat} {v v' : Value} {bk br bp : Nat} (h : Box3 w cb v bk br bp) (hk : KeepB w w' cb v) (hv : v'.ownBlock = v.ownBlock ∨ ∃ g, w.heap.size ≤ g ∧ v'.ownBlock = some g) : Box3 w' cb v' bk br bp :=
  ⟨h.k.keepB hk h.ok, h.r.keepB hk h.or, h.p.keepB hk h.op, h.ok.next h.k.lt hv, h.or.next h.r.lt hv, h.op.next h.p.lt hv⟩
theorem Box3.below {w w' : World} {cb : Nat} {v : Value} {bk br bp : Nat} (h : Box3 w cb v bk br bp) (hb : Below w.heap.size w w') : Box3 w' cb v bk br bp :=
  ⟨h.k.below hb, h.r.below hb, h.p.below hb, h.ok, h.or, h.op⟩
theorem full8 {n : Nat} (h : n ≤ 7) : ((n : Int) == 8) = false := by simp; omega
set_option maxRecDepth 100000 in
set_option maxHeartbeats 8000000 in
theorem croots_walk (a0 : Int) (a1 : Bool) (hu0 : 0 ≤ a0) (hu1 : a0 ≤ 4294967295) (w : World) (vs vr : Value) (hE : ErrsAt vs vr w) :
    Calls Tryd.prog 6 #[.int .u32 a0, .bool a1] w fun e w' => e = .returned (.bool true) ∧ Below w.heap.size w w' := by
  have HE := Lib.hid hE
  obtain ⟨ad, had⟩ : ∃ ad : Nat, (ad : Int) = a0 % 32 := ⟨(a0 % 32).toNat, by omega⟩
  have hadl : ad < 32 := by omega
  have HAD := Lib.hid hadl
  have EAD : Hid (a0.tmod 32 = ad) := Lib.hid (by rw [Int.tmod_eq_emod_of_nonneg hu0]; exact had.symm)
  clear hE had hu0 hu1 hadl
  go_enter Tryd.func6, Tryd.ntmps6
  go_upto_region 6 with (first
    | (go_at_call 12; (with_reducible refine (cfirst_is vs vr _ HE.out).mono ?_); rintro e w1 ⟨rfl, hb1⟩; have HB1 := Lib.hid hb1; clear hb1)
    | (go_at_call 24; (with_reducible refine (snew_ok 1 2 1 2 (Lib.hid rfl) (Lib.hid rfl) (by decide) (by decide) (by decide) (by decide) _).mono ?_); rintro e w2 ⟨S, a, b, rfl, hs, hn, hb⟩; have HN := Lib.hid hn.out; have H2 : Hid (SV w w2 S a b _ _ _ _ _ _) := Lib.hid ⟨HB1.out.trans (hb.mono HB1.out.size), by have := hn.out.2.2; have := HB1.out.size; omega, hs⟩; clear hs hb hn)
    | (go_at_call 15; (with_reducible refine (cnew_ok 8 (by decide) (by decide) _).mono ?_); rintro e w3 ⟨cb, rfl, hc, hb⟩; have H3 := Lib.hid (CV.new H2.out hc hb); clear hc hb))
  obtain ⟨N, hN⟩ : ∃ N, w2.heap.size = N := ⟨_, rfl⟩
  rw [hN] at H3
  have HAB : Hid (0 < a.n ∧ 0 < b.n) := Lib.hid (by have := HN.out; omega)
  clear hN H2 HB1
  have s1 := H3.out.sv.st.s1
  go_upto_region 9 with (first
    | (go_at_call 26; (with_reducible refine (pmake_at 0 (some ⟨w3.heap.size, 0, none⟩) 1 1 [1] (Lib.hid rfl) (by decide) 0 (Lib.hid rfl) HAB.out.2 (Lib.hid (by decide)) (Lib.hid (by intro i hi; omega)) 0 (Lib.hid rfl) _ (H3.out.sv.st.pg.below ((Below.refl _ _).alloc (Nat.le_refl _) _)) (srcu1 w3 1 _ b.B b.G H3.out.sv.st.pg.ar.lt.2 (H3.out.sv.st.pg.row.lt b.G rfl).2)).mono ?_); rintro e w4 ⟨rfl, hP, hb⟩; have H4 := Lib.hid ((H3.out.below ((Below.refl _ _).alloc (Nat.le_refl _) _)).page hP hb ways_nil); clear hP hb s1))
  obtain ⟨W2, hW2⟩ : ∃ W2, W2 = fresh (fun _ _ => 0) 0 [1] := ⟨_, rfl⟩
  rw [← hW2] at H4
  have HTA : Hid ((upd (fun _ => false) 0 true) 0 = true) := Lib.hid rfl
  clear hW2 H3
  refine wp_region_noPanic ?_
  refine wp_region_held_drew (S := fun w' => World.cell? w' ⟨S, 0, none⟩ = some (.pointer (some ⟨a.P, 0, none⟩))) (by kernel_rfl) (H4.out.below (Below.refl w4.heap.size w4).drew).sv.st.s0 (fun hHeld => ?_)
  refine wpAnyH_take (i := 0) (v := ?_) (by rfl) (by kernel_rfl) (by kernel_rfl) (by kernel_rfl) (fun _ _ _ h => h) (Or.inl ⟨by kernel_rfl, ?_⟩) (by assumption) ?_; rotate_left 1; (focus (intro w hSw; (try dsimp only at hSw); simp only [List.getElem_toArray, List.getElem_cons_succ, List.getElem_cons_zero]; all_goals go_simp; all_goals (try with_reducible rfl))); (try simp only [Act.put, List.getElem_toArray, List.getElem_cons_succ, List.getElem_cons_zero, List.setIfInBounds_toArray, List.set_cons_zero, List.set_cons_succ])
  refine wpAnyH_take (i := 1) (v := ?_) (by rfl) (by kernel_rfl) (by kernel_rfl) (by kernel_rfl) (fun _ _ _ h => h) (Or.inl ⟨by kernel_rfl, ?_⟩) (by assumption) ?_; rotate_left 1; (focus (intro w hSw; (try dsimp only at hSw); simp only [List.getElem_toArray, List.getElem_cons_succ, List.getElem_cons_zero]; all_goals go_simp; all_goals (try with_reducible rfl))); (try simp only [Act.put, List.getElem_toArray, List.getElem_cons_succ, List.getElem_cons_zero, List.setIfInBounds_toArray, List.set_cons_zero, List.set_cons_succ])
  refine wpAnyH_take (i := 2) (v := ?_) (by rfl) (by kernel_rfl) (by kernel_rfl) (by kernel_rfl) (fun _ _ _ h => h) (Or.inl ⟨by kernel_rfl, ?_⟩) (by assumption) ?_; rotate_left 1; (focus (intro w hSw; (try dsimp only at hSw); simp only [List.getElem_toArray, List.getElem_cons_succ, List.getElem_cons_zero]; all_goals go_simp; all_goals (try with_reducible rfl))); (try simp only [Act.put, List.getElem_toArray, List.getElem_cons_succ, List.getElem_cons_zero, List.setIfInBounds_toArray, List.set_cons_zero, List.set_cons_succ])
  refine wpAnyH_take (i := 3) (v := ?_) (by rfl) (by kernel_rfl) (by kernel_rfl) (by kernel_rfl) (fun _ _ _ h => h) (Or.inl ⟨by kernel_rfl, ?_⟩) (by assumption) ?_; rotate_left 1; (focus (intro w hSw; (try dsimp only at hSw); simp only [List.getElem_toArray, List.getElem_cons_succ, List.getElem_cons_zero]; all_goals go_simp; all_goals (try with_reducible rfl))); (try simp only [Act.put, List.getElem_toArray, List.getElem_cons_succ, List.getElem_cons_zero, List.setIfInBounds_toArray, List.set_cons_zero, List.set_cons_succ])
  refine wpAnyH_take (i := 4) (v := ?_) (by rfl) (by kernel_rfl) (by kernel_rfl) (by kernel_rfl) (fun _ _ _ h => h) (Or.inl ⟨by kernel_rfl, ?_⟩) (by assumption) ?_; rotate_left 1; (focus (intro w hSw; (try dsimp only at hSw); simp only [List.getElem_toArray, List.getElem_cons_succ, List.getElem_cons_zero]; all_goals go_simp; all_goals (try with_reducible rfl))); (try simp only [Act.put, List.getElem_toArray, List.getElem_cons_succ, List.getElem_cons_zero, List.setIfInBounds_toArray, List.set_cons_zero, List.set_cons_succ])
  refine wpAnyH_ready (rs := [5]) (by kernel_rfl) (by simp) ?_; refine AllReadyH.cons (by rfl) (fun K hK => ?_) AllReadyH.nil; rw [if_pos (by kernel_rfl)]; simp only [List.getElem_toArray, List.getElem_cons_succ, List.getElem_cons_zero]
  have HD := Lib.hid (H4.out.below (Below.refl w4.heap.size w4).drew)
  go_wp2_with (first
    | (go_at_call 27; (with_reducible refine (spagekey_in 0 0 (Lib.hid rfl) HAB.out.2 HTA 0 (Lib.hid rfl) _ HD.out.sv.st).mono ?_); rintro e w5 ⟨rfl, hb⟩; have H5 := Lib.hid (HD.out.below hb); clear hb))
  refine hK.out _ _ H5.out.sv.st.s0 (fun hHeld => ?_)
  clear hK K
  (try simp only [Act.put, List.getElem_toArray, List.getElem_cons_succ, List.getElem_cons_zero, List.setIfInBounds_toArray, List.set_cons_zero, List.set_cons_succ])
  refine wpAnyH_ready (rs := [6]) (by kernel_rfl) (by simp) ?_; refine AllReadyH.cons (by rfl) (fun K hK => ?_) AllReadyH.nil; rw [if_pos (by kernel_rfl)]; simp only [List.getElem_toArray, List.getElem_cons_succ, List.getElem_cons_zero]
  go_wp2_with fail
  have H5a := Lib.hid (H5.out.below ((Below.refl _ _).alloc (Nat.le_refl _) _ : Below w5.heap.size w5 (w5.alloc (.cells #[.int .i64 3, .int .i64 0, .int .i64 0, .int .i64 0, .int .u32 0] 29 (0, 0)))))
  have HSrc := Lib.hid (srcK1 w5 3 0 0 0 0 29 a.B a.G H5.out.sv.st.lo.n.2.2.1 H5.out.sv.st.lo.n.2.2.2)
  have HKRi : Hid (∀ x, x < 1 → KRight (kkOf 3 0 0 0 0) x) := Lib.hid (fun x _ => by show rightB 3 0 0 0 0 = true; decide)
  refine hK.out _ _ H5a.out.sv.st.s0 (fun hHeld => ?_)
  clear hK K
  (try simp only [Act.put, List.getElem_toArray, List.getElem_cons_succ, List.getElem_cons_zero, List.setIfInBounds_toArray, List.set_cons_zero, List.set_cons_succ])
  refine wpAnyH_ready (rs := [7]) (by kernel_rfl) (by simp) ?_; refine AllReadyH.cons (by rfl) (fun K hK => ?_) AllReadyH.nil; rw [if_pos (by kernel_rfl)]; simp only [List.getElem_toArray, List.getElem_cons_succ, List.getElem_cons_zero]
  go_wp2_with (first
    | (go_at_call 25; (with_reducible refine (nmake_at 0 vs vr (some ⟨w5.heap.size, 0, none⟩) 1 1 (kkOf 3 0 0 0 0) (by decide) HKRi 0 (Lib.hid rfl) HAB.out.1 (Lib.hid (by decide)) (Lib.hid (by intro i hi; omega)) 0 (Lib.hid rfl) _ (HE.out.below H5a.out.sv.bel) H5a.out.sv.st.nd HSrc.out).mono ?_); rintro e w6 ⟨rfl, hM, hb⟩; have H6 := Lib.hid (H5a.out.node hM hb ways_nil); clear hM hb))
  refine hK.out _ _ H6.out.sv.st.s0 (fun hHeld => ?_)
  clear hK K
  (try simp only [Act.put, List.getElem_toArray, List.getElem_cons_succ, List.getElem_cons_zero, List.setIfInBounds_toArray, List.set_cons_zero, List.set_cons_succ])
  refine wpAnyH_done (by kernel_rfl) ?_ _
  refine NoPanic.normal ?_
  obtain ⟨W, hW⟩ : ∃ W, W = freshV (fun _ b => zc b) 0 (kcs (kkOf 3 0 0 0 0) 1) := ⟨_, rfl⟩
  have HKW : Hid (KAt (W 0) 0 3 0 0 0 0) := Lib.hid (by rw [hW]; exact freshV_key _ 0 (kkOf 3 0 0 0 0) 1 0 (by decide))
  rw [← hW] at H6
  clear hW H4 HD H5 H5a HSrc HKRi
  go_upto_region 15 with (first
    | (go_at_call 28; (with_reducible refine (snodekey_in 0 1 0 (Lib.hid rfl) (by decide) (by decide) HAB.out.1 HTA 0 (Lib.hid rfl) _ H6.out.sv.st).mono ?_); rintro e w7 ⟨rfl, hb⟩; have H7 := Lib.hid (H6.out.below hb); have H7a := Lib.hid (fun o o' => (H7.out.below ((Below.refl _ _).alloc (Nat.le_refl _) _ : Below w7.heap.size w7 (w7.alloc o))).below ((Below.refl _ _).alloc (Nat.le_refl _) _ : Below _ _ ((w7.alloc o).alloc o'))); clear hb)
    | (go_at_call 27; (with_reducible refine (spagekey_in 0 0 (Lib.hid rfl) HAB.out.2 HTA 0 (Lib.hid rfl) _ (H7a.out _ _).sv.st).mono ?_); rintro e w8 ⟨rfl, hb⟩; have HB8 := Lib.hid hb; clear hb))
  rw [EAD.out]
  obtain ⟨w9, hw9⟩ : ∃ w9, w9 = w8.alloc (.cells #[.int .i64 3, .int .i64 0, .int .i64 0, .int .i64 0, .int .u32 0] 29 (0, 0)) := ⟨_, rfl⟩
  rw [← hw9]
  have H8 := Lib.hid ((H7a.out (.cells #[.int .i64 2, .int .i64 0, .int .i64 0, .int .i64 0, .int .u32 1] 29 (0, 0)) (.cells #[.int .i64 2, .int .i64 0, .int .i64 0, .int .i64 1, .int .u32 1] 29 (0, 0))).below HB8.out)
  have H9 : Hid (CV w w9 S a b N cb 8 (upd (fun _ => false) 0 true) (fun _ => 0) W (upd (fun _ => false) 0 true) (fun _ => 0) W2 0 (.slice none 0 0) []) := Lib.hid (by rw [hw9]; exact H8.out.below ((Below.refl _ _).alloc (Nat.le_refl _) _))
  obtain ⟨bk, hbk⟩ : ∃ bk, w7.heap.size = bk := ⟨_, rfl⟩
  obtain ⟨bp, hbp⟩ : ∃ bp, w8.heap.size = bp := ⟨_, rfl⟩
  have HX9 : Hid (Box3 w9 cb (.slice none 0 0) bk (bk + 1) bp) := Lib.hid (by
    have k1 := ((KeyC.new w7 2 0 0 0 1 29).below ((Below.refl _ _).alloc (Nat.le_refl _) _ : Below _ _ (World.alloc _ (.cells #[.int .i64 2, .int .i64 0, .int .i64 0, .int .i64 1, .int .u32 1] 29 (0, 0))))).below HB8.out
    have k2 := (KeyC.new (w7.alloc (.cells #[.int .i64 2, .int .i64 0, .int .i64 0, .int .i64 0, .int .u32 1] 29 (0, 0))) 2 0 0 1 1 29)
    rw [show (w7.alloc (.cells #[.int .i64 2, .int .i64 0, .int .i64 0, .int .i64 0, .int .u32 1] 29 (0, 0))).heap.size = w7.heap.size + 1 by simp] at k2
    have k2' := k2.below HB8.out
    have hcl := H7.out.ca.cl
    have hs8 : w7.heap.size + 1 + 1 ≤ w8.heap.size := by have := HB8.out.size; simpa using this
    rw [← hbk, ← hbp, hw9]
    exact ⟨k1.below ((Below.refl _ _).alloc (Nat.le_refl _) _), k2'.below ((Below.refl _ _).alloc (Nat.le_refl _) _), KeyC.new _ _ _ _ _ _ _, ⟨by omega, by simp [Value.ownBlock]⟩, ⟨by omega, by simp [Value.ownBlock]⟩, ⟨by omega, by simp [Value.ownBlock]⟩⟩)
  rw [hbk, hbp]
  clear hw9 hbk hbp H6 H7 H7a HB8 H8
  obtain ⟨br, hbr⟩ : ∃ br, bk + 1 = br := ⟨_, rfl⟩
  rw [hbr] at HX9 ⊢
  clear hbr
  have HLv : Hid (liveB a b (upd (fun _ => false) 0 true) (fun _ => 0) (upd (fun _ => false) 0 true) (fun _ => 0) 3 0 0 = true) := Lib.hid (by simp [liveB, thereB, upd, HAB.out.2])
  have HWk : Hid (Way a b (upd (fun _ => false) 0 true) (fun _ => 0) W (upd (fun _ => false) 0 true) (fun _ => 0) 2 0 0 0 1 5 ad false [0] ((0 : Nat) : Int) ad false 0) := Lib.hid (way_r0 (way_at 1 0 0 ad 3 0 0 0 0 rfl (by decide) (by decide) (by simp) (by decide) rfl HAB.out.1 rfl rfl (by decide) (by have := HAD.out; omega) HKW.out (.page (by decide) (by omega) HLv.out (by have := HAD.out; omega))) (by decide))
  have HWr : Hid (Way a b (upd (fun _ => false) 0 true) (fun _ => 0) W (upd (fun _ => false) 0 true) (fun _ => 0) 2 0 0 1 1 5 ad false [0] ((0 : Nat) : Int) ad true 0) := Lib.hid (way_r0 (way_at 1 0 0 ad 3 0 0 0 0 rfl (by decide) (by decide) (by simp) (by decide) rfl HAB.out.1 rfl rfl (by decide) (by have := HAD.out; omega) HKW.out (.page (by decide) (by omega) HLv.out (by have := HAD.out; omega))) (by decide))
  have HWp : Hid (Way a b (upd (fun _ => false) 0 true) (fun _ => 0) W (upd (fun _ => false) 0 true) (fun _ => 0) 3 0 0 0 0 5 ad false [] ((0 : Nat) : Int) ad false 0) := Lib.hid (way_r0 (.page (by decide) (by omega) HLv.out (by have := HAD.out; omega)) (by decide))
  go_upto_if 66 with fail
  go_cut [] (fun wx => ∃ (hits : Int) (v : Value) (E : List EW), CV w wx S a b N cb 8 (upd (fun _ => false) 0 true) (fun _ => 0) W (upd (fun _ => false) 0 true) (fun _ => 0) W2 hits v E ∧ Box3 wx cb v bk br bp ∧ E.length ≤ 1 ∧ 0 ≤ hits ∧ hits ≤ 1)
  case first =>
    cases a1
    · go_wp2_with fail
      go_meet
      exact ⟨0, _, [], H9.out, HX9.out, by simp, by decide, by decide⟩
    · have q0 := HX9.out.r.c0
      have q1 := HX9.out.r.c1
      have q2 := HX9.out.r.c2
      have q3 := HX9.out.r.c3
      have q4 := HX9.out.r.c4
      go_wp2_with (first
        | (go_at_call 16; (refine (cvfind 2 0 0 1 1 ad (by have := HAD.out; omega) [0] _ ad true 0 false (Lib.hid (by decide)) (Lib.hid (by decide)) (Lib.hid (by decide)) HWr _ H9.out).mono ?_); rintro e w10 ⟨rfl, h10, v10, E10, hm, ho, hk, hv⟩; have H10 := Lib.hid hm; have HX10 := Lib.hid (HX9.out.next hk hv); have HO10 := Lib.hid ho.more; clear hm ho hk hv q0 q1 q2 q3 q4))
      go_meet
      exact ⟨h10, v10, E10, H10.out, HX10.out, by have := HO10.out.1; simpa using this, by have := HO10.out; omega, by have := HO10.out; omega⟩
  case rest =>
    obtain ⟨hits, v, E, hm, hx, hl, h0, h1⟩ := hcut
    have HC := Lib.hid hm
    have HX := Lib.hid hx
    have HG := Lib.hid (And.intro hl (And.intro h0 h1))
    clear hm hx hl h0 h1 H9 HX9
    have q0 := HX.out.k.c0
    have q1 := HX.out.k.c1
    have q2 := HX.out.k.c2
    have q3 := HX.out.k.c3
    have q4 := HX.out.k.c4
    go_upto_region 18 with (first
      | (go_at_call 16; (refine (cvfind 2 0 0 0 1 ad (by have := HAD.out; omega) [0] _ ad false 0 false (Lib.hid (by have := HG.out; omega)) (Lib.hid (full8 (by have := HG.out; omega))) (Lib.hid (by have := HG.out; omega)) HWk _ HC.out).mono ?_); rintro e w10 ⟨rfl, h10, v10, E10, hm, ho, hk, hv⟩; have H10 := Lib.hid hm; have HX10 := Lib.hid (HX.out.next hk hv); have HO10 := Lib.hid ho.more; clear hm ho hk hv q0 q1 q2 q3 q4))
    obtain ⟨w11, hw11⟩ : ∃ w11, w11 = w10.alloc (.cells #[.int .i64 0, .int .i64 ad, .bool false] 40 (0, 0)) := ⟨_, rfl⟩
    rw [← hw11]
    obtain ⟨pa, hpa⟩ : ∃ pa, w10.heap.size = pa := ⟨_, rfl⟩
    have H11 : Hid (CV w w11 S a b N cb 8 (upd (fun _ => false) 0 true) (fun _ => 0) W (upd (fun _ => false) 0 true) (fun _ => 0) W2 h10 v10 E10) := Lib.hid (by rw [hw11]; exact H10.out.below ((Below.refl _ _).alloc (Nat.le_refl _) _))
    have HX11 : Hid (Box3 w11 cb v10 bk br bp) := Lib.hid (by rw [hw11]; exact HX10.out.below ((Below.refl _ _).alloc (Nat.le_refl _) _))
    have HA11 : Hid (PlC w11 pa 0 ad false ∧ OutC cb v10 pa) := Lib.hid (by rw [hw11, ← hpa]; exact ⟨PlC.new _ _ _ _ _, by have := H10.out.ca.cl; omega, fun e => by have := (H10.out.ca.row.lt _ e).2; omega⟩)
    have HG11 : Hid (E10.length ≤ 2 ∧ 0 ≤ h10 ∧ h10 ≤ 2) := Lib.hid (by have := HO10.out; have := HG.out; omega)
    rw [hpa]
    clear hw11 hpa H10 HX10 HO10 HC HX HG
    have q0 := HX11.out.r.c0
    have q1 := HX11.out.r.c1
    have q2 := HX11.out.r.c2
    have q3 := HX11.out.r.c3
    have q4 := HX11.out.r.c4
    go_upto_region 19 with (first
      | (go_at_call 16; (refine (cvfind 2 0 0 1 1 ad (by have := HAD.out; omega) [0] _ ad true 0 false (Lib.hid (by have := HG11.out; omega)) (Lib.hid (full8 (by have := HG11.out; omega))) (Lib.hid (by have := HG11.out; omega)) HWr _ H11.out).mono ?_); rintro e w12 ⟨rfl, h12, v12, E12, hm, ho, hk, hv⟩; have H12 := Lib.hid hm; have HX12 := Lib.hid (HX11.out.next hk hv); have HA12 := Lib.hid (And.intro (HA11.out.1.keepB hk HA11.out.2) (HA11.out.2.next HA11.out.1.lt hv)); have HO12 := Lib.hid ho.more; clear hm ho hk hv q0 q1 q2 q3 q4))
    obtain ⟨w13, hw13⟩ : ∃ w13, w13 = w12.alloc (.cells #[.int .i64 0, .int .i64 ad, .bool true] 40 (0, 0)) := ⟨_, rfl⟩
    rw [← hw13]
    obtain ⟨pb, hpb⟩ : ∃ pb, w12.heap.size = pb := ⟨_, rfl⟩
    have H13 : Hid (CV w w13 S a b N cb 8 (upd (fun _ => false) 0 true) (fun _ => 0) W (upd (fun _ => false) 0 true) (fun _ => 0) W2 h12 v12 E12) := Lib.hid (by rw [hw13]; exact H12.out.below ((Below.refl _ _).alloc (Nat.le_refl _) _))
    have HX13 : Hid (Box3 w13 cb v12 bk br bp) := Lib.hid (by rw [hw13]; exact HX12.out.below ((Below.refl _ _).alloc (Nat.le_refl _) _))
    have HA13 : Hid (PlC w13 pa 0 ad false ∧ OutC cb v12 pa) := Lib.hid (by rw [hw13]; exact ⟨HA12.out.1.below ((Below.refl _ _).alloc (Nat.le_refl _) _), HA12.out.2⟩)
    have HB13 : Hid (PlC w13 pb 0 ad true ∧ OutC cb v12 pb) := Lib.hid (by rw [hw13, ← hpb]; exact ⟨PlC.new _ _ _ _ _, by have := H12.out.ca.cl; omega, fun e => by have := (H12.out.ca.row.lt _ e).2; omega⟩)
    have HG13 : Hid (E12.length ≤ 3 ∧ 0 ≤ h12 ∧ h12 ≤ 3) := Lib.hid (by have := HO12.out; have := HG11.out; omega)
    rw [hpb]
    clear hw13 hpb H12 HX12 HO12 H11 HX11 HG11 HA11 HA12
    have q0 := HX13.out.p.c0
    have q1 := HX13.out.p.c1
    have q2 := HX13.out.p.c2
    have q3 := HX13.out.p.c3
    have q4 := HX13.out.p.c4
    go_upto_region 20 with (first
      | (go_at_call 16; (refine (cvfind 3 0 0 0 0 ad (by have := HAD.out; omega) [] _ ad false 0 false (Lib.hid (by have := HG13.out; omega)) (Lib.hid (full8 (by have := HG13.out; omega))) (Lib.hid (by have := HG13.out; omega)) HWp _ H13.out).mono ?_); rintro e w14 ⟨rfl, h14, v14, E14, hm, ho, hk, hv⟩; have H14 := Lib.hid hm; have HA14 := Lib.hid (And.intro (HA13.out.1.keepB hk HA13.out.2) (HA13.out.2.next HA13.out.1.lt hv)); have HB14 := Lib.hid (And.intro (HB13.out.1.keepB hk HB13.out.2) (HB13.out.2.next HB13.out.1.lt hv)); clear hm ho hk hv q0 q1 q2 q3 q4))
    obtain ⟨w15, hw15⟩ : ∃ w15, w15 = w14.alloc (.cells #[.int .i64 0, .int .i64 ad, .bool false] 40 (0, 0)) := ⟨_, rfl⟩
    rw [← hw15]
    obtain ⟨pd, hpd⟩ : ∃ pd, w14.heap.size = pd := ⟨_, rfl⟩
    have H15 : Hid (CV w w15 S a b N cb 8 (upd (fun _ => false) 0 true) (fun _ => 0) W (upd (fun _ => false) 0 true) (fun _ => 0) W2 h14 v14 E14) := Lib.hid (by rw [hw15]; exact H14.out.below ((Below.refl _ _).alloc (Nat.le_refl _) _))
    have HA15 : Hid (PlC w15 pa 0 ad false) := Lib.hid (by rw [hw15]; exact HA14.out.1.below ((Below.refl _ _).alloc (Nat.le_refl _) _))
    have HB15 : Hid (PlC w15 pb 0 ad true) := Lib.hid (by rw [hw15]; exact HB14.out.1.below ((Below.refl _ _).alloc (Nat.le_refl _) _))
    have HD15 : Hid (PlC w15 pd 0 ad false) := Lib.hid (by rw [hw15, ← hpd]; exact PlC.new _ _ _ _ _)
    rw [hpd]
    have x0 : (0 : Int) ≤ ad := by omega
    have x1 : (ad : Int) ≤ 31 := by have := HAD.out; omega
    have e0 := HA15.out.c0
    have e2 := HA15.out.c2
    have f0 := HB15.out.c0
    have f2 := HB15.out.c2
    have d1 := HD15.out.c1
    have d2 := HD15.out.c2
    clear hw15 hpd H14 HA14 HB14 H13 HX13 HG13 HA13 HB13
    go_wp2_with fail
    go_ret
    exact ⟨by simp, H15.out.sv.bel⟩
theorem walk_CacheRoots (a0 : Int) (a1 : Bool) (w : World) (w0 : (Lit.int .u32 a0).wf = true) (hL : laidMetH Tryd.prog Rows.cacheRootsRow.laid w) :
    Calls Tryd.prog 6 #[.int .u32 a0, .bool a1] w fun e w' => e = .returned (.bool true) ∧ Below w.heap.size w w' := by
  obtain ⟨vs, vr, hE⟩ := (errs2 hL ⟨_, by repeat (first | exact List.Mem.head _ | apply List.Mem.tail)⟩ ⟨_, by repeat (first | exact List.Mem.head _ | apply List.Mem.tail)⟩)
  exact croots_walk a0 a1 (fit32 w0).1 (fit32 w0).2 w vs vr hE
end Go.Proofs.YtedidopkemjgeaaDoor
