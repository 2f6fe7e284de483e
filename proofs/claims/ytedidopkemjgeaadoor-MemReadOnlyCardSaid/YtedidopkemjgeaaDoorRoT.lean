/-
  Mr as one.
-/
import Derived.Test.YtedidopkemjgeaaDoorP10
import Derived.Test.YtedidopkemjgeaaDoorP9
namespace Go.Proofs.YtedidopkemjgeaaDoor
open Go.ChangeShapes Go.WideShapes Go.ChangeAt Go.RowKit
set_option linter.unusedVariables false
set_option linter.unusedSimpArgs false
theorem MemAt.put5 {w0 : World} {mb S : Nat} {a b : Shp} {N cb : Nat} {size : Int} {th : Nat → Bool} {vr_ : Nat → Int} {W : Nat → Nat → Value} {th2 : Nat → Bool} {vr2 : Nat → Int} {W2 : Nat → Nat → Int} {hits : Int} {v : Value} {E : List EW} {w : World} (h : (MemAt w0 w mb S a b N cb size th vr_ W th2 vr2 W2 hits v E)) (x : Nat) (hx : N ≤ x) (h1 : cb ≠ x) (h2 : mb ≠ x) (h3 : v.ownBlock ≠ some x) (h4 : NoNode E x) (u0 u1 u2 u3 u4 : Value) : MemAt w0 (((((w.setCell ⟨x, 0, none⟩ u0).setCell ⟨x, 1, none⟩ u1).setCell ⟨x, 2, none⟩ u2).setCell ⟨x, 3, none⟩ u3).setCell ⟨x, 4, none⟩ u4) mb S a b N cb size th vr_ W th2 vr2 W2 hits v E :=
  ((((h.put x 0 hx h1 h2 h3 h4 u0).put x 1 hx h1 h2 h3 h4 u1).put x 2 hx h1 h2 h3 h4 u2).put x 3 hx h1 h2 h3 h4 u3).put x 4 hx h1 h2 h3 h4 u4
theorem srcu3 (w : World) (x y z : Int) (t : TypeId) (B G : Nat) (h1 : B < w.heap.size) (h2 : G < w.heap.size) : SrcU (w.alloc (.cells #[.int .u32 x, .int .u32 y, .int .u32 z] t (0, 0))) (some ⟨w.heap.size, 0, none⟩) [x, y, z] B G := ⟨fun j hj => by
  have h3 : j = 0 ∨ j = 1 ∨ j = 2 := by simp at hj; omega
  refine ⟨_, rfl, by simp, by simp; omega, by simp; omega, ?_⟩
  rcases h3 with rfl | rfl | rfl <;> simp [Addr.add, List.getD]⟩
theorem right_pageR (R : Nat) (h : R ≤ 7) : rightB 3 0 0 (R : Int) 0 = true := by
  have h8 : R = 0 ∨ R = 1 ∨ R = 2 ∨ R = 3 ∨ R = 4 ∨ R = 5 ∨ R = 6 ∨ R = 7 := by omega
  rcases h8 with rfl | rfl | rfl | rfl | rfl | rfl | rfl | rfl <;> decide
set_option maxRecDepth 100000 in
set_option maxHeartbeats 8000000 in
theorem mro_walk (a0 a1 a2 : Int) (a3 : Bool) (hu0 : 0 ≤ a1) (hu1 : a1 ≤ 4294967295) (w : World) (vs vr : Value) (hE : ErrsAt vs vr w) :
    Calls Tryd.prog 9 #[.int .i64 a0, .int .u32 a1, .int .u32 a2, .bool a3] w fun e w' => e = .returned (.bool true) ∧ Below w.heap.size w w' := by
  have HE := Lib.hid hE
  obtain ⟨R, hR, eR⟩ := and7_in a0
  have eB : Hid (roB R = (bits BinOp.and IntKind.i64 a0 5 != 0)) := Lib.hid (by unfold roB; rw [← eR, and75])
  obtain ⟨ad, had⟩ : ∃ ad : Nat, (ad : Int) = a1 % 32 := ⟨(a1 % 32).toNat, by omega⟩
  have hadl : ad < 32 := by omega
  have HAD := Lib.hid had
  have HU := Lib.hid (And.intro hu0 hu1)
  clear hE had hu0 hu1
  go_enter Tryd.func9, Tryd.ntmps9
  go_upto_region 9 with (first
    | (go_at_call 31; refine (mfirst11_is _).mono ?_; rintro e w1 ⟨rfl, hb1⟩; have HB1 := Lib.hid hb1; clear hb1)
    | (go_at_call 32; (with_reducible refine (mnew_ok 2 2 3 2 2 (Lib.hid rfl) (Lib.hid rfl) (by decide) (by decide) (by decide) (by decide) (by decide) (by decide) _).mono ?_); rintro e w2 ⟨mb, S, a, b, N, cb, rfl, hm, hn⟩; have HN := Lib.hid hn.out; have H2 := Lib.hid (hm.over HB1.out); have m0 := H2.out.m0; have s1 := H2.out.sv.st.s1; clear hm hn)
    | (go_at_call 26; (with_reducible refine (pmake_at 0 (some ⟨w2.heap.size, 0, none⟩) 3 3 [5, 6, 7] (Lib.hid rfl) (by decide) 0 (Lib.hid rfl) (by have := HN.out; omega) (Lib.hid (by decide)) (Lib.hid (by intro i hi; omega)) 0 (Lib.hid rfl) _ (H2.out.sv.st.pg.below ((Below.refl _ _).alloc (Nat.le_refl _) _)) (srcu3 w2 5 6 7 _ b.B b.G H2.out.sv.st.pg.ar.lt.2 (H2.out.sv.st.pg.row.lt b.G rfl).2)).mono ?_); rintro e w3 ⟨rfl, hP, hb⟩; have H3 := Lib.hid ((H2.out.below ((Below.refl _ _).alloc (Nat.le_refl _) _)).page hP hb ways_nil); clear hP hb m0 s1; have m0 := H3.out.m0)
    | (go_at_call 27; (with_reducible refine (spagekey_in 0 0 (Lib.hid rfl) (by have := HN.out; omega) (Lib.hid rfl) 0 (Lib.hid rfl) _ H3.out.sv.st).mono ?_); rintro e w4 ⟨rfl, hb⟩; have H4 := Lib.hid (H3.out.below hb); clear hb m0))
  obtain ⟨w5, hw5⟩ : ∃ w5, w5 = w4.alloc (.cells #[.int .i64 3, .int .i64 0, .int .i64 0, .int .i64 0, .int .u32 0] 29 (0, 0)) := ⟨_, rfl⟩
  rw [← hw5]
  obtain ⟨W2, hW2⟩ : ∃ W2, W2 = fresh (fun _ _ => 0) 0 [5, 6, 7] := ⟨_, rfl⟩
  rw [← hW2] at H4
  have H5 : Hid (MemAt w w5 mb S a b N cb 3 (fun _ => false) (fun _ => 0) (fun _ b => zc b) (upd (fun _ => false) 0 true) (fun _ => 0) W2 0 (.slice none 0 0) []) := Lib.hid (by rw [hw5]; exact H4.out.below ((Below.refl _ _).alloc (Nat.le_refl _) _))
  have HK5 : Hid (KeyC w5 w4.heap.size 3 0 0 0 0) := Lib.hid (by rw [hw5]; exact KeyC.new _ _ _ _ _ _ _)
  obtain ⟨kb, hkb⟩ : ∃ kb, Hid (w4.heap.size = kb) := ⟨_, Lib.hid rfl⟩
  have HO : Hid (N ≤ kb ∧ cb ≠ kb ∧ mb ≠ kb) := Lib.hid (by rw [← hkb.out]; have h1 := H4.out.nN; have h2 := H4.out.ca.cl; have h3 := H4.out.ml; omega)
  rw [hkb.out] at HK5 ⊢
  have HOC : Hid (OutC cb (.slice none 0 0) kb) := Lib.hid ⟨fun e => HO.out.2.1 e.symm, by simp [Value.ownBlock]⟩
  have HV0 : Hid ((Value.slice none 0 0).ownBlock ≠ some kb) := Lib.hid (by simp [Value.ownBlock])
  have HNo : Hid (NoNode [] kb) := Lib.hid (fun e he => by cases he)
  clear hw5 hW2 hkb H2 H3 H4 HB1
  have c3 := HK5.out.c3
  have f3 := HK5.out.fr 3
  have HAB : Hid (0 < a.n ∧ 0 < b.n) := Lib.hid (by have := HN.out; omega)
  go_upto_region 10 with fail
  obtain ⟨w9, hw9⟩ : ∃ w9, w9 = w5.setCell ⟨kb, 3, none⟩ (.int .i64 R) := ⟨_, rfl⟩
  rw [← hw9]
  have H9 : Hid (MemAt w w9 mb S a b N cb 3 (fun _ => false) (fun _ => 0) (fun _ b => zc b) (upd (fun _ => false) 0 true) (fun _ => 0) W2 0 (.slice none 0 0) []) := Lib.hid (by rw [hw9]; exact H5.out.put kb 3 HO.out.1 HO.out.2.1 HO.out.2.2 HV0.out HNo.out _)
  have HK9 : Hid (KeyC w9 kb 3 0 0 R 0) := Lib.hid (by rw [hw9]; exact HK5.out.set3 R)
  clear hw9 c3 f3 H5 HK5
  have HLv : Hid (∀ th', liveB a b th' (fun _ => 0) (upd (fun _ => false) 0 true) (fun _ => 0) 3 0 0 = true) := Lib.hid (fun th' => by simp [liveB, thereB, upd, HAB.out.2])
  go_upto_if 50 with fail
  go_cut [] (fun wx => ∃ (k0 k3 k4 : Int) (th : Nat → Bool) (W : Nat → Nat → Value) (ids : List Int), MemAt w wx mb S a b N cb 3 th (fun _ => 0) W (upd (fun _ => false) 0 true) (fun _ => 0) W2 0 (.slice none 0 0) [] ∧ KeyC wx kb k0 0 0 k3 k4 ∧ (∀ x : Nat, x < 32 → Way a b th (fun _ => 0) W (upd (fun _ => false) 0 true) (fun _ => 0) k0 0 0 k3 k4 5 x false ids 0 x (roB R) 0))
  case first =>
    cases a3
    · go_wp2_with fail
      go_meet
      exact ⟨3, R, 0, _, _, [], H9.out, HK9.out, fun x hx => way_r0 (.page (by decide) (by omega) (HLv.out _) (by omega)) (by rw [Bool.false_or])⟩
    · go_wp2_with fail
      have HSS : Hid (∀ w', Below w9.heap.size w9 w' → (World.cell? w' ⟨mb, 0, none⟩ = some (.pointer (some ⟨S, 0, none⟩)) ∧ World.cell? w' ⟨S, 0, none⟩ = some (.pointer (some ⟨a.P, 0, none⟩)) ∧ World.cell? w' ⟨kb, 0, none⟩ = some (.int .i64 3) ∧ World.cell? w' ⟨kb, 1, none⟩ = some (.int .i64 0) ∧ World.cell? w' ⟨kb, 2, none⟩ = some (.int .i64 0) ∧ World.cell? w' ⟨kb, 3, none⟩ = some (.int .i64 R) ∧ World.cell? w' ⟨kb, 4, none⟩ = some (.int .u32 0))) := Lib.hid (fun w' hb => ⟨(H9.out.below hb).m0, (H9.out.below hb).sv.st.s0, (HK9.out.below hb).c0, (HK9.out.below hb).c1, (HK9.out.below hb).c2, (HK9.out.below hb).c3, (HK9.out.below hb).c4⟩)
      refine wp_region_noPanic ?_
      refine wp_region_held_drew (S := fun w' => (World.cell? w' ⟨mb, 0, none⟩ = some (.pointer (some ⟨S, 0, none⟩)) ∧ World.cell? w' ⟨S, 0, none⟩ = some (.pointer (some ⟨a.P, 0, none⟩)) ∧ World.cell? w' ⟨kb, 0, none⟩ = some (.int .i64 3) ∧ World.cell? w' ⟨kb, 1, none⟩ = some (.int .i64 0) ∧ World.cell? w' ⟨kb, 2, none⟩ = some (.int .i64 0) ∧ World.cell? w' ⟨kb, 3, none⟩ = some (.int .i64 R) ∧ World.cell? w' ⟨kb, 4, none⟩ = some (.int .u32 0))) (by kernel_rfl) (HSS.out _ (Below.refl w9.heap.size w9).drew) (fun hHeld => ?_)
      refine wpAnyH_take (i := 0) (v := ?_) (by rfl) (by kernel_rfl) (by kernel_rfl) (by kernel_rfl) (fun _ _ _ h => h) (Or.inl ⟨by kernel_rfl, ?_⟩) (by assumption) ?_; rotate_left 1; (focus (intro w hSw; (try dsimp only at hSw); simp only [List.getElem_toArray, List.getElem_cons_succ, List.getElem_cons_zero]; all_goals go_simp; all_goals (try with_reducible rfl))); (try simp only [Act.put, List.getElem_toArray, List.getElem_cons_succ, List.getElem_cons_zero, List.setIfInBounds_toArray, List.set_cons_zero, List.set_cons_succ])
      refine wpAnyH_take (i := 1) (v := ?_) (by rfl) (by kernel_rfl) (by kernel_rfl) (by kernel_rfl) (fun _ _ _ h => h) (Or.inl ⟨by kernel_rfl, ?_⟩) (by assumption) ?_; rotate_left 1; (focus (intro w hSw; (try dsimp only at hSw); simp only [List.getElem_toArray, List.getElem_cons_succ, List.getElem_cons_zero]; all_goals go_simp; all_goals (try with_reducible rfl))); (try simp only [Act.put, List.getElem_toArray, List.getElem_cons_succ, List.getElem_cons_zero, List.setIfInBounds_toArray, List.set_cons_zero, List.set_cons_succ])
      refine wpAnyH_take (i := 2) (v := ?_) (by rfl) (by kernel_rfl) (by kernel_rfl) (by kernel_rfl) (fun _ _ _ h => h) (Or.inl ⟨by kernel_rfl, ?_⟩) (by assumption) ?_; rotate_left 1; (focus (intro w hSw; (try dsimp only at hSw); simp only [List.getElem_toArray, List.getElem_cons_succ, List.getElem_cons_zero]; all_goals go_simp; all_goals (try with_reducible rfl))); (try simp only [Act.put, List.getElem_toArray, List.getElem_cons_succ, List.getElem_cons_zero, List.setIfInBounds_toArray, List.set_cons_zero, List.set_cons_succ])
      refine wpAnyH_take (i := 3) (v := ?_) (by rfl) (by kernel_rfl) (by kernel_rfl) (by kernel_rfl) (fun _ _ _ h => h) (Or.inl ⟨by kernel_rfl, ?_⟩) (by assumption) ?_; rotate_left 1; (focus (intro w hSw; (try dsimp only at hSw); simp only [List.getElem_toArray, List.getElem_cons_succ, List.getElem_cons_zero]; all_goals go_simp; all_goals (try with_reducible rfl))); (try simp only [Act.put, List.getElem_toArray, List.getElem_cons_succ, List.getElem_cons_zero, List.setIfInBounds_toArray, List.set_cons_zero, List.set_cons_succ])
      refine wpAnyH_take (i := 4) (v := ?_) (by rfl) (by kernel_rfl) (by kernel_rfl) (by kernel_rfl) (fun _ _ _ h => h) (Or.inl ⟨by kernel_rfl, ?_⟩) (by assumption) ?_; rotate_left 1; (focus (intro w hSw; (try dsimp only at hSw); simp only [List.getElem_toArray, List.getElem_cons_succ, List.getElem_cons_zero]; all_goals go_simp; all_goals (try with_reducible rfl))); (try simp only [Act.put, List.getElem_toArray, List.getElem_cons_succ, List.getElem_cons_zero, List.setIfInBounds_toArray, List.set_cons_zero, List.set_cons_succ])
      refine wpAnyH_take (i := 5) (v := ?_) (by rfl) (by kernel_rfl) (by kernel_rfl) (by kernel_rfl) (fun _ _ _ h => h) (Or.inl ⟨by kernel_rfl, ?_⟩) (by assumption) ?_; rotate_left 1; (focus (intro w hSw; (try dsimp only at hSw); simp only [List.getElem_toArray, List.getElem_cons_succ, List.getElem_cons_zero]; all_goals go_simp; all_goals (try with_reducible rfl))); (try simp only [Act.put, List.getElem_toArray, List.getElem_cons_succ, List.getElem_cons_zero, List.setIfInBounds_toArray, List.set_cons_zero, List.set_cons_succ])
      refine wpAnyH_take (i := 6) (v := ?_) (by rfl) (by kernel_rfl) (by kernel_rfl) (by kernel_rfl) (fun _ _ _ h => h) (Or.inl ⟨by kernel_rfl, ?_⟩) (by assumption) ?_; rotate_left 1; (focus (intro w hSw; (try dsimp only at hSw); simp only [List.getElem_toArray, List.getElem_cons_succ, List.getElem_cons_zero]; all_goals go_simp; all_goals (try with_reducible rfl))); (try simp only [Act.put, List.getElem_toArray, List.getElem_cons_succ, List.getElem_cons_zero, List.setIfInBounds_toArray, List.set_cons_zero, List.set_cons_succ])
      refine wpAnyH_take (i := 7) (v := ?_) (by rfl) (by kernel_rfl) (by kernel_rfl) (by kernel_rfl) (fun _ _ _ h => h) (Or.inl ⟨by kernel_rfl, ?_⟩) (by assumption) ?_; rotate_left 1; (focus (intro w hSw; (try dsimp only at hSw); simp only [List.getElem_toArray, List.getElem_cons_succ, List.getElem_cons_zero]; all_goals go_simp; all_goals (try with_reducible rfl))); (try simp only [Act.put, List.getElem_toArray, List.getElem_cons_succ, List.getElem_cons_zero, List.setIfInBounds_toArray, List.set_cons_zero, List.set_cons_succ])
      refine wpAnyH_ready (rs := [8]) (by kernel_rfl) (by simp) ?_; refine AllReadyH.cons (by rfl) (fun K hK => ?_) AllReadyH.nil; rw [if_pos (by kernel_rfl)]; simp only [List.getElem_toArray, List.getElem_cons_succ, List.getElem_cons_zero]
      go_wp2_with fail
      refine hK.out _ _ (HSS.out _ ((Below.refl w9.heap.size w9).alloc (Nat.le_refl _) _).drew) (fun hHeld => ?_)
      clear hK K
      (try simp only [Act.put, List.getElem_toArray, List.getElem_cons_succ, List.getElem_cons_zero, List.setIfInBounds_toArray, List.set_cons_zero, List.set_cons_succ])
      refine wpAnyH_ready (rs := [9]) (by kernel_rfl) (by simp) ?_; refine AllReadyH.cons (by rfl) (fun K hK => ?_) AllReadyH.nil; rw [if_pos (by kernel_rfl)]; simp only [List.getElem_toArray, List.getElem_cons_succ, List.getElem_cons_zero]
      have HD := Lib.hid (H9.out.below (((Below.refl w9.heap.size w9).alloc (Nat.le_refl _) (.cells #[.int .i64 3, .int .i64 0, .int .i64 0, .int .i64 R, .int .u32 0] 29 (0, 0))).drew))
      have HKD := Lib.hid (HK9.out.below (((Below.refl w9.heap.size w9).alloc (Nat.le_refl _) (.cells #[.int .i64 3, .int .i64 0, .int .i64 0, .int .i64 R, .int .u32 0] 29 (0, 0))).drew))
      have HSrc := Lib.hid ((srcK1 w9 3 0 0 R 0 29 a.B a.G H9.out.sv.st.lo.n.2.2.1 H9.out.sv.st.lo.n.2.2.2).below (Below.refl _ _).drew)
      have HKRi : Hid (∀ x, x < 1 → KRight (kkOf 3 0 0 R 0) x) := Lib.hid (fun x _ => right_pageR R hR)
      have HLoN := Lib.hid H9.out.lo.n
      go_wp2_with (first
        | (go_at_call 25; (with_reducible refine (nmake_at 0 vs vr (some ⟨w9.heap.size, 0, none⟩) 1 1 (kkOf 3 0 0 R 0) (by decide) HKRi 0 (Lib.hid rfl) HAB.out.1 (Lib.hid (by decide)) (Lib.hid (by intro i hi; omega)) 0 (Lib.hid rfl) _ (HE.out.below HD.out.sv.bel) HD.out.sv.st.nd HSrc.out).mono ?_); rintro e w6 ⟨rfl, hM, hb⟩; have H6 := Lib.hid (HD.out.node hM hb ways_nil); have HK6 := Lib.hid (HKD.out.pbelow hb (by have := HLoN.out; have := HO.out; omega) (by have := HLoN.out; have := HO.out; omega)); clear hM hb))
      refine hK.out _ _ ⟨H6.out.m0, H6.out.sv.st.s0, HK6.out.c0, HK6.out.c1, HK6.out.c2, HK6.out.c3, HK6.out.c4⟩ (fun hHeld => ?_)
      clear hK K
      (try simp only [Act.put, List.getElem_toArray, List.getElem_cons_succ, List.getElem_cons_zero, List.setIfInBounds_toArray, List.set_cons_zero, List.set_cons_succ])
      refine wpAnyH_done (by kernel_rfl) ?_ _
      refine NoPanic.normal ?_
      have m0 := H6.out.m0
      go_wp2_with (first
        | (go_at_call 28; (with_reducible refine (snodekey_in 0 1 0 (Lib.hid rfl) (by decide) (by decide) HAB.out.1 (Lib.hid rfl) 0 (Lib.hid rfl) _ H6.out.sv.st).mono ?_); rintro e w7 ⟨rfl, hb⟩; have H7 := Lib.hid (H6.out.below hb); have HK7 := Lib.hid (HK6.out.below hb); have q0 := HK7.out.c0; have f0 := HK7.out.fr 0; have q1 := HK7.out.c1; have f1 := HK7.out.fr 1; have q2 := HK7.out.c2; have f2 := HK7.out.fr 2; have q3 := HK7.out.c3; have f3 := HK7.out.fr 3; have q4 := HK7.out.c4; have f4 := HK7.out.fr 4; clear hb m0))
      go_meet
      refine ⟨2, 0, 1, _, _, [0], H7.out.put5 kb HO.out.1 HO.out.2.1 HO.out.2.2 HV0.out HNo.out _ _ _ _ _, HK7.out.set 2 0 0 0 1, fun x hx => way_r0 (way_at 1 0 0 x 3 0 0 R 0 rfl (by decide) (by decide) (by simp) (by decide) rfl HAB.out.1 rfl rfl (by decide) (by simpa using hx) (freshV_key _ 0 (kkOf 3 0 0 R 0) 1 0 (by decide)) (.page (by decide) (by omega) (HLv.out _) (by omega))) ?_⟩
      rw [show roB 0 = false by decide, Bool.or_false, Bool.false_or]
  case rest =>
    obtain ⟨k0, k3, k4, th, W, ids, hm, hk, hway⟩ := hcut
    have HM := Lib.hid hm
    have HK := Lib.hid hk
    have HWY := Lib.hid hway
    clear hm hk hway
    have HC : Hid (OutC cb (.slice none 0 0) kb) := HOC
    obtain ⟨z, hz⟩ : ∃ z, W2 0 ad = z := ⟨_, rfl⟩
    have EAD : Hid (a1.tmod 32 = ad) := Lib.hid (by rw [Int.tmod_eq_emod_of_nonneg HU.out.1]; exact HAD.out.symm)
    have hz' := Lib.hid hz
    go_upto_region 14 with fail
    rw [EAD.out]
    have q0 := HK.out.c0
    have q1 := HK.out.c1
    have q2 := HK.out.c2
    have q3 := HK.out.c3
    have q4 := HK.out.c4
    cases hro : roB R with
    | true =>
      have HWt : Hid (Way a b th (fun _ => 0) W (upd (fun _ => false) 0 true) (fun _ => 0) k0 0 0 k3 k4 5 ad false ids ((0 : Nat) : Int) ad true 0) := Lib.hid (by have h := HWY.out ad hadl; rwa [hro] at h)
      have ht : (bits BinOp.and IntKind.i64 a0 5 != 0) = true := by rw [← eB.out]; exact hro
      clear hro
      go_upto_region 17 with (first
        | (go_at_call 35; (refine (mload_ok k0 0 0 k3 k4 ad (by omega) ids 0 ad true 0 ad (Lib.hid ⟨rfl, rfl⟩) HAB.out.2 hadl (Lib.hid rfl) z (Lib.hid hz) (Lib.hid (by simp)) (Lib.hid (by decide)) HWt _ HM.out).mono ?_); rintro e w6 ⟨rfl, h6, v6, E6, hm, g1, g2, g3, hk, hv⟩; have HM6 := Lib.hid hm; have HK6 := Lib.hid (HK.out.keep hk HO.out.1 HC.out); have HC6 := Lib.hid (HC.out.next HK.out.lt hv); have HG6 := Lib.hid (And.intro g1 (And.intro g2 g3)); clear q0 q1 q2 q3 q4; have q0 := HK6.out.c0; have q1 := HK6.out.c1; have q2 := HK6.out.c2; have q3 := HK6.out.c3; have q4 := HK6.out.c4; clear hm g1 g2 g3 hk hv)
        | (go_at_call 34; (refine (msave_ro k0 0 0 k3 k4 ad (by omega) ids _ _ a2 (Lib.hid (by have h1 := HG6.out.1; simp at h1; constructor <;> omega)) (Lib.hid (by have h1 := HG6.out;  omega)) HWt _ HM6.out).mono ?_); rintro e w7 ⟨rfl, h7, v7, E7, hm, g1, g2, g3, hk, hv⟩; have HM7 := Lib.hid hm; have HK7 := Lib.hid (HK6.out.keep hk HO.out.1 HC6.out); have HC7 := Lib.hid (HC6.out.next HK6.out.lt hv); have HG7 := Lib.hid (And.intro g1 (And.intro g2 g3)); clear q0 q1 q2 q3 q4; have q0 := HK7.out.c0; have q1 := HK7.out.c1; have q2 := HK7.out.c2; have q3 := HK7.out.c3; have q4 := HK7.out.c4; clear hm g1 g2 g3 hk hv)
        | (go_at_call 35; (refine (mload_ok k0 0 0 k3 k4 ad (by omega) ids 0 ad true 0 ad (Lib.hid ⟨rfl, rfl⟩) HAB.out.2 hadl (Lib.hid rfl) z (Lib.hid hz) (Lib.hid (by have h1 := HG6.out.1; simp at h1; have h2 := HG7.out.1; constructor <;> omega)) (Lib.hid (by have h1 := HG6.out; have h2 := HG7.out; omega)) HWt _ HM7.out).mono ?_); rintro e w8 ⟨rfl, h8, v8, E8, hm, g1, g2, g3, hk, hv⟩; have HM8 := Lib.hid hm; have HK8 := Lib.hid (HK7.out.keep hk HO.out.1 HC7.out); have HC8 := Lib.hid (HC7.out.next HK7.out.lt hv); have HG8 := Lib.hid (And.intro g1 (And.intro g2 g3)); clear q0 q1 q2 q3 q4; have q0 := HK8.out.c0; have q1 := HK8.out.c1; have q2 := HK8.out.c2; have q3 := HK8.out.c3; have q4 := HK8.out.c4; clear hm g1 g2 g3 hk hv))
      go_wp2_with fail
      go_ret
      exact ⟨by simp, HM8.out.sv.bel⟩
    | false =>
      have HWt : Hid (Way a b th (fun _ => 0) W (upd (fun _ => false) 0 true) (fun _ => 0) k0 0 0 k3 k4 5 ad false ids ((0 : Nat) : Int) ad false 0) := Lib.hid (by have h := HWY.out ad hadl; rwa [hro] at h)
      have ht : (bits BinOp.and IntKind.i64 a0 5 != 0) = false := by rw [← eB.out]; exact hro
      clear hro
      go_upto_region 17 with (first
        | (go_at_call 35; (refine (mload_ok k0 0 0 k3 k4 ad (by omega) ids 0 ad false 0 ad (Lib.hid ⟨rfl, rfl⟩) HAB.out.2 hadl (Lib.hid rfl) z (Lib.hid hz) (Lib.hid (by simp)) (Lib.hid (by decide)) HWt _ HM.out).mono ?_); rintro e w6 ⟨rfl, h6, v6, E6, hm, g1, g2, g3, hk, hv⟩; have HM6 := Lib.hid hm; have HK6 := Lib.hid (HK.out.keep hk HO.out.1 HC.out); have HC6 := Lib.hid (HC.out.next HK.out.lt hv); have HG6 := Lib.hid (And.intro g1 (And.intro g2 g3)); clear q0 q1 q2 q3 q4; have q0 := HK6.out.c0; have q1 := HK6.out.c1; have q2 := HK6.out.c2; have q3 := HK6.out.c3; have q4 := HK6.out.c4; clear hm g1 g2 g3 hk hv)
        | (go_at_call 34; (refine (msave_ok k0 0 0 k3 k4 ad (by omega) ids 0 ad HAB.out.2 hadl (Lib.hid rfl) a2 (Lib.hid (by have h1 := HG6.out.1; simp at h1; constructor <;> omega)) (Lib.hid (by have h1 := HG6.out;  omega)) HWt _ HM6.out).mono ?_); rintro e w7 ⟨rfl, h7, v7, E7, hm, g1, g2, g3, hk, hv⟩; have HM7 := Lib.hid hm; have HK7 := Lib.hid (HK6.out.keep hk HO.out.1 HC6.out); have HC7 := Lib.hid (HC6.out.next HK6.out.lt hv); have HG7 := Lib.hid (And.intro g1 (And.intro g2 g3)); clear q0 q1 q2 q3 q4; have q0 := HK7.out.c0; have q1 := HK7.out.c1; have q2 := HK7.out.c2; have q3 := HK7.out.c3; have q4 := HK7.out.c4; clear hm g1 g2 g3 hk hv)
        | (go_at_call 35; (refine (mload_ok k0 0 0 k3 k4 ad (by omega) ids 0 ad false 0 ad (Lib.hid ⟨rfl, rfl⟩) HAB.out.2 hadl (Lib.hid rfl) a2 (Lib.hid (updA_hit _ _ _ _)) (Lib.hid (by have h1 := HG6.out.1; simp at h1; have h2 := HG7.out.1; constructor <;> omega)) (Lib.hid (by have h1 := HG6.out; have h2 := HG7.out; omega)) HWt _ HM7.out).mono ?_); rintro e w8 ⟨rfl, h8, v8, E8, hm, g1, g2, g3, hk, hv⟩; have HM8 := Lib.hid hm; have HK8 := Lib.hid (HK7.out.keep hk HO.out.1 HC7.out); have HC8 := Lib.hid (HC7.out.next HK7.out.lt hv); have HG8 := Lib.hid (And.intro g1 (And.intro g2 g3)); clear q0 q1 q2 q3 q4; have q0 := HK8.out.c0; have q1 := HK8.out.c1; have q2 := HK8.out.c2; have q3 := HK8.out.c3; have q4 := HK8.out.c4; clear hm g1 g2 g3 hk hv))
      go_upto_region 19 with fail
      go_cut [18, 19] (fun u f wx => ∃ bx : Nat, u = .pointer (some ⟨bx, 0, none⟩) ∧ f = .int .i64 0 ∧ Below w.heap.size w wx)
      case first =>
        have HSS8 : Hid (∀ w', Below w8.heap.size w8 w' → (World.cell? w' ⟨mb, 0, none⟩ = some (.pointer (some ⟨S, 0, none⟩)) ∧ World.cell? w' ⟨kb, 0, none⟩ = some (.int .i64 k0) ∧ World.cell? w' ⟨kb, 1, none⟩ = some (.int .i64 0) ∧ World.cell? w' ⟨kb, 2, none⟩ = some (.int .i64 0) ∧ World.cell? w' ⟨kb, 3, none⟩ = some (.int .i64 k3) ∧ World.cell? w' ⟨kb, 4, none⟩ = some (.int .u32 k4))) := Lib.hid (fun w' hb => ⟨(HM8.out.below hb).m0, (HK8.out.below hb).c0, (HK8.out.below hb).c1, (HK8.out.below hb).c2, (HK8.out.below hb).c3, (HK8.out.below hb).c4⟩)
        refine wp_region_noPanic ?_
        refine wp_region_held_drew (S := fun w' => (World.cell? w' ⟨mb, 0, none⟩ = some (.pointer (some ⟨S, 0, none⟩)) ∧ World.cell? w' ⟨kb, 0, none⟩ = some (.int .i64 k0) ∧ World.cell? w' ⟨kb, 1, none⟩ = some (.int .i64 0) ∧ World.cell? w' ⟨kb, 2, none⟩ = some (.int .i64 0) ∧ World.cell? w' ⟨kb, 3, none⟩ = some (.int .i64 k3) ∧ World.cell? w' ⟨kb, 4, none⟩ = some (.int .u32 k4))) (by kernel_rfl) (HSS8.out _ (Below.refl w8.heap.size w8).drew) (fun hHeld => ?_)
        refine wpAnyH_take (i := 0) (v := ?_) (by rfl) (by kernel_rfl) (by kernel_rfl) (by kernel_rfl) (fun _ _ _ h => h) (Or.inl ⟨by kernel_rfl, ?_⟩) (by assumption) ?_; rotate_left 1; (focus (intro w hSw; (try dsimp only at hSw); simp only [List.getElem_toArray, List.getElem_cons_succ, List.getElem_cons_zero]; all_goals go_simp; all_goals (try with_reducible rfl))); (try simp only [Act.put, List.getElem_toArray, List.getElem_cons_succ, List.getElem_cons_zero, List.setIfInBounds_toArray, List.set_cons_zero, List.set_cons_succ])
        refine wpAnyH_take (i := 1) (v := ?_) (by rfl) (by kernel_rfl) (by kernel_rfl) (by kernel_rfl) (fun _ _ _ h => h) (Or.inl ⟨by kernel_rfl, ?_⟩) (by assumption) ?_; rotate_left 1; (focus (intro w hSw; (try dsimp only at hSw); simp only [List.getElem_toArray, List.getElem_cons_succ, List.getElem_cons_zero]; all_goals go_simp; all_goals (try with_reducible rfl))); (try simp only [Act.put, List.getElem_toArray, List.getElem_cons_succ, List.getElem_cons_zero, List.setIfInBounds_toArray, List.set_cons_zero, List.set_cons_succ])
        refine wpAnyH_take (i := 2) (v := ?_) (by rfl) (by kernel_rfl) (by kernel_rfl) (by kernel_rfl) (fun _ _ _ h => h) (Or.inl ⟨by kernel_rfl, ?_⟩) (by assumption) ?_; rotate_left 1; (focus (intro w hSw; (try dsimp only at hSw); simp only [List.getElem_toArray, List.getElem_cons_succ, List.getElem_cons_zero]; all_goals go_simp; all_goals (try with_reducible rfl))); (try simp only [Act.put, List.getElem_toArray, List.getElem_cons_succ, List.getElem_cons_zero, List.setIfInBounds_toArray, List.set_cons_zero, List.set_cons_succ])
        refine wpAnyH_take (i := 3) (v := ?_) (by rfl) (by kernel_rfl) (by kernel_rfl) (by kernel_rfl) (fun _ _ _ h => h) (Or.inl ⟨by kernel_rfl, ?_⟩) (by assumption) ?_; rotate_left 1; (focus (intro w hSw; (try dsimp only at hSw); simp only [List.getElem_toArray, List.getElem_cons_succ, List.getElem_cons_zero]; all_goals go_simp; all_goals (try with_reducible rfl))); (try simp only [Act.put, List.getElem_toArray, List.getElem_cons_succ, List.getElem_cons_zero, List.setIfInBounds_toArray, List.set_cons_zero, List.set_cons_succ])
        refine wpAnyH_take (i := 4) (v := ?_) (by rfl) (by kernel_rfl) (by kernel_rfl) (by kernel_rfl) (fun _ _ _ h => h) (Or.inl ⟨by kernel_rfl, ?_⟩) (by assumption) ?_; rotate_left 1; (focus (intro w hSw; (try dsimp only at hSw); simp only [List.getElem_toArray, List.getElem_cons_succ, List.getElem_cons_zero]; all_goals go_simp; all_goals (try with_reducible rfl))); (try simp only [Act.put, List.getElem_toArray, List.getElem_cons_succ, List.getElem_cons_zero, List.setIfInBounds_toArray, List.set_cons_zero, List.set_cons_succ])
        refine wpAnyH_take (i := 5) (v := ?_) (by rfl) (by kernel_rfl) (by kernel_rfl) (by kernel_rfl) (fun _ _ _ h => h) (Or.inl ⟨by kernel_rfl, ?_⟩) (by assumption) ?_; rotate_left 1; (focus (intro w hSw; (try dsimp only at hSw); simp only [List.getElem_toArray, List.getElem_cons_succ, List.getElem_cons_zero]; all_goals go_simp; all_goals (try with_reducible rfl))); (try simp only [Act.put, List.getElem_toArray, List.getElem_cons_succ, List.getElem_cons_zero, List.setIfInBounds_toArray, List.set_cons_zero, List.set_cons_succ])
        refine wpAnyH_ready (rs := [6, 10]) (by kernel_rfl) (by simp) ?_
        refine AllReadyH.cons (by rfl) (fun K hK => ?_) (AllReadyH.cons (by rfl) (fun K hK => ?_) AllReadyH.nil)
        · skip
          rw [if_pos (by kernel_rfl)]
          simp only [List.getElem_toArray, List.getElem_cons_succ, List.getElem_cons_zero]
          go_wp2_with (first | (go_at_call 17; (with_reducible refine (pWalk_is k0 0 0 k3 k4 ad ids ((0 : Nat) : Int) ad false 0 HWt _ (HM8.out.below (Below.refl w8.heap.size w8).drew).sv.st).mono ?_); rintro e w9 ⟨rfl, hb⟩; have HBB := Lib.hid ((Below.refl w8.heap.size w8).drew.trans (hb.mono (by simp))); clear hb))
          refine hK.out _ _ (HSS8.out _ HBB.out) (fun hHeld => ?_)
          clear hK K
          (try simp only [Act.put, List.getElem_toArray, List.getElem_cons_succ, List.getElem_cons_zero, List.setIfInBounds_toArray, List.set_cons_zero, List.set_cons_succ])
          refine wpAnyH_take (i := 7) (v := ?_) (by rfl) (by kernel_rfl) (by kernel_rfl) (by kernel_rfl) (fun _ _ _ h => h) (Or.inl ⟨by kernel_rfl, ?_⟩) (by assumption) ?_; rotate_left 1; (focus (intro w hSw; (try dsimp only at hSw); simp only [List.getElem_toArray, List.getElem_cons_succ, List.getElem_cons_zero]; all_goals go_simp; all_goals (try with_reducible rfl))); (try simp only [Act.put, List.getElem_toArray, List.getElem_cons_succ, List.getElem_cons_zero, List.setIfInBounds_toArray, List.set_cons_zero, List.set_cons_succ])
          refine wpAnyH_take (i := 8) (v := ?_) (by rfl) (by kernel_rfl) (by kernel_rfl) (by kernel_rfl) (fun _ _ _ h => h) (Or.inl ⟨by kernel_rfl, ?_⟩) (by assumption) ?_; rotate_left 1; (focus (intro w hSw; (try dsimp only at hSw); simp only [List.getElem_toArray, List.getElem_cons_succ, List.getElem_cons_zero]; all_goals go_simp; all_goals (try with_reducible rfl))); (try simp only [Act.put, List.getElem_toArray, List.getElem_cons_succ, List.getElem_cons_zero, List.setIfInBounds_toArray, List.set_cons_zero, List.set_cons_succ])
          refine wpAnyH_take (i := 9) (v := ?_) (by rfl) (by kernel_rfl) (by kernel_rfl) (by kernel_rfl) (fun _ _ _ h => h) (Or.inl ⟨by kernel_rfl, ?_⟩) (by assumption) ?_; rotate_left 1; (focus (intro w hSw; (try dsimp only at hSw); simp only [List.getElem_toArray, List.getElem_cons_succ, List.getElem_cons_zero]; all_goals go_simp; all_goals (try with_reducible rfl))); (try simp only [Act.put, List.getElem_toArray, List.getElem_cons_succ, List.getElem_cons_zero, List.setIfInBounds_toArray, List.set_cons_zero, List.set_cons_succ])
          refine wpAnyH_ready (rs := [10]) (by kernel_rfl) (by simp) ?_; refine AllReadyH.cons (by rfl) (fun K hK => ?_) AllReadyH.nil; rw [if_pos (by kernel_rfl)]; simp only [List.getElem_toArray, List.getElem_cons_succ, List.getElem_cons_zero]
          go_wp2_with fail
          refine hK.out _ _ (HSS8.out _ (HBB.out.alloc HBB.out.size _)) (fun hHeld => ?_)
          clear hK K
          (try simp only [Act.put, List.getElem_toArray, List.getElem_cons_succ, List.getElem_cons_zero, List.setIfInBounds_toArray, List.set_cons_zero, List.set_cons_succ])
          refine wpAnyH_ready (rs := [11]) (by kernel_rfl) (by simp) ?_; refine AllReadyH.cons (by rfl) (fun K hK => ?_) AllReadyH.nil; rw [if_pos (by kernel_rfl)]; simp only [List.getElem_toArray, List.getElem_cons_succ, List.getElem_cons_zero]
          go_wp2_with fail
          refine hK.out _ _ (HSS8.out _ (HBB.out.alloc HBB.out.size _)) (fun hHeld => ?_)
          clear hK K
          (try simp only [Act.put, List.getElem_toArray, List.getElem_cons_succ, List.getElem_cons_zero, List.setIfInBounds_toArray, List.set_cons_zero, List.set_cons_succ])
          refine wpAnyH_take (i := 12) (v := ?_) (by rfl) (by kernel_rfl) (by kernel_rfl) (by kernel_rfl) (fun _ _ _ h => h) (Or.inl ⟨by kernel_rfl, ?_⟩) (by assumption) ?_; rotate_left 1; (focus (intro w hSw; (try dsimp only at hSw); simp only [List.getElem_toArray, List.getElem_cons_succ, List.getElem_cons_zero]; all_goals go_simp; all_goals (try with_reducible rfl))); (try simp only [Act.put, List.getElem_toArray, List.getElem_cons_succ, List.getElem_cons_zero, List.setIfInBounds_toArray, List.set_cons_zero, List.set_cons_succ])
          refine wpAnyH_done (by kernel_rfl) ?_ _
          refine NoPanic.normal ?_
          go_wp2_with fail
          go_meet
          have hb := HBB.out.alloc HBB.out.size (.cells #[.int .i64 ((0 : Nat) : Int), .int .i64 ad, .bool false] 40 (0, 0))
          exact ⟨_, rfl, rfl, HM8.out.sv.bel.trans (hb.mono HM8.out.sv.bel.size)⟩
        · skip
          rw [if_pos (by kernel_rfl)]
          simp only [List.getElem_toArray, List.getElem_cons_succ, List.getElem_cons_zero]
          go_wp2_with fail
          refine hK.out _ _ (HSS8.out _ ((Below.refl w8.heap.size w8).alloc (Nat.le_refl _) _).drew) (fun hHeld => ?_)
          clear hK K
          (try simp only [Act.put, List.getElem_toArray, List.getElem_cons_succ, List.getElem_cons_zero, List.setIfInBounds_toArray, List.set_cons_zero, List.set_cons_succ])
          refine wpAnyH_ready (rs := [6]) (by kernel_rfl) (by simp) ?_; refine AllReadyH.cons (by rfl) (fun K hK => ?_) AllReadyH.nil; rw [if_pos (by kernel_rfl)]; simp only [List.getElem_toArray, List.getElem_cons_succ, List.getElem_cons_zero]
          go_wp2_with (first | (go_at_call 17; (with_reducible refine (pWalk_is k0 0 0 k3 k4 ad ids ((0 : Nat) : Int) ad false 0 HWt _ (HM8.out.below ((Below.refl w8.heap.size w8).alloc (Nat.le_refl _) _).drew).sv.st).mono ?_); rintro e w9 ⟨rfl, hb⟩; have HBA := Lib.hid (((Below.refl w8.heap.size w8).alloc (Nat.le_refl _) _).drew.trans (hb.mono (by simp; try omega))); have hPB := ((PlC.new w8 0 0 false 40).below (Below.refl _ _).drew).below hb; have kc0 := hPB.c0; have kc1 := hPB.c1; have kc2 := hPB.c2; have kf0 := hPB.fr 0; have kf1 := hPB.fr 1; have kf2 := hPB.fr 2; clear hb hPB))
          refine hK.out _ _ (HSS8.out _ HBA.out) (fun hHeld => ?_)
          clear hK K
          (try simp only [Act.put, List.getElem_toArray, List.getElem_cons_succ, List.getElem_cons_zero, List.setIfInBounds_toArray, List.set_cons_zero, List.set_cons_succ])
          refine wpAnyH_take (i := 7) (v := ?_) (by rfl) (by kernel_rfl) (by kernel_rfl) (by kernel_rfl) (fun _ _ _ h => h) (Or.inl ⟨by kernel_rfl, ?_⟩) (by assumption) ?_; rotate_left 1; (focus (intro w hSw; (try dsimp only at hSw); simp only [List.getElem_toArray, List.getElem_cons_succ, List.getElem_cons_zero]; all_goals go_simp; all_goals (try with_reducible rfl))); (try simp only [Act.put, List.getElem_toArray, List.getElem_cons_succ, List.getElem_cons_zero, List.setIfInBounds_toArray, List.set_cons_zero, List.set_cons_succ])
          refine wpAnyH_take (i := 8) (v := ?_) (by rfl) (by kernel_rfl) (by kernel_rfl) (by kernel_rfl) (fun _ _ _ h => h) (Or.inl ⟨by kernel_rfl, ?_⟩) (by assumption) ?_; rotate_left 1; (focus (intro w hSw; (try dsimp only at hSw); simp only [List.getElem_toArray, List.getElem_cons_succ, List.getElem_cons_zero]; all_goals go_simp; all_goals (try with_reducible rfl))); (try simp only [Act.put, List.getElem_toArray, List.getElem_cons_succ, List.getElem_cons_zero, List.setIfInBounds_toArray, List.set_cons_zero, List.set_cons_succ])
          refine wpAnyH_take (i := 9) (v := ?_) (by rfl) (by kernel_rfl) (by kernel_rfl) (by kernel_rfl) (fun _ _ _ h => h) (Or.inl ⟨by kernel_rfl, ?_⟩) (by assumption) ?_; rotate_left 1; (focus (intro w hSw; (try dsimp only at hSw); simp only [List.getElem_toArray, List.getElem_cons_succ, List.getElem_cons_zero]; all_goals go_simp; all_goals (try with_reducible rfl))); (try simp only [Act.put, List.getElem_toArray, List.getElem_cons_succ, List.getElem_cons_zero, List.setIfInBounds_toArray, List.set_cons_zero, List.set_cons_succ])
          refine wpAnyH_ready (rs := [11]) (by kernel_rfl) (by simp) ?_; refine AllReadyH.cons (by rfl) (fun K hK => ?_) AllReadyH.nil; rw [if_pos (by kernel_rfl)]; simp only [List.getElem_toArray, List.getElem_cons_succ, List.getElem_cons_zero]
          go_wp2_with fail
          have hb := set3_below HBA.out (Nat.le_refl _) (.int .i64 ((0 : Nat) : Int)) (.int .i64 ad) (.bool false)
          refine hK.out _ _ (HSS8.out _ hb) (fun hHeld => ?_)
          clear hK K
          (try simp only [Act.put, List.getElem_toArray, List.getElem_cons_succ, List.getElem_cons_zero, List.setIfInBounds_toArray, List.set_cons_zero, List.set_cons_succ])
          refine wpAnyH_take (i := 12) (v := ?_) (by rfl) (by kernel_rfl) (by kernel_rfl) (by kernel_rfl) (fun _ _ _ h => h) (Or.inl ⟨by kernel_rfl, ?_⟩) (by assumption) ?_; rotate_left 1; (focus (intro w hSw; (try dsimp only at hSw); simp only [List.getElem_toArray, List.getElem_cons_succ, List.getElem_cons_zero]; all_goals go_simp; all_goals (try with_reducible rfl))); (try simp only [Act.put, List.getElem_toArray, List.getElem_cons_succ, List.getElem_cons_zero, List.setIfInBounds_toArray, List.set_cons_zero, List.set_cons_succ])
          refine wpAnyH_done (by kernel_rfl) ?_ _
          refine NoPanic.normal ?_
          go_wp2_with fail
          go_meet
          exact ⟨_, rfl, rfl, HM8.out.sv.bel.trans (hb.mono HM8.out.sv.bel.size)⟩
      case rest =>
        obtain ⟨bx, rfl, rfl, hb⟩ := hcut
        have HBe := Lib.hid hb
        clear hb
        go_wp2_with fail
        go_ret
        exact ⟨by simp, HBe.out⟩
theorem walk_MemReadOnly (a0 : Int) (a1 : Int) (a2 : Int) (a3 : Bool) (w : World) (w0 : (Lit.int .i64 a0).wf = true) (w1 : (Lit.int .u32 a1).wf = true) (w2 : (Lit.int .u32 a2).wf = true) (hL : laidMetH Tryd.prog Rows.memReadOnlyRow.laid w) :
    Calls Tryd.prog 9 #[.int .i64 a0, .int .u32 a1, .int .u32 a2, .bool a3] w fun e w' => e = .returned (.bool true) ∧ Below w.heap.size w w' := by
  obtain ⟨vs, vr, hE⟩ := (errs2 hL ⟨_, by repeat (first | exact List.Mem.head _ | apply List.Mem.tail)⟩ ⟨_, by repeat (first | exact List.Mem.head _ | apply List.Mem.tail)⟩)
  exact mro_walk a0 a1 a2 a3 (fit32 w1).1 (fit32 w1).2 w vs vr hE
end Go.Proofs.YtedidopkemjgeaaDoor
