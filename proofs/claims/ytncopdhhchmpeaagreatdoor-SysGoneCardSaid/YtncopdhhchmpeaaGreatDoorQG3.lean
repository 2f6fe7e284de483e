/-
  BkS, BkZ, BkG, Ea, Eb, Ec, Ed, BkN, BkO, Wn, Mt, Mk, Ya, Yr, Yd, Oa, Ob, Oc, Mt2, Od, Og, Oe, Oh, Dq: what SysGone reaches of them.
-/
import Derived.Test.YtncopdhhchmpeaaGreatDoorQG2
namespace Go.Proofs.YtncopdhhchmpeaaGreatDoor
open Go.ChangeShapes Go.WideShapes Go.ChangeAt Go.RowKit
set_option linter.unusedVariables false
set_option linter.unusedSimpArgs false
/-- Each thing that is there is a bank's, by a title as it is now. -/
structure OwI (L : BLoc) (D : BSt) : Prop where
  n : ∀ i, i < L.a.n → D.nt i = true → ∃ q' : Nat, q' < D.nb ∧ D.o1 i = (q' : Int) ∧ D.v1 i = D.nv i
  p : ∀ i, i < L.b.n → D.pt i = true → ∃ q' : Nat, q' < D.nb ∧ D.o2 i = (q' : Int) ∧ D.v2 i = D.pv i
  d : ∀ i, i < L.dn → D.dt i = true → ∃ q' : Nat, q' < D.nb ∧ D.o3 i = (q' : Int) ∧ D.v3 i = D.dv i
/-- What is bank q's, in numbers, and its keys. -/
def ownN (L : BLoc) (D : BSt) (q : Nat) : Nat := (oks D.nt D.o1 q L.a.n).length + (oks D.pt D.o2 q L.b.n).length + (oks D.dt D.o3 q L.dn).length
def ownK (L : BLoc) (D : BSt) (q : Nat) : List Value := okc 2 D.nv (oks D.nt D.o1 q L.a.n) ++ okc 3 D.pv (oks D.pt D.o2 q L.b.n) ++ okc 4 D.dv (oks D.dt D.o3 q L.dn)
section
variable {w0 w w' : World} {L : BLoc} {D : BSt}
theorem BW.titl1 (h : BW w0 w L D) (j : Nat) (hj : j < 256) : TiAt w L 2 L.G1 j (D.o1 j) (D.v1 j) := ⟨.inl ⟨rfl, rfl⟩, h.kk.t1.lt.2, (h.kk.t1.ti j hj).1, (h.kk.t1.ti j hj).2⟩
theorem BW.titl2 (h : BW w0 w L D) (j : Nat) (hj : j < 256) : TiAt w L 3 L.G2 j (D.o2 j) (D.v2 j) := ⟨.inr (.inl ⟨rfl, rfl⟩), h.kk.t2.lt.2, (h.kk.t2.ti j hj).1, (h.kk.t2.ti j hj).2⟩
theorem BW.titl3 (h : BW w0 w L D) (j : Nat) (hj : j < 256) : TiAt w L 4 L.G3 j (D.o3 j) (D.v3 j) := ⟨.inr (.inr ⟨by decide, by decide, rfl⟩), h.kk.t3.lt.2, (h.kk.t3.ti j hj).1, (h.kk.t3.ti j hj).2⟩
theorem liveK2 (i : Nat) (hi : i < L.a.n) (ht : D.nt i = true) : liveK L D 2 (i : Int) (D.nv i) = true := by simp [liveK, thereB, hi, ht]
theorem liveK3 (i : Nat) (hi : i < L.b.n) (ht : D.pt i = true) : liveK L D 3 (i : Int) (D.pv i) = true := by simp [liveK, thereB, hi, ht]
theorem liveK4 (i : Nat) (hi : i < L.dn) (ht : D.dt i = true) : liveK L D 4 (i : Int) (D.dv i) = true := by simp [liveK, thereB, hi, ht]
theorem badd_n (M : World) (bb ib ob q m0 : Nat) (xs0 : List Value) (hm0 : m0 ≤ 1000) (ho : OwI L D) (hM : BW w0 M L D) (w : World) (v0 : Value) (h : OwS M w L.P bb ib ob q v0 m0 xs0) :
    Calls Tryz.prog 105 #[.int .i64 (L.a.n : Int), .func (.func 107) #[] #[.pointer (some ⟨bb, 0, none⟩)], .pointer (some ⟨bb, 0, none⟩), .pointer (some ⟨ib, 0, none⟩), .pointer (some ⟨ob, 0, none⟩)] w fun e w' => e = .returned (.tuple #[]) ∧ ∃ v, OwS M w' L.P bb ib ob q v (m0 + (oks D.nt D.o1 q L.a.n).length) (xs0 ++ okc 2 D.nv (oks D.nt D.o1 q L.a.n)) :=
  badd_node M bb ib ob q L.a.n m0 xs0 D.o1 D.v1 D.nt D.nv hM.an hm0 (Lib.hid liveK2) (Lib.hid (fun W hW i hi => hW.titl1 i (by have := hW.an; omega))) (Lib.hid ho.n)
    (Lib.hid (fun i hi ht W hW hb => owned2_of bb (i : Int) 2 (i : Int) (D.nv i) 0 0 W hW hb.1 hb.2 (fun W2 hb2 => snodekey_in (i : Int) 0 i (Lib.hid rfl) (by decide) (by decide) hi (Lib.hid ht) _ (Lib.hid rfl) W2 (hW.below hb2).mm.sv.st)))
    (Lib.hid (fun i hi ht W hW hb => owned2_of bb (i : Int) 0 0 0 0 0 W hW hb.1 hb.2 (fun W2 hb2 => snodekey_dead (i : Int) 0 i (Lib.hid rfl) (Lib.hid ht) W2 (hW.below hb2).mm.sv.st)))
    hM w v0 h
theorem badd_p (M : World) (bb ib ob q m0 : Nat) (xs0 : List Value) (hm0 : m0 ≤ 1000) (ho : OwI L D) (hM : BW w0 M L D) (w : World) (v0 : Value) (h : OwS M w L.P bb ib ob q v0 m0 xs0) :
    Calls Tryz.prog 105 #[.int .i64 (L.b.n : Int), .func (.func 54) #[.pointer (some ⟨L.S, 0, none⟩)] #[], .pointer (some ⟨bb, 0, none⟩), .pointer (some ⟨ib, 0, none⟩), .pointer (some ⟨ob, 0, none⟩)] w fun e w' => e = .returned (.tuple #[]) ∧ ∃ v, OwS M w' L.P bb ib ob q v (m0 + (oks D.pt D.o2 q L.b.n).length) (xs0 ++ okc 3 D.pv (oks D.pt D.o2 q L.b.n)) :=
  badd_page M bb ib ob q L.b.n m0 xs0 D.o2 D.v2 D.pt D.pv hM.pn hm0 (Lib.hid liveK3) (Lib.hid (fun W hW i hi => hW.titl2 i (by have := hW.pn; omega))) (Lib.hid ho.p)
    (Lib.hid (fun i hi ht W hW _ => spagekey_in (i : Int) i (Lib.hid rfl) hi (Lib.hid ht) _ (Lib.hid rfl) W hW.mm.sv.st))
    (Lib.hid (fun i hi ht W hW _ => spagekey_dead (i : Int) i (Lib.hid rfl) (Lib.hid ht) W hW.mm.sv.st))
    hM w v0 h
theorem badd_d (M : World) (bb ib ob q m0 : Nat) (xs0 : List Value) (hm0 : m0 ≤ 1000) (ho : OwI L D) (hM : BW w0 M L D) (w : World) (v0 : Value) (h : OwS M w L.P bb ib ob q v0 m0 xs0) :
    Calls Tryz.prog 105 #[.int .i64 (L.dn : Int), .func (.func 55) #[.pointer (some ⟨L.dP, 0, none⟩)] #[], .pointer (some ⟨bb, 0, none⟩), .pointer (some ⟨ib, 0, none⟩), .pointer (some ⟨ob, 0, none⟩)] w fun e w' => e = .returned (.tuple #[]) ∧ ∃ v, OwS M w' L.P bb ib ob q v (m0 + (oks D.dt D.o3 q L.dn).length) (xs0 ++ okc 4 D.dv (oks D.dt D.o3 q L.dn)) :=
  badd_dom M bb ib ob q L.dn m0 xs0 D.o3 D.v3 D.dt D.dv hM.dn256 hm0 (Lib.hid liveK4) (Lib.hid (fun W hW i hi => hW.titl3 i (by have := hW.dn256; omega))) (Lib.hid ho.d)
    (Lib.hid (fun i hi ht W hW _ => dkey_of (i : Int) 4 (i : Int) (D.dv i) 0 0 W (fun W2 hb2 => dkeyof_in 4 (i : Int) 0 i (Lib.hid rfl) hi (Lib.hid ht) (by decide) _ (Lib.hid rfl) W2 (hW.below hb2).dd)))
    (Lib.hid (fun i hi ht W hW _ => dkey_of (i : Int) 0 0 0 0 0 W (fun W2 hb2 => dkeyof_dead 4 (i : Int) 0 i (Lib.hid rfl) (Lib.hid ht) W2 (hW.below hb2).dd)))
    hM w v0 h
end
set_option maxRecDepth 100000 in
set_option maxHeartbeats 2000000 in
theorem bowned_is {w0 : World} {L : BLoc} {D : BSt} (q : Nat) (hq : q < D.nb) (ho : OwI L D) (w : World) (h : BW w0 w L D) :
    Calls Tryz.prog 74 #[.pointer (some ⟨L.P, 0, none⟩), .int .i64 (q : Int)] w fun e w' => ∃ v, e = .returned v ∧ Below w.heap.size w w' ∧ w'.ownsRow w.heap.size 42 5 v (ownN L D q) (ownK L D q) := by
  have H := Lib.hid h
  have HO := Lib.hid ho
  have hn := h.n256
  have hnn := h.nn
  have hq256 : q < L.n := by omega
  have l1 := oks_len D.nt D.o1 q L.a.n
  have l2 := oks_len D.pt D.o2 q L.b.n
  have L1 : Hid (0 + (oks D.nt D.o1 q L.a.n).length ≤ 1000) := Lib.hid (by have := h.an; omega)
  have L2 : Hid (0 + (oks D.nt D.o1 q L.a.n).length + (oks D.pt D.o2 q L.b.n).length ≤ 1000) := Lib.hid (by have := h.an; have := h.pn; omega)
  have HTh : Hid (thN D.nb q = true) := Lib.hid (thN_at hq)
  clear l1 l2 h ho
  go_enter Tryz.func74, Tryz.ntmps74
  go_upto_region 1 with fail
  generalize hw2 : World.alloc (World.alloc w _) _ = w2
  obtain ⟨bb, hbb⟩ : ∃ bb, Hid (bb = w.heap.size) := ⟨_, Lib.hid rfl⟩
  have HB2 : Hid (Below w.heap.size w w2) := Lib.hid (by rw [← hw2]; exact ((Below.refl _ _).alloc (Nat.le_refl _) _).alloc (by simp) _)
  have HC2 : Hid (w2.cell? ⟨bb, 0, none⟩ = some (.pointer (some ⟨L.P, 0, none⟩)) ∧ w2.cell? ⟨bb + 1, 0, none⟩ = some (.int .i64 (q : Int)) ∧ w2.heap.size = bb + 2) := Lib.hid (by rw [← hw2, hbb.out]; simp)
  rw [← hbb.out]
  clear hw2
  obtain ⟨wD, hwD⟩ : ∃ wD, wD = w2.drew := ⟨_, rfl⟩
  have HBD : Hid (Below w.heap.size w wD) := Lib.hid (by rw [hwD]; exact HB2.out.drew)
  have HCD : Hid (wD.cell? ⟨bb, 0, none⟩ = some (.pointer (some ⟨L.P, 0, none⟩)) ∧ wD.cell? ⟨bb + 1, 0, none⟩ = some (.int .i64 (q : Int)) ∧ wD.heap.size = bb + 2) := Lib.hid (by rw [hwD]; exact HC2.out)
  have HWD := Lib.hid (H.out.below HBD.out)
  refine wp_region_noPanic ?_
  refine wp_region_held_drew (S := fun w' => (World.cell? w' ⟨bb, 0, none⟩ = some (.pointer (some ⟨L.P, 0, none⟩)) ∧ World.cell? w' ⟨bb + 1, 0, none⟩ = some (.int .i64 (q : Int)) ∧ World.cell? w' ⟨L.P, 0, none⟩ = some (.pointer (some ⟨L.p, 0, none⟩)))) (by kernel_rfl) (by rw [← hwD]; exact ⟨HCD.out.1, HCD.out.2.1, HWD.out.kk.f0⟩) (fun hHeld => ?_)
  rw [← hwD] at hHeld ⊢
  clear hwD
  refine wpAnyH_take (i := 0) (v := ?_) (by rfl) (by kernel_rfl) (by kernel_rfl) (by kernel_rfl) (fun _ _ _ h => h) (Or.inl ⟨by kernel_rfl, ?_⟩) (by assumption) ?_; rotate_left 1; (focus (intro w hSw; (try dsimp only at hSw); simp only [List.getElem_toArray, List.getElem_cons_succ, List.getElem_cons_zero]; all_goals go_simp; all_goals (try with_reducible rfl))); (try simp only [Act.put, List.getElem_toArray, List.getElem_cons_succ, List.getElem_cons_zero, List.setIfInBounds_toArray, List.set_cons_zero, List.set_cons_succ])
  refine wpAnyH_take (i := 1) (v := ?_) (by rfl) (by kernel_rfl) (by kernel_rfl) (by kernel_rfl) (fun _ _ _ h => h) (Or.inl ⟨by kernel_rfl, ?_⟩) (by assumption) ?_; rotate_left 1; (focus (intro w hSw; (try dsimp only at hSw); simp only [List.getElem_toArray, List.getElem_cons_succ, List.getElem_cons_zero]; all_goals go_simp; all_goals (try with_reducible rfl))); (try simp only [Act.put, List.getElem_toArray, List.getElem_cons_succ, List.getElem_cons_zero, List.setIfInBounds_toArray, List.set_cons_zero, List.set_cons_succ])
  refine wpAnyH_take (i := 2) (v := ?_) (by rfl) (by kernel_rfl) (by kernel_rfl) (by kernel_rfl) (fun _ _ _ h => h) (Or.inl ⟨by kernel_rfl, ?_⟩) (by assumption) ?_; rotate_left 1; (focus (intro w hSw; (try dsimp only at hSw); simp only [List.getElem_toArray, List.getElem_cons_succ, List.getElem_cons_zero]; all_goals go_simp; all_goals (try with_reducible rfl))); (try simp only [Act.put, List.getElem_toArray, List.getElem_cons_succ, List.getElem_cons_zero, List.setIfInBounds_toArray, List.set_cons_zero, List.set_cons_succ])
  refine wpAnyH_take (i := 3) (v := ?_) (by rfl) (by kernel_rfl) (by kernel_rfl) (by kernel_rfl) (fun _ _ _ h => h) (Or.inl ⟨by kernel_rfl, ?_⟩) (by assumption) ?_; rotate_left 1; (focus (intro w hSw; (try dsimp only at hSw); simp only [List.getElem_toArray, List.getElem_cons_succ, List.getElem_cons_zero]; all_goals go_simp; all_goals (try with_reducible rfl))); (try simp only [Act.put, List.getElem_toArray, List.getElem_cons_succ, List.getElem_cons_zero, List.setIfInBounds_toArray, List.set_cons_zero, List.set_cons_succ])
  refine wpAnyH_take (i := 4) (v := ?_) (by rfl) (by kernel_rfl) (by kernel_rfl) (by kernel_rfl) (fun _ _ _ h => h) (Or.inl ⟨by kernel_rfl, ?_⟩) (by assumption) ?_; rotate_left 1; (focus (intro w hSw; (try dsimp only at hSw); simp only [List.getElem_toArray, List.getElem_cons_succ, List.getElem_cons_zero]; all_goals go_simp; all_goals (try with_reducible rfl))); (try simp only [Act.put, List.getElem_toArray, List.getElem_cons_succ, List.getElem_cons_zero, List.setIfInBounds_toArray, List.set_cons_zero, List.set_cons_succ])
  refine wpAnyH_ready (rs := [5]) (by kernel_rfl) (by simp) ?_; refine AllReadyH.cons (by rfl) (fun K hK => ?_) AllReadyH.nil; rw [if_pos (by kernel_rfl)]; simp only [List.getElem_toArray, List.getElem_cons_succ, List.getElem_cons_zero]
  go_wp2_with (first
    | (go_at_call 63; (with_reducible refine (athere_in q hq256 true HTh _ HWD.out.kk.ar).mono ?_); rintro e w1 ⟨rfl, rfl⟩))
  refine hK.out _ _ ⟨HCD.out.1, HCD.out.2.1, HWD.out.kk.f0⟩ (fun hHeld => ?_)
  clear hK K
  (try simp only [Act.put, List.getElem_toArray, List.getElem_cons_succ, List.getElem_cons_zero, List.setIfInBounds_toArray, List.set_cons_zero, List.set_cons_succ])
  refine wpAnyH_take (i := 6) (v := ?_) (by rfl) (by kernel_rfl) (by kernel_rfl) (by kernel_rfl) (fun _ _ _ h => h) (Or.inl ⟨by kernel_rfl, ?_⟩) (by assumption) ?_; rotate_left 1; (focus (intro w hSw; (try dsimp only at hSw); simp only [List.getElem_toArray, List.getElem_cons_succ, List.getElem_cons_zero]; all_goals go_simp; all_goals (try with_reducible rfl))); (try simp only [Act.put, List.getElem_toArray, List.getElem_cons_succ, List.getElem_cons_zero, List.setIfInBounds_toArray, List.set_cons_zero, List.set_cons_succ])
  refine wpAnyH_done (by kernel_rfl) ?_ _
  refine NoPanic.normal ?_
  clear hHeld
  go_upto_region 4 with fail
  generalize hw3 : World.alloc wD _ = w3
  rw [HCD.out.2.2]
  have HS3 : Hid (OwS w w3 L.P bb (bb + 1) (bb + 2) q (.slice none 0 0) 0 []) := Lib.hid (by
    have hx := hbb.out
    have hsz := HCD.out.2.2
    have h0 : wD.heap.size < w3.heap.size := by rw [← hw3]; simp
    have hb3 : Below wD.heap.size wD w3 := by rw [← hw3]; exact (Below.refl _ _).alloc (Nat.le_refl _) _
    refine ⟨HBD.out.trans (hb3.mono HBD.out.size), ⟨by omega, by omega, by omega, by omega, by omega⟩, by omega, (hb3.cell (p := ⟨bb, 0, none⟩) (by show bb < wD.heap.size; omega)).trans HCD.out.1, (hb3.cell (p := ⟨bb + 1, 0, none⟩) (by show bb + 1 < wD.heap.size; omega)).trans HCD.out.2.1, ?_, ?_, World.ownsRow_nil _ _ _ _⟩
    · rw [← hsz, ← hw3]; simp
    · rw [← hsz, ← hw3]; simp)
  have HB3 : Hid (Below w.heap.size w w3) := Lib.hid HS3.out.bel
  have HW3 := Lib.hid (H.out.below HB3.out)
  clear hw3
  have c0 := HS3.out.b0
  have f1 := HW3.out.kk.f1
  have m0 := HW3.out.mm.m0
  have s0 := HW3.out.mm.sv.st.s0
  have p0 := HW3.out.mm.sv.st.nd.f0
  go_upto_region 6 with (first
    | (go_at_call 106; (with_reducible refine (acap_is _ HW3.out.mm.sv.st.nd.ar).mono ?_); rintro e w1 ⟨rfl, rfl⟩)
    | (go_at_call 105; (with_reducible refine (badd_n w bb (bb + 1) (bb + 2) q 0 [] (by decide) HO.out H.out _ _ HS3.out).mono ?_); rintro e w4 ⟨rfl, v4, h4⟩; have HS4 := Lib.hid h4; clear h4 c0 f1 m0 s0 p0))
  obtain ⟨wE, hwE⟩ : ∃ wE, wE = w4.drew := ⟨_, rfl⟩
  have HSE := Lib.hid (HS4.out.below (by rw [hwE]; exact (Below.refl _ _).drew) : OwS w wE L.P bb (bb + 1) (bb + 2) q v4 _ _)
  have HWE := Lib.hid (H.out.below HSE.out.bel)
  refine wp_region_noPanic ?_
  refine wp_region_held_drew (S := fun w' => (World.cell? w' ⟨bb, 0, none⟩ = some (.pointer (some ⟨L.P, 0, none⟩)) ∧ World.cell? w' ⟨L.P, 1, none⟩ = some (.pointer (some ⟨L.mb, 0, none⟩)) ∧ World.cell? w' ⟨L.mb, 0, none⟩ = some (.pointer (some ⟨L.S, 0, none⟩)) ∧ World.cell? w' ⟨L.S, 1, none⟩ = some (.pointer (some ⟨L.b.P, 0, none⟩)) ∧ World.cell? w' ⟨L.b.P, 0, none⟩ = some (.pointer (some ⟨L.b.p, 0, none⟩)))) (by kernel_rfl) (by rw [← hwE]; exact ⟨HSE.out.b0, HWE.out.kk.f1, HWE.out.mm.m0, HWE.out.mm.sv.st.s1, HWE.out.mm.sv.st.pg.f0⟩) (fun hHeld => ?_)
  rw [← hwE] at hHeld ⊢
  clear hwE
  refine wpAnyH_take (i := 0) (v := ?_) (by rfl) (by kernel_rfl) (by kernel_rfl) (by kernel_rfl) (fun _ _ _ h => h) (Or.inl ⟨by kernel_rfl, ?_⟩) (by assumption) ?_; rotate_left 1; (focus (intro w hSw; (try dsimp only at hSw); simp only [List.getElem_toArray, List.getElem_cons_succ, List.getElem_cons_zero]; all_goals go_simp; all_goals (try with_reducible rfl))); (try simp only [Act.put, List.getElem_toArray, List.getElem_cons_succ, List.getElem_cons_zero, List.setIfInBounds_toArray, List.set_cons_zero, List.set_cons_succ])
  refine wpAnyH_take (i := 1) (v := ?_) (by rfl) (by kernel_rfl) (by kernel_rfl) (by kernel_rfl) (fun _ _ _ h => h) (Or.inl ⟨by kernel_rfl, ?_⟩) (by assumption) ?_; rotate_left 1; (focus (intro w hSw; (try dsimp only at hSw); simp only [List.getElem_toArray, List.getElem_cons_succ, List.getElem_cons_zero]; all_goals go_simp; all_goals (try with_reducible rfl))); (try simp only [Act.put, List.getElem_toArray, List.getElem_cons_succ, List.getElem_cons_zero, List.setIfInBounds_toArray, List.set_cons_zero, List.set_cons_succ])
  refine wpAnyH_take (i := 2) (v := ?_) (by rfl) (by kernel_rfl) (by kernel_rfl) (by kernel_rfl) (fun _ _ _ h => h) (Or.inl ⟨by kernel_rfl, ?_⟩) (by assumption) ?_; rotate_left 1; (focus (intro w hSw; (try dsimp only at hSw); simp only [List.getElem_toArray, List.getElem_cons_succ, List.getElem_cons_zero]; all_goals go_simp; all_goals (try with_reducible rfl))); (try simp only [Act.put, List.getElem_toArray, List.getElem_cons_succ, List.getElem_cons_zero, List.setIfInBounds_toArray, List.set_cons_zero, List.set_cons_succ])
  refine wpAnyH_take (i := 3) (v := ?_) (by rfl) (by kernel_rfl) (by kernel_rfl) (by kernel_rfl) (fun _ _ _ h => h) (Or.inl ⟨by kernel_rfl, ?_⟩) (by assumption) ?_; rotate_left 1; (focus (intro w hSw; (try dsimp only at hSw); simp only [List.getElem_toArray, List.getElem_cons_succ, List.getElem_cons_zero]; all_goals go_simp; all_goals (try with_reducible rfl))); (try simp only [Act.put, List.getElem_toArray, List.getElem_cons_succ, List.getElem_cons_zero, List.setIfInBounds_toArray, List.set_cons_zero, List.set_cons_succ])
  refine wpAnyH_take (i := 4) (v := ?_) (by rfl) (by kernel_rfl) (by kernel_rfl) (by kernel_rfl) (fun _ _ _ h => h) (Or.inl ⟨by kernel_rfl, ?_⟩) (by assumption) ?_; rotate_left 1; (focus (intro w hSw; (try dsimp only at hSw); simp only [List.getElem_toArray, List.getElem_cons_succ, List.getElem_cons_zero]; all_goals go_simp; all_goals (try with_reducible rfl))); (try simp only [Act.put, List.getElem_toArray, List.getElem_cons_succ, List.getElem_cons_zero, List.setIfInBounds_toArray, List.set_cons_zero, List.set_cons_succ])
  refine wpAnyH_take (i := 5) (v := ?_) (by rfl) (by kernel_rfl) (by kernel_rfl) (by kernel_rfl) (fun _ _ _ h => h) (Or.inl ⟨by kernel_rfl, ?_⟩) (by assumption) ?_; rotate_left 1; (focus (intro w hSw; (try dsimp only at hSw); simp only [List.getElem_toArray, List.getElem_cons_succ, List.getElem_cons_zero]; all_goals go_simp; all_goals (try with_reducible rfl))); (try simp only [Act.put, List.getElem_toArray, List.getElem_cons_succ, List.getElem_cons_zero, List.setIfInBounds_toArray, List.set_cons_zero, List.set_cons_succ])
  refine wpAnyH_take (i := 6) (v := ?_) (by rfl) (by kernel_rfl) (by kernel_rfl) (by kernel_rfl) (fun _ _ _ h => h) (Or.inl ⟨by kernel_rfl, ?_⟩) (by assumption) ?_; rotate_left 1; (focus (intro w hSw; (try dsimp only at hSw); simp only [List.getElem_toArray, List.getElem_cons_succ, List.getElem_cons_zero]; all_goals go_simp; all_goals (try with_reducible rfl))); (try simp only [Act.put, List.getElem_toArray, List.getElem_cons_succ, List.getElem_cons_zero, List.setIfInBounds_toArray, List.set_cons_zero, List.set_cons_succ])
  refine wpAnyH_take (i := 7) (v := ?_) (by rfl) (by kernel_rfl) (by kernel_rfl) (by kernel_rfl) (fun _ _ _ h => h) (Or.inl ⟨by kernel_rfl, ?_⟩) (by assumption) ?_; rotate_left 1; (focus (intro w hSw; (try dsimp only at hSw); simp only [List.getElem_toArray, List.getElem_cons_succ, List.getElem_cons_zero]; all_goals go_simp; all_goals (try with_reducible rfl))); (try simp only [Act.put, List.getElem_toArray, List.getElem_cons_succ, List.getElem_cons_zero, List.setIfInBounds_toArray, List.set_cons_zero, List.set_cons_succ])
  refine wpAnyH_take (i := 8) (v := ?_) (by rfl) (by kernel_rfl) (by kernel_rfl) (by kernel_rfl) (fun _ _ _ h => h) (Or.inl ⟨by kernel_rfl, ?_⟩) (by assumption) ?_; rotate_left 1; (focus (intro w hSw; (try dsimp only at hSw); simp only [List.getElem_toArray, List.getElem_cons_succ, List.getElem_cons_zero]; all_goals go_simp; all_goals (try with_reducible rfl))); (try simp only [Act.put, List.getElem_toArray, List.getElem_cons_succ, List.getElem_cons_zero, List.setIfInBounds_toArray, List.set_cons_zero, List.set_cons_succ])
  refine wpAnyH_take (i := 9) (v := ?_) (by rfl) (by kernel_rfl) (by kernel_rfl) (by kernel_rfl) (fun _ _ _ h => h) (Or.inl ⟨by kernel_rfl, ?_⟩) (by assumption) ?_; rotate_left 1; (focus (intro w hSw; (try dsimp only at hSw); simp only [List.getElem_toArray, List.getElem_cons_succ, List.getElem_cons_zero]; all_goals go_simp; all_goals (try with_reducible rfl))); (try simp only [Act.put, List.getElem_toArray, List.getElem_cons_succ, List.getElem_cons_zero, List.setIfInBounds_toArray, List.set_cons_zero, List.set_cons_succ])
  refine wpAnyH_take (i := 10) (v := ?_) (by rfl) (by kernel_rfl) (by kernel_rfl) (by kernel_rfl) (fun _ _ _ h => h) (Or.inl ⟨by kernel_rfl, ?_⟩) (by assumption) ?_; rotate_left 1; (focus (intro w hSw; (try dsimp only at hSw); simp only [List.getElem_toArray, List.getElem_cons_succ, List.getElem_cons_zero]; all_goals go_simp; all_goals (try with_reducible rfl))); (try simp only [Act.put, List.getElem_toArray, List.getElem_cons_succ, List.getElem_cons_zero, List.setIfInBounds_toArray, List.set_cons_zero, List.set_cons_succ])
  refine wpAnyH_take (i := 11) (v := ?_) (by rfl) (by kernel_rfl) (by kernel_rfl) (by kernel_rfl) (fun _ _ _ h => h) (Or.inl ⟨by kernel_rfl, ?_⟩) (by assumption) ?_; rotate_left 1; (focus (intro w hSw; (try dsimp only at hSw); simp only [List.getElem_toArray, List.getElem_cons_succ, List.getElem_cons_zero]; all_goals go_simp; all_goals (try with_reducible rfl))); (try simp only [Act.put, List.getElem_toArray, List.getElem_cons_succ, List.getElem_cons_zero, List.setIfInBounds_toArray, List.set_cons_zero, List.set_cons_succ])
  refine wpAnyH_take (i := 12) (v := ?_) (by rfl) (by kernel_rfl) (by kernel_rfl) (by kernel_rfl) (fun _ _ _ h => h) (Or.inl ⟨by kernel_rfl, ?_⟩) (by assumption) ?_; rotate_left 1; (focus (intro w hSw; (try dsimp only at hSw); simp only [List.getElem_toArray, List.getElem_cons_succ, List.getElem_cons_zero]; all_goals go_simp; all_goals (try with_reducible rfl))); (try simp only [Act.put, List.getElem_toArray, List.getElem_cons_succ, List.getElem_cons_zero, List.setIfInBounds_toArray, List.set_cons_zero, List.set_cons_succ])
  refine wpAnyH_take (i := 13) (v := ?_) (by rfl) (by kernel_rfl) (by kernel_rfl) (by kernel_rfl) (fun _ _ _ h => h) (Or.inl ⟨by kernel_rfl, ?_⟩) (by assumption) ?_; rotate_left 1; (focus (intro w hSw; (try dsimp only at hSw); simp only [List.getElem_toArray, List.getElem_cons_succ, List.getElem_cons_zero]; all_goals go_simp; all_goals (try with_reducible rfl))); (try simp only [Act.put, List.getElem_toArray, List.getElem_cons_succ, List.getElem_cons_zero, List.setIfInBounds_toArray, List.set_cons_zero, List.set_cons_succ])
  refine wpAnyH_take (i := 15) (v := ?_) (by rfl) (by kernel_rfl) (by kernel_rfl) (by kernel_rfl) (fun _ _ _ h => h) (Or.inl ⟨by kernel_rfl, ?_⟩) (by assumption) ?_; rotate_left 1; (focus (intro w hSw; (try dsimp only at hSw); simp only [List.getElem_toArray, List.getElem_cons_succ, List.getElem_cons_zero]; all_goals go_simp; all_goals (try with_reducible rfl))); (try simp only [Act.put, List.getElem_toArray, List.getElem_cons_succ, List.getElem_cons_zero, List.setIfInBounds_toArray, List.set_cons_zero, List.set_cons_succ])
  refine wpAnyH_take (i := 16) (v := ?_) (by rfl) (by kernel_rfl) (by kernel_rfl) (by kernel_rfl) (fun _ _ _ h => h) (Or.inl ⟨by kernel_rfl, ?_⟩) (by assumption) ?_; rotate_left 1; (focus (intro w hSw; (try dsimp only at hSw); simp only [List.getElem_toArray, List.getElem_cons_succ, List.getElem_cons_zero]; all_goals go_simp; all_goals (try with_reducible rfl))); (try simp only [Act.put, List.getElem_toArray, List.getElem_cons_succ, List.getElem_cons_zero, List.setIfInBounds_toArray, List.set_cons_zero, List.set_cons_succ])
  refine wpAnyH_take (i := 17) (v := ?_) (by rfl) (by kernel_rfl) (by kernel_rfl) (by kernel_rfl) (fun _ _ _ h => h) (Or.inl ⟨by kernel_rfl, ?_⟩) (by assumption) ?_; rotate_left 1; (focus (intro w hSw; (try dsimp only at hSw); simp only [List.getElem_toArray, List.getElem_cons_succ, List.getElem_cons_zero]; all_goals go_simp; all_goals (try with_reducible rfl))); (try simp only [Act.put, List.getElem_toArray, List.getElem_cons_succ, List.getElem_cons_zero, List.setIfInBounds_toArray, List.set_cons_zero, List.set_cons_succ])
  refine wpAnyH_take (i := 18) (v := ?_) (by rfl) (by kernel_rfl) (by kernel_rfl) (by kernel_rfl) (fun _ _ _ h => h) (Or.inl ⟨by kernel_rfl, ?_⟩) (by assumption) ?_; rotate_left 1; (focus (intro w hSw; (try dsimp only at hSw); simp only [List.getElem_toArray, List.getElem_cons_succ, List.getElem_cons_zero]; all_goals go_simp; all_goals (try with_reducible rfl))); (try simp only [Act.put, List.getElem_toArray, List.getElem_cons_succ, List.getElem_cons_zero, List.setIfInBounds_toArray, List.set_cons_zero, List.set_cons_succ])
  refine wpAnyH_take (i := 19) (v := ?_) (by rfl) (by kernel_rfl) (by kernel_rfl) (by kernel_rfl) (fun _ _ _ h => h) (Or.inl ⟨by kernel_rfl, ?_⟩) (by assumption) ?_; rotate_left 1; (focus (intro w hSw; (try dsimp only at hSw); simp only [List.getElem_toArray, List.getElem_cons_succ, List.getElem_cons_zero]; all_goals go_simp; all_goals (try with_reducible rfl))); (try simp only [Act.put, List.getElem_toArray, List.getElem_cons_succ, List.getElem_cons_zero, List.setIfInBounds_toArray, List.set_cons_zero, List.set_cons_succ])
  refine wpAnyH_take (i := 20) (v := ?_) (by rfl) (by kernel_rfl) (by kernel_rfl) (by kernel_rfl) (fun _ _ _ h => h) (Or.inl ⟨by kernel_rfl, ?_⟩) (by assumption) ?_; rotate_left 1; (focus (intro w hSw; (try dsimp only at hSw); simp only [List.getElem_toArray, List.getElem_cons_succ, List.getElem_cons_zero]; all_goals go_simp; all_goals (try with_reducible rfl))); (try simp only [Act.put, List.getElem_toArray, List.getElem_cons_succ, List.getElem_cons_zero, List.setIfInBounds_toArray, List.set_cons_zero, List.set_cons_succ])
  refine wpAnyH_take (i := 21) (v := ?_) (by rfl) (by kernel_rfl) (by kernel_rfl) (by kernel_rfl) (fun _ _ _ h => h) (Or.inl ⟨by kernel_rfl, ?_⟩) (by assumption) ?_; rotate_left 1; (focus (intro w hSw; (try dsimp only at hSw); simp only [List.getElem_toArray, List.getElem_cons_succ, List.getElem_cons_zero]; all_goals go_simp; all_goals (try with_reducible rfl))); (try simp only [Act.put, List.getElem_toArray, List.getElem_cons_succ, List.getElem_cons_zero, List.setIfInBounds_toArray, List.set_cons_zero, List.set_cons_succ])
  refine wpAnyH_take (i := 22) (v := ?_) (by rfl) (by kernel_rfl) (by kernel_rfl) (by kernel_rfl) (fun _ _ _ h => h) (Or.inl ⟨by kernel_rfl, ?_⟩) (by assumption) ?_; rotate_left 1; (focus (intro w hSw; (try dsimp only at hSw); simp only [List.getElem_toArray, List.getElem_cons_succ, List.getElem_cons_zero]; all_goals go_simp; all_goals (try with_reducible rfl))); (try simp only [Act.put, List.getElem_toArray, List.getElem_cons_succ, List.getElem_cons_zero, List.setIfInBounds_toArray, List.set_cons_zero, List.set_cons_succ])
  refine wpAnyH_ready (rs := [14]) (by kernel_rfl) (by simp) ?_; refine AllReadyH.cons (by rfl) (fun K hK => ?_) AllReadyH.nil; rw [if_pos (by kernel_rfl)]; simp only [List.getElem_toArray, List.getElem_cons_succ, List.getElem_cons_zero]
  go_wp2_with (first
    | (go_at_call 106; (with_reducible refine (acap_is _ HWE.out.mm.sv.st.pg.ar).mono ?_); rintro e w1 ⟨rfl, rfl⟩))
  refine hK.out _ _ ⟨HSE.out.b0, HWE.out.kk.f1, HWE.out.mm.m0, HWE.out.mm.sv.st.s1, HWE.out.mm.sv.st.pg.f0⟩ (fun hHeld => ?_)
  clear hK K
  (try simp only [Act.put, List.getElem_toArray, List.getElem_cons_succ, List.getElem_cons_zero, List.setIfInBounds_toArray, List.set_cons_zero, List.set_cons_succ])
  refine wpAnyH_ready (rs := [23]) (by kernel_rfl) (by simp) ?_; refine AllReadyH.cons (by rfl) (fun K hK => ?_) AllReadyH.nil; rw [if_pos (by kernel_rfl)]; simp only [List.getElem_toArray, List.getElem_cons_succ, List.getElem_cons_zero]
  go_wp2_with (first
    | (go_at_call 105; (with_reducible refine (badd_p w bb (bb + 1) (bb + 2) q _ _ L1.out HO.out H.out _ _ HSE.out).mono ?_); rintro e w5 ⟨rfl, v5, h5⟩; have HS5 := Lib.hid h5; clear h5))
  have HW5 := Lib.hid (H.out.below HS5.out.bel)
  refine hK.out _ _ ⟨HS5.out.b0, HW5.out.kk.f1, HW5.out.mm.m0, HW5.out.mm.sv.st.s1, HW5.out.mm.sv.st.pg.f0⟩ (fun hHeld => ?_)
  clear hK K
  (try simp only [Act.put, List.getElem_toArray, List.getElem_cons_succ, List.getElem_cons_zero, List.setIfInBounds_toArray, List.set_cons_zero, List.set_cons_succ])
  refine wpAnyH_done (by kernel_rfl) ?_ _
  refine NoPanic.normal ?_
  clear hHeld
  go_upto_region 7 with fail
  obtain ⟨wF, hwF⟩ : ∃ wF, wF = w5.drew := ⟨_, rfl⟩
  have HSF := Lib.hid (HS5.out.below (by rw [hwF]; exact (Below.refl _ _).drew) : OwS w wF L.P bb (bb + 1) (bb + 2) q v5 _ _)
  have HWF := Lib.hid (H.out.below HSF.out.bel)
  refine wp_region_noPanic ?_
  refine wp_region_held_drew (S := fun w' => (World.cell? w' ⟨bb, 0, none⟩ = some (.pointer (some ⟨L.P, 0, none⟩)) ∧ World.cell? w' ⟨L.P, 2, none⟩ = some (.pointer (some ⟨L.dP, 0, none⟩)) ∧ World.cell? w' ⟨L.dP, 0, none⟩ = some (.pointer (some ⟨L.dp, 0, none⟩)))) (by kernel_rfl) (by rw [← hwF]; exact ⟨HSF.out.b0, HWF.out.kk.f2, HWF.out.dd.pl.f0⟩) (fun hHeld => ?_)
  rw [← hwF] at hHeld ⊢
  clear hwF
  refine wpAnyH_take (i := 0) (v := ?_) (by rfl) (by kernel_rfl) (by kernel_rfl) (by kernel_rfl) (fun _ _ _ h => h) (Or.inl ⟨by kernel_rfl, ?_⟩) (by assumption) ?_; rotate_left 1; (focus (intro w hSw; (try dsimp only at hSw); simp only [List.getElem_toArray, List.getElem_cons_succ, List.getElem_cons_zero]; all_goals go_simp; all_goals (try with_reducible rfl))); (try simp only [Act.put, List.getElem_toArray, List.getElem_cons_succ, List.getElem_cons_zero, List.setIfInBounds_toArray, List.set_cons_zero, List.set_cons_succ])
  refine wpAnyH_take (i := 1) (v := ?_) (by rfl) (by kernel_rfl) (by kernel_rfl) (by kernel_rfl) (fun _ _ _ h => h) (Or.inl ⟨by kernel_rfl, ?_⟩) (by assumption) ?_; rotate_left 1; (focus (intro w hSw; (try dsimp only at hSw); simp only [List.getElem_toArray, List.getElem_cons_succ, List.getElem_cons_zero]; all_goals go_simp; all_goals (try with_reducible rfl))); (try simp only [Act.put, List.getElem_toArray, List.getElem_cons_succ, List.getElem_cons_zero, List.setIfInBounds_toArray, List.set_cons_zero, List.set_cons_succ])
  refine wpAnyH_take (i := 2) (v := ?_) (by rfl) (by kernel_rfl) (by kernel_rfl) (by kernel_rfl) (fun _ _ _ h => h) (Or.inl ⟨by kernel_rfl, ?_⟩) (by assumption) ?_; rotate_left 1; (focus (intro w hSw; (try dsimp only at hSw); simp only [List.getElem_toArray, List.getElem_cons_succ, List.getElem_cons_zero]; all_goals go_simp; all_goals (try with_reducible rfl))); (try simp only [Act.put, List.getElem_toArray, List.getElem_cons_succ, List.getElem_cons_zero, List.setIfInBounds_toArray, List.set_cons_zero, List.set_cons_succ])
  refine wpAnyH_take (i := 3) (v := ?_) (by rfl) (by kernel_rfl) (by kernel_rfl) (by kernel_rfl) (fun _ _ _ h => h) (Or.inl ⟨by kernel_rfl, ?_⟩) (by assumption) ?_; rotate_left 1; (focus (intro w hSw; (try dsimp only at hSw); simp only [List.getElem_toArray, List.getElem_cons_succ, List.getElem_cons_zero]; all_goals go_simp; all_goals (try with_reducible rfl))); (try simp only [Act.put, List.getElem_toArray, List.getElem_cons_succ, List.getElem_cons_zero, List.setIfInBounds_toArray, List.set_cons_zero, List.set_cons_succ])
  refine wpAnyH_take (i := 4) (v := ?_) (by rfl) (by kernel_rfl) (by kernel_rfl) (by kernel_rfl) (fun _ _ _ h => h) (Or.inl ⟨by kernel_rfl, ?_⟩) (by assumption) ?_; rotate_left 1; (focus (intro w hSw; (try dsimp only at hSw); simp only [List.getElem_toArray, List.getElem_cons_succ, List.getElem_cons_zero]; all_goals go_simp; all_goals (try with_reducible rfl))); (try simp only [Act.put, List.getElem_toArray, List.getElem_cons_succ, List.getElem_cons_zero, List.setIfInBounds_toArray, List.set_cons_zero, List.set_cons_succ])
  refine wpAnyH_take (i := 5) (v := ?_) (by rfl) (by kernel_rfl) (by kernel_rfl) (by kernel_rfl) (fun _ _ _ h => h) (Or.inl ⟨by kernel_rfl, ?_⟩) (by assumption) ?_; rotate_left 1; (focus (intro w hSw; (try dsimp only at hSw); simp only [List.getElem_toArray, List.getElem_cons_succ, List.getElem_cons_zero]; all_goals go_simp; all_goals (try with_reducible rfl))); (try simp only [Act.put, List.getElem_toArray, List.getElem_cons_succ, List.getElem_cons_zero, List.setIfInBounds_toArray, List.set_cons_zero, List.set_cons_succ])
  refine wpAnyH_take (i := 6) (v := ?_) (by rfl) (by kernel_rfl) (by kernel_rfl) (by kernel_rfl) (fun _ _ _ h => h) (Or.inl ⟨by kernel_rfl, ?_⟩) (by assumption) ?_; rotate_left 1; (focus (intro w hSw; (try dsimp only at hSw); simp only [List.getElem_toArray, List.getElem_cons_succ, List.getElem_cons_zero]; all_goals go_simp; all_goals (try with_reducible rfl))); (try simp only [Act.put, List.getElem_toArray, List.getElem_cons_succ, List.getElem_cons_zero, List.setIfInBounds_toArray, List.set_cons_zero, List.set_cons_succ])
  refine wpAnyH_take (i := 7) (v := ?_) (by rfl) (by kernel_rfl) (by kernel_rfl) (by kernel_rfl) (fun _ _ _ h => h) (Or.inl ⟨by kernel_rfl, ?_⟩) (by assumption) ?_; rotate_left 1; (focus (intro w hSw; (try dsimp only at hSw); simp only [List.getElem_toArray, List.getElem_cons_succ, List.getElem_cons_zero]; all_goals go_simp; all_goals (try with_reducible rfl))); (try simp only [Act.put, List.getElem_toArray, List.getElem_cons_succ, List.getElem_cons_zero, List.setIfInBounds_toArray, List.set_cons_zero, List.set_cons_succ])
  refine wpAnyH_take (i := 9) (v := ?_) (by rfl) (by kernel_rfl) (by kernel_rfl) (by kernel_rfl) (fun _ _ _ h => h) (Or.inl ⟨by kernel_rfl, ?_⟩) (by assumption) ?_; rotate_left 1; (focus (intro w hSw; (try dsimp only at hSw); simp only [List.getElem_toArray, List.getElem_cons_succ, List.getElem_cons_zero]; all_goals go_simp; all_goals (try with_reducible rfl))); (try simp only [Act.put, List.getElem_toArray, List.getElem_cons_succ, List.getElem_cons_zero, List.setIfInBounds_toArray, List.set_cons_zero, List.set_cons_succ])
  refine wpAnyH_take (i := 10) (v := ?_) (by rfl) (by kernel_rfl) (by kernel_rfl) (by kernel_rfl) (fun _ _ _ h => h) (Or.inl ⟨by kernel_rfl, ?_⟩) (by assumption) ?_; rotate_left 1; (focus (intro w hSw; (try dsimp only at hSw); simp only [List.getElem_toArray, List.getElem_cons_succ, List.getElem_cons_zero]; all_goals go_simp; all_goals (try with_reducible rfl))); (try simp only [Act.put, List.getElem_toArray, List.getElem_cons_succ, List.getElem_cons_zero, List.setIfInBounds_toArray, List.set_cons_zero, List.set_cons_succ])
  refine wpAnyH_take (i := 11) (v := ?_) (by rfl) (by kernel_rfl) (by kernel_rfl) (by kernel_rfl) (fun _ _ _ h => h) (Or.inl ⟨by kernel_rfl, ?_⟩) (by assumption) ?_; rotate_left 1; (focus (intro w hSw; (try dsimp only at hSw); simp only [List.getElem_toArray, List.getElem_cons_succ, List.getElem_cons_zero]; all_goals go_simp; all_goals (try with_reducible rfl))); (try simp only [Act.put, List.getElem_toArray, List.getElem_cons_succ, List.getElem_cons_zero, List.setIfInBounds_toArray, List.set_cons_zero, List.set_cons_succ])
  refine wpAnyH_take (i := 12) (v := ?_) (by rfl) (by kernel_rfl) (by kernel_rfl) (by kernel_rfl) (fun _ _ _ h => h) (Or.inl ⟨by kernel_rfl, ?_⟩) (by assumption) ?_; rotate_left 1; (focus (intro w hSw; (try dsimp only at hSw); simp only [List.getElem_toArray, List.getElem_cons_succ, List.getElem_cons_zero]; all_goals go_simp; all_goals (try with_reducible rfl))); (try simp only [Act.put, List.getElem_toArray, List.getElem_cons_succ, List.getElem_cons_zero, List.setIfInBounds_toArray, List.set_cons_zero, List.set_cons_succ])
  refine wpAnyH_take (i := 13) (v := ?_) (by rfl) (by kernel_rfl) (by kernel_rfl) (by kernel_rfl) (fun _ _ _ h => h) (Or.inl ⟨by kernel_rfl, ?_⟩) (by assumption) ?_; rotate_left 1; (focus (intro w hSw; (try dsimp only at hSw); simp only [List.getElem_toArray, List.getElem_cons_succ, List.getElem_cons_zero]; all_goals go_simp; all_goals (try with_reducible rfl))); (try simp only [Act.put, List.getElem_toArray, List.getElem_cons_succ, List.getElem_cons_zero, List.setIfInBounds_toArray, List.set_cons_zero, List.set_cons_succ])
  refine wpAnyH_ready (rs := [8]) (by kernel_rfl) (by simp) ?_; refine AllReadyH.cons (by rfl) (fun K hK => ?_) AllReadyH.nil; rw [if_pos (by kernel_rfl)]; simp only [List.getElem_toArray, List.getElem_cons_succ, List.getElem_cons_zero]
  go_wp2_with (first
    | (go_at_call 106; (with_reducible refine (acap_is _ HWF.out.dd.pl.ar).mono ?_); rintro e w1 ⟨rfl, rfl⟩))
  refine hK.out _ _ ⟨HSF.out.b0, HWF.out.kk.f2, HWF.out.dd.pl.f0⟩ (fun hHeld => ?_)
  clear hK K
  (try simp only [Act.put, List.getElem_toArray, List.getElem_cons_succ, List.getElem_cons_zero, List.setIfInBounds_toArray, List.set_cons_zero, List.set_cons_succ])
  refine wpAnyH_ready (rs := [14]) (by kernel_rfl) (by simp) ?_; refine AllReadyH.cons (by rfl) (fun K hK => ?_) AllReadyH.nil; rw [if_pos (by kernel_rfl)]; simp only [List.getElem_toArray, List.getElem_cons_succ, List.getElem_cons_zero]
  go_wp2_with (first
    | (go_at_call 105; (with_reducible refine (badd_d w bb (bb + 1) (bb + 2) q _ _ L2.out HO.out H.out _ _ HSF.out).mono ?_); rintro e w6 ⟨rfl, v6, h6⟩; have HS6 := Lib.hid h6; clear h6))
  have HW6 := Lib.hid (H.out.below HS6.out.bel)
  refine hK.out _ _ ⟨HS6.out.b0, HW6.out.kk.f2, HW6.out.dd.pl.f0⟩ (fun hHeld => ?_)
  clear hK K
  (try simp only [Act.put, List.getElem_toArray, List.getElem_cons_succ, List.getElem_cons_zero, List.setIfInBounds_toArray, List.set_cons_zero, List.set_cons_succ])
  refine wpAnyH_done (by kernel_rfl) ?_ _
  refine NoPanic.normal ?_
  clear hHeld
  have z0 := HS6.out.o0
  go_wp2_with fail
  go_ret
  have hr := HS6.out.row
  rw [Nat.zero_add, List.nil_append] at hr
  exact ⟨_, rfl, HS6.out.bel, own_base hr (by have := hbb.out; omega)⟩
end Go.Proofs.YtncopdhhchmpeaaGreatDoor
namespace Go.Proofs.YtncopdhhchmpeaaGreatDoor
open Go.ChangeShapes Go.WideShapes Go.ChangeAt Go.RowKit
set_option linter.unusedVariables false
set_option linter.unusedSimpArgs false
theorem thN_out {k i : Nat} (h : k ≤ i) : thN k i = false := by simp [thN]; omega
set_option maxRecDepth 100000 in
set_option maxHeartbeats 1000000 in
theorem bchain_out {base P p B A G1 G2 G3 n c mb db nb : Nat} {pr us lm o1 v1 o2 v2 o3 v3 : Nat → Int} (i : Nat) (hi : nb ≤ i) (hin : i < n) (w : World) (h : BkAt w base P p B A G1 G2 G3 n c mb db (thN nb) (fun _ => 0) pr us lm o1 v1 o2 v2 o3 v3) :
    Calls Tryz.prog 77 #[.pointer (some ⟨P, 0, none⟩), .int .i64 (i : Int)] w fun e w' => e = .returned (.slice none 0 0) ∧ Below w.heap.size w w' := by
  have H := Lib.hid h
  have f0 := h.f0
  have HT : Hid (thN nb i = false) := Lib.hid (thN_out hi)
  clear h
  go_enter Tryz.func77, Tryz.ntmps77
  go_wp2_with fail
  go_loopw [1, 5] (fun x v wr => x = .int .i64 (i : Int) ∧ v = .slice none 0 0 ∧ wr = w) (fun _ _ _ => 0)
  case atStart => exact ⟨rfl, rfl, rfl⟩
  case round =>
    obtain ⟨rfl, rfl, rfl⟩ := hrel
    go_wp2_with (first
      | (go_at_call 63; (with_reducible refine (athere_in i hin false HT _ H.out.ar).mono ?_); rintro e w1 ⟨rfl, rfl⟩))
    go_ret
    exact ⟨rfl, Below.refl _ _⟩
set_option maxRecDepth 100000 in
set_option maxHeartbeats 1000000 in
theorem bwithin_out {base P p B A G1 G2 G3 n c mb db nb : Nat} {pr us lm o1 v1 o2 v2 o3 v3 : Nat → Int} (i : Nat) (z : Int) (hi : nb ≤ i) (hin : i < n) (w : World) (h : BkAt w base P p B A G1 G2 G3 n c mb db (thN nb) (fun _ => 0) pr us lm o1 v1 o2 v2 o3 v3) :
    Calls Tryz.prog 104 #[.pointer (some ⟨P, 0, none⟩), .int .i64 (i : Int), .int .i64 z] w fun e w' => e = .returned (.bool false) ∧ Below w.heap.size w w' := by
  have H := Lib.hid h
  clear h
  go_enter Tryz.func104, Tryz.ntmps104
  go_wp2_with (first
    | (go_at_call 77; (with_reducible refine (bchain_out i hi hin _ H.out).mono ?_); rintro e w1 ⟨rfl, hb⟩; have HB1 := Lib.hid hb; have HCo := Lib.hid (scon_any w1 1 (.slice none 0 0) [] 0 (Lib.hid rfl) (by decide) z false (Lib.hid rfl) none 0 rfl (World.ownsRow_nil _ _ _ _)); clear hb)
    | (go_at_call 71; (with_reducible refine HCo.out.mono ?_); rintro e w2 ⟨rfl, rfl⟩))
  go_ret
  exact ⟨rfl, HB1.out⟩
/-- Those below n that are in, or within bank z. -/
def inL (nb : Nat) (pr : Nat → Int) (z : Int) (n : Nat) : List Nat := (List.range n).filter (fun i => decide (i < nb) && (chL pr (i : Int)).contains z)
theorem inL_yes {nb : Nat} {pr : Nat → Int} {z : Int} (n : Nat) (h : (decide (n < nb) && (chL pr (n : Int)).contains z) = true) : inL nb pr z (n + 1) = inL nb pr z n ++ [n] := by
  unfold inL; rw [List.range_succ, List.filter_append]; simp only [List.filter_cons, List.filter_nil, h, if_true]
theorem inL_no {nb : Nat} {pr : Nat → Int} {z : Int} (n : Nat) (h : (decide (n < nb) && (chL pr (n : Int)).contains z) = false) : inL nb pr z (n + 1) = inL nb pr z n := by
  unfold inL; rw [List.range_succ, List.filter_append]; simp only [List.filter_cons, List.filter_nil, h]; simp
theorem inL_len (nb : Nat) (pr : Nat → Int) (z : Int) (n : Nat) : (inL nb pr z n).length ≤ n := by
  have := List.length_filter_le (fun i => decide (i < nb) && (chL pr (i : Int)).contains z) (List.range n)
  simpa [inL] using this
def ivals (l : List Nat) : List Value := l.map (fun (i : Nat) => Value.int .i64 (i : Int))
set_option maxRecDepth 100000 in
set_option maxHeartbeats 1000000 in
theorem binner_is {base P p B A G1 G2 G3 n c mb db nb : Nat} {pr us lm o1 v1 o2 v2 o3 v3 : Nat → Int} (z : Int) (hnb : nb ≤ n) (hpr : Hid (PrOk nb pr)) (w : World) (h : BkAt w base P p B A G1 G2 G3 n c mb db (thN nb) (fun _ => 0) pr us lm o1 v1 o2 v2 o3 v3) :
    Calls Tryz.prog 73 #[.pointer (some ⟨P, 0, none⟩), .int .i64 z] w fun e w' => ∃ v, e = .returned v ∧ w'.ownsRow w.heap.size 3 1 v (inL nb pr z n).length (ivals (inL nb pr z n)) ∧ Below w.heap.size w w' := by
  have H := Lib.hid h
  have hn := h.ar.le
  have f3 := h.f3
  obtain ⟨i0, hi, hz0, hz1, hz2⟩ := info_parts infoIntB
  have HI := Lib.hid (⟨hi, hz0, hz1, hz2⟩ : Tryz.prog.info? 3 = some i0 ∧ i0.zero = some (.int .i64 0) ∧ i0.size = 1 ∧ i0.bytes = 8)
  clear h hi hz0 hz1 hz2
  go_enter Tryz.func73, Tryz.ntmps73
  go_wp2_with fail
  go_loopw [5, 12] (fun v x wr => ∃ (i : Nat), x = .int .i64 (i : Int) ∧ i ≤ n ∧ wr.ownsRow w.heap.size 3 1 v (inL nb pr z i).length (ivals (inL nb pr z i)) ∧ Below w.heap.size w wr) (fun _ x _ => n - (intOf x).toNat)
  case atStart => exact ⟨0, rfl, Nat.zero_le _, World.ownsRow_nil _ _ _ _, Below.refl _ _⟩
  case round =>
    obtain ⟨i, rfl, hin, hown, hbel⟩ := hrel
    have hle := inL_len nb pr z i
    have hh := hown
    have HL := Lib.hid hbel
    have HM := Lib.hid (H.out.below hbel)
    obtain ⟨m, hm⟩ : ∃ m, Hid ((inL nb pr z i).length = m) := ⟨_, Lib.hid rfl⟩
    obtain ⟨xs, hxs⟩ : ∃ xs, Hid (ivals (inL nb pr z i) = xs) := ⟨_, Lib.hid rfl⟩
    rw [hm.out, hxs.out] at hh
    rw [hm.out] at hle
    have HW := Lib.hid hh
    have g0 : (0 : Int) ≤ i := by omega
    clear hown hbel hh
    by_cases hlt : i < n
    · obtain ⟨t, ht⟩ : ∃ t, Hid ((decide (i < nb) && (chL pr (i : Int)).contains z) = t) := ⟨_, Lib.hid rfl⟩
      have HWi : Hid (Calls Tryz.prog 104 #[.pointer (some ⟨P, 0, none⟩), .int .i64 (i : Int), .int .i64 z] wr fun e w' => e = .returned (.bool t) ∧ Below wr.heap.size wr w') := Lib.hid (by
        by_cases hi : i < nb
        · exact bwithin_is (i : Int) z t (by omega) (by omega) hnb hpr (Lib.hid (by rw [← ht.out, decide_eq_true hi]; rfl)) wr HM.out
        · have e : t = false := by rw [← ht.out, decide_eq_false hi]; rfl
          rw [e]
          exact bwithin_out i z (by omega) hlt wr HM.out)
      cases t
      · go_wp2_with (first
          | (go_at_call 104; (with_reducible refine HWi.out.mono ?_); rintro e w1 ⟨rfl, hb⟩; have HB1 := Lib.hid (HL.out.trans (hb.mono HL.out.size)); have HW1 := Lib.hid (row_same' HW.out (fun g hg => hb.block g (HW.out.lt g hg).2)); clear hb))
        go_roundw
        case rel => exact ⟨i + 1, by go_num, by omega, by rw [inL_no i ht.out, hm.out, hxs.out]; exact HW1.out, HB1.out⟩
        case measure => simp [intOf]; omega
      · go_wp2_with (first
          | (go_at_call 104; (with_reducible refine HWi.out.mono ?_); rintro e w1 ⟨rfl, hb⟩; have HB1 := Lib.hid (HL.out.trans (hb.mono HL.out.size)); have HW1 := Lib.hid (row_same' HW.out (fun g hg => hb.block g (HW.out.lt g hg).2)); clear hb)
          | (at_builtin; refine wpList_append_own _ rfl _ _ 57 rfl w.heap.size 3 i0 (.int .i64 0) 1 8 Tryz.underlying57 HI.out.1 HI.out.2.1 HI.out.2.2.1 HI.out.2.2.2 rfl (by decide) _ _ _ rfl (HW1.out.alloc _) ⟨w1.heap.size, 0, none⟩ 1 1 [.int .i64 (i : Int)] rfl rfl (cell_one_new _ _ _) (ints_oneCell .i64 [(i : Int)]) (by unfold maxLen; omega) (by omega) (by have := HB1.out.size; simp; omega) ?_; intro v' w2 hown' hgrow' _; have HB2 : Hid (Below w.heap.size w w2) := Lib.hid ((HB1.out.alloc HB1.out.size _).grown hgrow' (by have := HB1.out.size; simp; omega) (fun g hg => (HW1.out.lt g hg).1)); have HO2 := Lib.hid hown'; clear hown' hgrow'))
        go_roundw
        case rel => exact ⟨i + 1, by go_num, by omega, by rw [inL_yes i ht.out, List.length_append, hm.out]; unfold ivals; rw [List.map_append]; have e := hxs.out; unfold ivals at e; rw [e]; exact HO2.out, HB2.out⟩
        case measure => simp [intOf]; omega
    · have e : i = n := by omega
      go_wp2_with fail
      go_ret
      exact ⟨_, rfl, by rw [← e, hm.out, hxs.out]; exact HW.out, HL.out⟩
end Go.Proofs.YtncopdhhchmpeaaGreatDoor
namespace Go.Proofs.YtncopdhhchmpeaaGreatDoor
open Go.ChangeShapes Go.WideShapes Go.ChangeAt Go.RowKit
set_option linter.unusedVariables false
set_option linter.unusedSimpArgs false
set_option maxRecDepth 100000 in
theorem mgn_ok {w0 : World} {mb S : Nat} {a b : Shp} {N cb : Nat} {size : Int} {th : Nat → Bool} {vr_ : Nat → Int} {W : Nat → Nat → Value} {th2 : Nat → Bool} {vr2 : Nat → Int} {W2 : Nat → Nat → Int} {hits : Int} {v : Value} {E : List EW} (k : Nat) (hn : k < a.n) (ht : Hid (th k = true)) (u : Int) (hv : Hid (vr_ k = u)) (u0 : -1000000000 ≤ u) (u1 : u ≤ 1000000000) (w : World) (h : (MemAt w0 w mb S a b N cb size th vr_ W th2 vr2 W2 hits v E)) :
    Calls Tryz.prog 108 #[.pointer (some ⟨mb, 0, none⟩), .int .i64 (k : Int)] w fun e w' => e = .returned .nilIface ∧ MemAt w0 w' mb S a b N cb size (upd th k false) (upd vr_ k (u + 1)) W th2 vr2 W2 hits (.slice none 0 0) [] ∧ KeepM w w' N cb v := by
  have H := Lib.hid h
  have m0 := h.m0
  have s0 := h.sv.st.s0
  have f0 := h.sv.st.nd.f0
  clear h
  go_enter Tryz.func108, Tryz.ntmps108
  go_wp2_with (first
    | (go_at_call 72; (with_reducible refine (agive_ok _ H.out.sv.st.nd.ar k hn ht u hv u0 u1).mono ?_); rintro e w1 ⟨rfl, hA, hg⟩; have hb := PBelow.of (B := a.B) (G := a.G) hg (.inl rfl); have HF := Lib.hid (H.out.nodeC (H.out.sv.st.nd.turn hA hg) hb); have hmb := hb.2.2.2.2 mb H.out.ml (by have := H.out.mn; have := H.out.lo.n; omega) (by have := H.out.mn; have := H.out.lo.n; omega); have hcb := hb.2.2.2.2 cb H.out.ca.cl (by have := H.out.ca.nb; have := H.out.lo.n; omega) (by have := H.out.ca.nb; have := H.out.lo.n; omega); have HMB := Lib.hid hmb; have HCB := Lib.hid hcb; clear hA hg hb hmb hcb m0 s0 f0)
    | (go_at_call 130; (with_reducible refine (mgiven_ok mb cb v _ ((World.cell?_of_block (a := ⟨mb, 1, none⟩) HMB.out).trans H.out.m1) ((World.cell?_of_block (a := ⟨cb, 2, none⟩) HCB.out).trans H.out.ca.c2) ((World.frozen?_of_block (a := ⟨cb, 2, none⟩) HCB.out).trans (H.out.ca.fr 2))).mono ?_); rintro e w2 ⟨rfl, hw⟩; have HW := Lib.hid hw; clear hw))
  go_ret
  exact ⟨rfl, by rw [HW.out]; exact HF.out.1, by rw [HW.out]; exact HF.out.2⟩
set_option maxRecDepth 100000 in
theorem mgp_ok {w0 : World} {mb S : Nat} {a b : Shp} {N cb : Nat} {size : Int} {th : Nat → Bool} {vr_ : Nat → Int} {W : Nat → Nat → Value} {th2 : Nat → Bool} {vr2 : Nat → Int} {W2 : Nat → Nat → Int} {hits : Int} {v : Value} {E : List EW} (k : Nat) (hn : k < b.n) (ht : Hid (th2 k = true)) (u : Int) (hv : Hid (vr2 k = u)) (u0 : -1000000000 ≤ u) (u1 : u ≤ 1000000000) (w : World) (h : (MemAt w0 w mb S a b N cb size th vr_ W th2 vr2 W2 hits v E)) :
    Calls Tryz.prog 109 #[.pointer (some ⟨mb, 0, none⟩), .int .i64 (k : Int)] w fun e w' => e = .returned .nilIface ∧ MemAt w0 w' mb S a b N cb size th vr_ W (upd th2 k false) (upd vr2 k (u + 1)) W2 hits (.slice none 0 0) [] ∧ KeepM w w' N cb v := by
  have H := Lib.hid h
  have m0 := h.m0
  have s0 := h.sv.st.s1
  have f0 := h.sv.st.pg.f0
  clear h
  go_enter Tryz.func109, Tryz.ntmps109
  go_wp2_with (first
    | (go_at_call 72; (with_reducible refine (agive_ok _ H.out.sv.st.pg.ar k hn ht u hv u0 u1).mono ?_); rintro e w1 ⟨rfl, hA, hg⟩; have hb := PBelow.of (B := b.B) (G := b.G) hg (.inl rfl); have HF := Lib.hid (H.out.pageC (H.out.sv.st.pg.turn hA hg) hb); have hmb := hb.2.2.2.2 mb H.out.ml (by have := H.out.mn; have := H.out.lo.p; omega) (by have := H.out.mn; have := H.out.lo.p; omega); have hcb := hb.2.2.2.2 cb H.out.ca.cl (by have := H.out.ca.nb; have := H.out.lo.p; omega) (by have := H.out.ca.nb; have := H.out.lo.p; omega); have HMB := Lib.hid hmb; have HCB := Lib.hid hcb; clear hA hg hb hmb hcb m0 s0 f0)
    | (go_at_call 130; (with_reducible refine (mgiven_ok mb cb v _ ((World.cell?_of_block (a := ⟨mb, 1, none⟩) HMB.out).trans H.out.m1) ((World.cell?_of_block (a := ⟨cb, 2, none⟩) HCB.out).trans H.out.ca.c2) ((World.frozen?_of_block (a := ⟨cb, 2, none⟩) HCB.out).trans (H.out.ca.fr 2))).mono ?_); rintro e w2 ⟨rfl, hw⟩; have HW := Lib.hid hw; clear hw))
  go_ret
  exact ⟨rfl, by rw [HW.out]; exact HF.out.1, by rw [HW.out]; exact HF.out.2⟩
theorem BW.memC {w0 w w' : World} {L : BLoc} {D : BSt} (h : BW w0 w L D) {nt' : Nat → Bool} {nv' : Nat → Int} {pt' : Nat → Bool} {pv' : Nat → Int} (hm : MemAt w0 w' L.mb L.S L.a L.b L.N L.cb L.z nt' nv' D.nW pt' pv' D.pW 0 (.slice none 0 0) []) (hk : KeepM w w' L.N L.cb (.slice none 0 0)) : BW w0 w' L { D with nt := nt', nv := nv', pt := pt', pv := pv' } ∧ UpT L.T w w' := by
  have hmd := h.md
  have hdl := h.dl
  have htt := h.tt
  exact ⟨⟨hm, DsAt.same h.d hk.1 (fun k hk1 hk2 => hk.2 k (by omega) hk2 (by omega) (by simp [Value.ownBlock])), BkAt.same h.k hk.1 (fun k hk1 hk2 => hk.2 k (by omega) hk2 (by omega) (by simp [Value.ownBlock])), h.md, h.db, h.dl, h.pk, h.nn, h.tt, Nat.le_trans h.tw hk.1⟩, hk.1, fun k hk1 hk2 => hk.2 k (by omega) hk2 (by omega) (by simp [Value.ownBlock])⟩
theorem KeyC.upt {w w' : World} {T b : Nat} {k0 k1 k2 k3 k4 : Int} (h : KeyC w b k0 k1 k2 k3 k4) (hu : UpT T w w') (hb : T ≤ b) : KeyC w' b k0 k1 k2 k3 k4 := h.same' hu.1 (hu.2 b hb h.lt)
set_option maxRecDepth 100000 in
set_option maxHeartbeats 2000000 in
theorem bgb_node {w0 : World} {L : BLoc} {D : BSt} (k1 : Nat) (k2 k3 k4 : Int) (hj : k1 < 256) (hn : k1 < L.a.n) (ht : Hid (D.nt k1 = true)) (hv : Hid (D.nv k1 = k2)) (u0 : -1000000000 ≤ k2) (u1 : k2 ≤ 1000000000) (w : World) (h : BW w0 w L D) :
    Calls Tryz.prog 75 #[.pointer (some ⟨L.P, 0, none⟩), (Value.agg #[.int .i64 2, .int .i64 (k1 : Int), .int .i64 k2, .int .i64 k3, .int .u32 k4])] w fun e w' => e = .returned (.tuple #[]) ∧ BW w0 w' L { D with nt := upd D.nt k1 false, nv := upd D.nv k1 (k2 + 1), o1 := upd D.o1 k1 (-1), v1 := upd D.v1 k1 0 } ∧ UpT L.T w w' := by
  have H := Lib.hid h
  have HLT := Lib.hid h.lowT
  have HTT := Lib.hid h.tt
  have HTw := Lib.hid h.tw
  have j0 : (0 : Int) ≤ k1 := by omega
  have j1 : (k1 : Int) < 256 := by omega
  clear h
  go_enter Tryz.func75, Tryz.ntmps75
  go_upto_region 3 with fail
  generalize hw2 : World.alloc w _ = w2
  have HB2 : Hid (Below w.heap.size w w2) := Lib.hid (by rw [← hw2]; exact (Below.refl _ _).alloc (Nat.le_refl _) _)
  obtain ⟨kb, hkb⟩ : ∃ kb, kb = w.heap.size := ⟨_, rfl⟩
  have HK2 : Hid (KeyC w2 kb 2 (k1 : Int) k2 k3 k4) := Lib.hid (by rw [← hw2, hkb]; exact KeyC.new w 2 (k1 : Int) k2 k3 k4 _)
  have HKb : Hid (L.T ≤ kb) := Lib.hid (by rw [hkb]; exact HTw.out)
  rw [← hkb]
  clear hw2 hkb
  obtain ⟨k0, hk0⟩ : ∃ k0 : Int, Hid (k0 = 2) := ⟨_, Lib.hid rfl⟩
  obtain ⟨wD, hwD⟩ : ∃ wD, wD = w2.drew := ⟨_, rfl⟩
  have HBD : Hid (Below w2.heap.size w2 wD) := Lib.hid (by rw [hwD]; exact (Below.refl _ _).drew)
  have HWD := Lib.hid ((H.out.below HB2.out).below HBD.out)
  have HKD := Lib.hid (HK2.out.below HBD.out)
  refine wp_region_noPanic ?_
  refine wp_region_held_drew (S := fun w' => World.cell? w' ⟨L.P, 1, none⟩ = some (.pointer (some ⟨L.mb, 0, none⟩)) ∧ (World.cell? w' ⟨kb, 0, none⟩ = some (.int .i64 2) ∧ World.cell? w' ⟨kb, 1, none⟩ = some (.int .i64 (k1 : Int)) ∧ World.cell? w' ⟨kb, 2, none⟩ = some (.int .i64 k2) ∧ World.cell? w' ⟨kb, 3, none⟩ = some (.int .i64 k3) ∧ World.cell? w' ⟨kb, 4, none⟩ = some (.int .u32 k4))) (by kernel_rfl) (by rw [← hwD]; exact ⟨HWD.out.kk.f1, HKD.out.k5⟩) (fun hHeld => ?_)
  rw [← hwD] at hHeld ⊢
  clear hwD
  refine wpAnyH_take (i := 0) (v := ?_) (by rfl) (by kernel_rfl) (by kernel_rfl) (by kernel_rfl) (fun _ _ _ h => h) (Or.inl ⟨by kernel_rfl, ?_⟩) (by assumption) ?_; rotate_left 1; (focus (intro w hSw; (try dsimp only at hSw); simp only [List.getElem_toArray, List.getElem_cons_succ, List.getElem_cons_zero]; all_goals go_simp; all_goals (try with_reducible rfl))); (try simp only [Act.put, List.getElem_toArray, List.getElem_cons_succ, List.getElem_cons_zero, List.setIfInBounds_toArray, List.set_cons_zero, List.set_cons_succ])
  refine wpAnyH_take (i := 1) (v := ?_) (by rfl) (by kernel_rfl) (by kernel_rfl) (by kernel_rfl) (fun _ _ _ h => h) (Or.inl ⟨by kernel_rfl, ?_⟩) (by assumption) ?_; rotate_left 1; (focus (intro w hSw; (try dsimp only at hSw); simp only [List.getElem_toArray, List.getElem_cons_succ, List.getElem_cons_zero]; all_goals go_simp; all_goals (try with_reducible rfl))); (try simp only [Act.put, List.getElem_toArray, List.getElem_cons_succ, List.getElem_cons_zero, List.setIfInBounds_toArray, List.set_cons_zero, List.set_cons_succ])
  refine wpAnyH_take (i := 2) (v := ?_) (by rfl) (by kernel_rfl) (by kernel_rfl) (by kernel_rfl) (fun _ _ _ h => h) (Or.inl ⟨by kernel_rfl, ?_⟩) (by assumption) ?_; rotate_left 1; (focus (intro w hSw; (try dsimp only at hSw); simp only [List.getElem_toArray, List.getElem_cons_succ, List.getElem_cons_zero]; all_goals go_simp; all_goals (try with_reducible rfl))); (try simp only [Act.put, List.getElem_toArray, List.getElem_cons_succ, List.getElem_cons_zero, List.setIfInBounds_toArray, List.set_cons_zero, List.set_cons_succ])
  refine wpAnyH_take (i := 3) (v := ?_) (by rfl) (by kernel_rfl) (by kernel_rfl) (by kernel_rfl) (fun _ _ _ h => h) (Or.inl ⟨by kernel_rfl, ?_⟩) (by assumption) ?_; rotate_left 1; (focus (intro w hSw; (try dsimp only at hSw); simp only [List.getElem_toArray, List.getElem_cons_succ, List.getElem_cons_zero]; all_goals go_simp; all_goals (try with_reducible rfl))); (try simp only [Act.put, List.getElem_toArray, List.getElem_cons_succ, List.getElem_cons_zero, List.setIfInBounds_toArray, List.set_cons_zero, List.set_cons_succ])
  refine wpAnyH_take (i := 4) (v := ?_) (by rfl) (by kernel_rfl) (by kernel_rfl) (by kernel_rfl) (fun _ _ _ h => h) (Or.inl ⟨by kernel_rfl, ?_⟩) (by assumption) ?_; rotate_left 1; (focus (intro w hSw; (try dsimp only at hSw); simp only [List.getElem_toArray, List.getElem_cons_succ, List.getElem_cons_zero]; all_goals go_simp; all_goals (try with_reducible rfl))); (try simp only [Act.put, List.getElem_toArray, List.getElem_cons_succ, List.getElem_cons_zero, List.setIfInBounds_toArray, List.set_cons_zero, List.set_cons_succ])
  refine wpAnyH_take (i := 5) (v := ?_) (by rfl) (by kernel_rfl) (by kernel_rfl) (by kernel_rfl) (fun _ _ _ h => h) (Or.inl ⟨by kernel_rfl, ?_⟩) (by assumption) ?_; rotate_left 1; (focus (intro w hSw; (try dsimp only at hSw); simp only [List.getElem_toArray, List.getElem_cons_succ, List.getElem_cons_zero]; all_goals go_simp; all_goals (try with_reducible rfl))); (try simp only [Act.put, List.getElem_toArray, List.getElem_cons_succ, List.getElem_cons_zero, List.setIfInBounds_toArray, List.set_cons_zero, List.set_cons_succ])
  refine wpAnyH_ready (rs := [6]) (by kernel_rfl) (by simp) ?_; refine AllReadyH.cons (by rfl) (fun K hK => ?_) AllReadyH.nil; rw [if_pos (by kernel_rfl)]; simp only [List.getElem_toArray, List.getElem_cons_succ, List.getElem_cons_zero]
  go_wp2_with (first
    | (go_at_call 108; (with_reducible refine (mgn_ok k1 hn ht k2 hv u0 u1 _ HWD.out.mm).mono ?_); rintro e w3 ⟨rfl, hm, hkp⟩; have HN3 := Lib.hid (HWD.out.memC hm hkp); have HW3 := Lib.hid HN3.out.1; have HU3 := Lib.hid ((UpT.below (T := L.T) HBD.out).trans HN3.out.2); have HK3 := Lib.hid (HKD.out.upt HN3.out.2 HKb.out); clear hm hkp HN3))
  refine hK.out _ _ ⟨HW3.out.kk.f1, HK3.out.k5⟩ (fun hHeld => ?_)
  clear hK K hHeld
  (try simp only [Act.put, List.getElem_toArray, List.getElem_cons_succ, List.getElem_cons_zero, List.setIfInBounds_toArray, List.set_cons_zero, List.set_cons_succ])
  refine wpAnyH_done (by kernel_rfl) ?_ _
  refine NoPanic.normal ?_
  go_upto_region 8 with fail
  obtain ⟨wE, hwE⟩ : ∃ wE, wE = w3.drew := ⟨_, rfl⟩
  have HBE : Hid (Below w3.heap.size w3 wE) := Lib.hid (by rw [hwE]; exact (Below.refl _ _).drew)
  have HWE := Lib.hid (HW3.out.below HBE.out)
  have HKE := Lib.hid (HK3.out.below HBE.out)
  refine wp_region_noPanic ?_
  refine wp_region_held_drew (S := fun w' => (World.cell? w' ⟨kb, 0, none⟩ = some (.int .i64 2) ∧ World.cell? w' ⟨kb, 1, none⟩ = some (.int .i64 (k1 : Int)) ∧ World.cell? w' ⟨kb, 2, none⟩ = some (.int .i64 k2) ∧ World.cell? w' ⟨kb, 3, none⟩ = some (.int .i64 k3) ∧ World.cell? w' ⟨kb, 4, none⟩ = some (.int .u32 k4))) (by kernel_rfl) (by rw [← hwE]; exact HKE.out.k5) (fun hHeld => ?_)
  rw [← hwE] at hHeld ⊢
  clear hwE
  refine wpAnyH_take (i := 0) (v := ?_) (by rfl) (by kernel_rfl) (by kernel_rfl) (by kernel_rfl) (fun _ _ _ h => h) (Or.inl ⟨by kernel_rfl, ?_⟩) (by assumption) ?_; rotate_left 1; (focus (intro w hSw; (try dsimp only at hSw); simp only [List.getElem_toArray, List.getElem_cons_succ, List.getElem_cons_zero]; all_goals go_simp; all_goals (try with_reducible rfl))); (try simp only [Act.put, List.getElem_toArray, List.getElem_cons_succ, List.getElem_cons_zero, List.setIfInBounds_toArray, List.set_cons_zero, List.set_cons_succ])
  refine wpAnyH_take (i := 1) (v := ?_) (by rfl) (by kernel_rfl) (by kernel_rfl) (by kernel_rfl) (fun _ _ _ h => h) (Or.inl ⟨by kernel_rfl, ?_⟩) (by assumption) ?_; rotate_left 1; (focus (intro w hSw; (try dsimp only at hSw); simp only [List.getElem_toArray, List.getElem_cons_succ, List.getElem_cons_zero]; all_goals go_simp; all_goals (try with_reducible rfl))); (try simp only [Act.put, List.getElem_toArray, List.getElem_cons_succ, List.getElem_cons_zero, List.setIfInBounds_toArray, List.set_cons_zero, List.set_cons_succ])
  refine wpAnyH_take (i := 2) (v := ?_) (by rfl) (by kernel_rfl) (by kernel_rfl) (by kernel_rfl) (fun _ _ _ h => h) (Or.inl ⟨by kernel_rfl, ?_⟩) (by assumption) ?_; rotate_left 1; (focus (intro w hSw; (try dsimp only at hSw); simp only [List.getElem_toArray, List.getElem_cons_succ, List.getElem_cons_zero]; all_goals go_simp; all_goals (try with_reducible rfl))); (try simp only [Act.put, List.getElem_toArray, List.getElem_cons_succ, List.getElem_cons_zero, List.setIfInBounds_toArray, List.set_cons_zero, List.set_cons_succ])
  refine wpAnyH_take (i := 4) (v := ?_) (by rfl) (by kernel_rfl) (by kernel_rfl) (by kernel_rfl) (fun _ _ _ h => h) (Or.inl ⟨by kernel_rfl, ?_⟩) (by assumption) ?_; rotate_left 1; (focus (intro w hSw; (try dsimp only at hSw); simp only [List.getElem_toArray, List.getElem_cons_succ, List.getElem_cons_zero]; all_goals go_simp; all_goals (try with_reducible rfl))); (try simp only [Act.put, List.getElem_toArray, List.getElem_cons_succ, List.getElem_cons_zero, List.setIfInBounds_toArray, List.set_cons_zero, List.set_cons_succ])
  refine wpAnyH_take (i := 5) (v := ?_) (by rfl) (by kernel_rfl) (by kernel_rfl) (by kernel_rfl) (fun _ _ _ h => h) (Or.inl ⟨by kernel_rfl, ?_⟩) (by assumption) ?_; rotate_left 1; (focus (intro w hSw; (try dsimp only at hSw); simp only [List.getElem_toArray, List.getElem_cons_succ, List.getElem_cons_zero]; all_goals go_simp; all_goals (try with_reducible rfl))); (try simp only [Act.put, List.getElem_toArray, List.getElem_cons_succ, List.getElem_cons_zero, List.setIfInBounds_toArray, List.set_cons_zero, List.set_cons_succ])
  refine wpAnyH_take (i := 6) (v := ?_) (by rfl) (by kernel_rfl) (by kernel_rfl) (by kernel_rfl) (fun _ _ _ h => h) (Or.inl ⟨by kernel_rfl, ?_⟩) (by assumption) ?_; rotate_left 1; (focus (intro w hSw; (try dsimp only at hSw); simp only [List.getElem_toArray, List.getElem_cons_succ, List.getElem_cons_zero]; all_goals go_simp; all_goals (try with_reducible rfl))); (try simp only [Act.put, List.getElem_toArray, List.getElem_cons_succ, List.getElem_cons_zero, List.setIfInBounds_toArray, List.set_cons_zero, List.set_cons_succ])
  refine wpAnyH_ready (rs := [3]) (by kernel_rfl) (by simp) ?_; refine AllReadyH.cons (by rfl) (fun K hK => ?_) AllReadyH.nil; rw [if_pos (by kernel_rfl)]; simp only [List.getElem_toArray, List.getElem_cons_succ, List.getElem_cons_zero]
  go_wp2_with (first
    | (go_at_call 111; (with_reducible refine (btitles_is 2 L.G1 (.inl ⟨rfl, rfl⟩) _ HWE.out).mono ?_); rintro e w5 ⟨rfl, rfl⟩))
  refine hK.out _ _ HKE.out.k5 (fun hHeld => ?_)
  clear hK K
  (try simp only [Act.put, List.getElem_toArray, List.getElem_cons_succ, List.getElem_cons_zero, List.setIfInBounds_toArray, List.set_cons_zero, List.set_cons_succ])
  refine wpAnyH_take (i := 7) (v := ?_) (by rfl) (by kernel_rfl) (by kernel_rfl) (by kernel_rfl) (fun _ _ _ h => h) (Or.inl ⟨by kernel_rfl, ?_⟩) (by assumption) ?_; rotate_left 1; (focus (intro w hSw; (try dsimp only at hSw); simp only [List.getElem_toArray, List.getElem_cons_succ, List.getElem_cons_zero]; all_goals go_simp; all_goals (try with_reducible rfl))); (try simp only [Act.put, List.getElem_toArray, List.getElem_cons_succ, List.getElem_cons_zero, List.setIfInBounds_toArray, List.set_cons_zero, List.set_cons_succ])
  refine wpAnyH_ready (rs := [8]) (by kernel_rfl) (by simp) ?_; refine AllReadyH.cons (by rfl) (fun K hK => ?_) AllReadyH.nil; rw [if_pos (by kernel_rfl)]; simp only [List.getElem_toArray, List.getElem_cons_succ, List.getElem_cons_zero]
  have hti := HWE.out.kk.t1.ti k1 hj
  obtain ⟨c0, c1⟩ := hti
  have z0 := HWE.out.kk.t1.fr (k1 * 2)
  have z1 := HWE.out.kk.t1.fr (k1 * 2 + 1)
  have HS := Lib.hid (HWE.out.kk.t1.title k1 hj (-1) 0)
  have H4 := Lib.hid (HWE.out.kk.ti1 HS.out.1 HS.out.2)
  have HUS := Lib.hid (UpT.grown (T := L.T) HS.out.2 (by have := HTT.out; omega))
  have HKF := Lib.hid (HKE.out.upt HUS.out HKb.out)
  go_wp2_with fail
  refine hK.out _ _ HKF.out.k5 (fun hHeld => ?_)
  clear hK K hHeld
  (try simp only [Act.put, List.getElem_toArray, List.getElem_cons_succ, List.getElem_cons_zero, List.setIfInBounds_toArray, List.set_cons_zero, List.set_cons_succ])
  refine wpAnyH_done (by kernel_rfl) ?_ _
  refine NoPanic.normal ?_
  go_wp2_with fail
  go_end0
  refine ⟨rfl, ?_, (((UpT.below HB2.out).trans HU3.out).trans (UpT.below HBE.out)).trans HUS.out⟩
  exact BW.bank HWE.out (D' := { D with nt := upd D.nt k1 false, nv := upd D.nv k1 (k2 + 1), o1 := upd D.o1 k1 (-1), v1 := upd D.v1 k1 0 }) H4.out (low_of HS.out.2 HWE.out.kk.t1.lt.1 HWE.out.bl) rfl H.out.pk H.out.nn
set_option maxRecDepth 100000 in
set_option maxHeartbeats 2000000 in
theorem bgb_page {w0 : World} {L : BLoc} {D : BSt} (k1 : Nat) (k2 k3 k4 : Int) (hj : k1 < 256) (hn : k1 < L.b.n) (ht : Hid (D.pt k1 = true)) (hv : Hid (D.pv k1 = k2)) (u0 : -1000000000 ≤ k2) (u1 : k2 ≤ 1000000000) (w : World) (h : BW w0 w L D) :
    Calls Tryz.prog 75 #[.pointer (some ⟨L.P, 0, none⟩), (Value.agg #[.int .i64 3, .int .i64 (k1 : Int), .int .i64 k2, .int .i64 k3, .int .u32 k4])] w fun e w' => e = .returned (.tuple #[]) ∧ BW w0 w' L { D with pt := upd D.pt k1 false, pv := upd D.pv k1 (k2 + 1), o2 := upd D.o2 k1 (-1), v2 := upd D.v2 k1 0 } ∧ UpT L.T w w' := by
  have H := Lib.hid h
  have HLT := Lib.hid h.lowT
  have HTT := Lib.hid h.tt
  have HTw := Lib.hid h.tw
  have j0 : (0 : Int) ≤ k1 := by omega
  have j1 : (k1 : Int) < 256 := by omega
  clear h
  go_enter Tryz.func75, Tryz.ntmps75
  go_upto_region 5 with fail
  generalize hw2 : World.alloc w _ = w2
  have HB2 : Hid (Below w.heap.size w w2) := Lib.hid (by rw [← hw2]; exact (Below.refl _ _).alloc (Nat.le_refl _) _)
  obtain ⟨kb, hkb⟩ : ∃ kb, kb = w.heap.size := ⟨_, rfl⟩
  have HK2 : Hid (KeyC w2 kb 3 (k1 : Int) k2 k3 k4) := Lib.hid (by rw [← hw2, hkb]; exact KeyC.new w 3 (k1 : Int) k2 k3 k4 _)
  have HKb : Hid (L.T ≤ kb) := Lib.hid (by rw [hkb]; exact HTw.out)
  rw [← hkb]
  clear hw2 hkb
  obtain ⟨k0, hk0⟩ : ∃ k0 : Int, Hid (k0 = 3) := ⟨_, Lib.hid rfl⟩
  obtain ⟨wD, hwD⟩ : ∃ wD, wD = w2.drew := ⟨_, rfl⟩
  have HBD : Hid (Below w2.heap.size w2 wD) := Lib.hid (by rw [hwD]; exact (Below.refl _ _).drew)
  have HWD := Lib.hid ((H.out.below HB2.out).below HBD.out)
  have HKD := Lib.hid (HK2.out.below HBD.out)
  refine wp_region_noPanic ?_
  refine wp_region_held_drew (S := fun w' => World.cell? w' ⟨L.P, 1, none⟩ = some (.pointer (some ⟨L.mb, 0, none⟩)) ∧ (World.cell? w' ⟨kb, 0, none⟩ = some (.int .i64 3) ∧ World.cell? w' ⟨kb, 1, none⟩ = some (.int .i64 (k1 : Int)) ∧ World.cell? w' ⟨kb, 2, none⟩ = some (.int .i64 k2) ∧ World.cell? w' ⟨kb, 3, none⟩ = some (.int .i64 k3) ∧ World.cell? w' ⟨kb, 4, none⟩ = some (.int .u32 k4))) (by kernel_rfl) (by rw [← hwD]; exact ⟨HWD.out.kk.f1, HKD.out.k5⟩) (fun hHeld => ?_)
  rw [← hwD] at hHeld ⊢
  clear hwD
  refine wpAnyH_take (i := 0) (v := ?_) (by rfl) (by kernel_rfl) (by kernel_rfl) (by kernel_rfl) (fun _ _ _ h => h) (Or.inl ⟨by kernel_rfl, ?_⟩) (by assumption) ?_; rotate_left 1; (focus (intro w hSw; (try dsimp only at hSw); simp only [List.getElem_toArray, List.getElem_cons_succ, List.getElem_cons_zero]; all_goals go_simp; all_goals (try with_reducible rfl))); (try simp only [Act.put, List.getElem_toArray, List.getElem_cons_succ, List.getElem_cons_zero, List.setIfInBounds_toArray, List.set_cons_zero, List.set_cons_succ])
  refine wpAnyH_take (i := 1) (v := ?_) (by rfl) (by kernel_rfl) (by kernel_rfl) (by kernel_rfl) (fun _ _ _ h => h) (Or.inl ⟨by kernel_rfl, ?_⟩) (by assumption) ?_; rotate_left 1; (focus (intro w hSw; (try dsimp only at hSw); simp only [List.getElem_toArray, List.getElem_cons_succ, List.getElem_cons_zero]; all_goals go_simp; all_goals (try with_reducible rfl))); (try simp only [Act.put, List.getElem_toArray, List.getElem_cons_succ, List.getElem_cons_zero, List.setIfInBounds_toArray, List.set_cons_zero, List.set_cons_succ])
  refine wpAnyH_take (i := 2) (v := ?_) (by rfl) (by kernel_rfl) (by kernel_rfl) (by kernel_rfl) (fun _ _ _ h => h) (Or.inl ⟨by kernel_rfl, ?_⟩) (by assumption) ?_; rotate_left 1; (focus (intro w hSw; (try dsimp only at hSw); simp only [List.getElem_toArray, List.getElem_cons_succ, List.getElem_cons_zero]; all_goals go_simp; all_goals (try with_reducible rfl))); (try simp only [Act.put, List.getElem_toArray, List.getElem_cons_succ, List.getElem_cons_zero, List.setIfInBounds_toArray, List.set_cons_zero, List.set_cons_succ])
  refine wpAnyH_take (i := 3) (v := ?_) (by rfl) (by kernel_rfl) (by kernel_rfl) (by kernel_rfl) (fun _ _ _ h => h) (Or.inl ⟨by kernel_rfl, ?_⟩) (by assumption) ?_; rotate_left 1; (focus (intro w hSw; (try dsimp only at hSw); simp only [List.getElem_toArray, List.getElem_cons_succ, List.getElem_cons_zero]; all_goals go_simp; all_goals (try with_reducible rfl))); (try simp only [Act.put, List.getElem_toArray, List.getElem_cons_succ, List.getElem_cons_zero, List.setIfInBounds_toArray, List.set_cons_zero, List.set_cons_succ])
  refine wpAnyH_take (i := 4) (v := ?_) (by rfl) (by kernel_rfl) (by kernel_rfl) (by kernel_rfl) (fun _ _ _ h => h) (Or.inl ⟨by kernel_rfl, ?_⟩) (by assumption) ?_; rotate_left 1; (focus (intro w hSw; (try dsimp only at hSw); simp only [List.getElem_toArray, List.getElem_cons_succ, List.getElem_cons_zero]; all_goals go_simp; all_goals (try with_reducible rfl))); (try simp only [Act.put, List.getElem_toArray, List.getElem_cons_succ, List.getElem_cons_zero, List.setIfInBounds_toArray, List.set_cons_zero, List.set_cons_succ])
  refine wpAnyH_take (i := 5) (v := ?_) (by rfl) (by kernel_rfl) (by kernel_rfl) (by kernel_rfl) (fun _ _ _ h => h) (Or.inl ⟨by kernel_rfl, ?_⟩) (by assumption) ?_; rotate_left 1; (focus (intro w hSw; (try dsimp only at hSw); simp only [List.getElem_toArray, List.getElem_cons_succ, List.getElem_cons_zero]; all_goals go_simp; all_goals (try with_reducible rfl))); (try simp only [Act.put, List.getElem_toArray, List.getElem_cons_succ, List.getElem_cons_zero, List.setIfInBounds_toArray, List.set_cons_zero, List.set_cons_succ])
  refine wpAnyH_ready (rs := [6]) (by kernel_rfl) (by simp) ?_; refine AllReadyH.cons (by rfl) (fun K hK => ?_) AllReadyH.nil; rw [if_pos (by kernel_rfl)]; simp only [List.getElem_toArray, List.getElem_cons_succ, List.getElem_cons_zero]
  go_wp2_with (first
    | (go_at_call 109; (with_reducible refine (mgp_ok k1 hn ht k2 hv u0 u1 _ HWD.out.mm).mono ?_); rintro e w3 ⟨rfl, hm, hkp⟩; have HN3 := Lib.hid (HWD.out.memC hm hkp); have HW3 := Lib.hid HN3.out.1; have HU3 := Lib.hid ((UpT.below (T := L.T) HBD.out).trans HN3.out.2); have HK3 := Lib.hid (HKD.out.upt HN3.out.2 HKb.out); clear hm hkp HN3))
  refine hK.out _ _ ⟨HW3.out.kk.f1, HK3.out.k5⟩ (fun hHeld => ?_)
  clear hK K hHeld
  (try simp only [Act.put, List.getElem_toArray, List.getElem_cons_succ, List.getElem_cons_zero, List.setIfInBounds_toArray, List.set_cons_zero, List.set_cons_succ])
  refine wpAnyH_done (by kernel_rfl) ?_ _
  refine NoPanic.normal ?_
  go_upto_region 8 with fail
  obtain ⟨wE, hwE⟩ : ∃ wE, wE = w3.drew := ⟨_, rfl⟩
  have HBE : Hid (Below w3.heap.size w3 wE) := Lib.hid (by rw [hwE]; exact (Below.refl _ _).drew)
  have HWE := Lib.hid (HW3.out.below HBE.out)
  have HKE := Lib.hid (HK3.out.below HBE.out)
  refine wp_region_noPanic ?_
  refine wp_region_held_drew (S := fun w' => (World.cell? w' ⟨kb, 0, none⟩ = some (.int .i64 3) ∧ World.cell? w' ⟨kb, 1, none⟩ = some (.int .i64 (k1 : Int)) ∧ World.cell? w' ⟨kb, 2, none⟩ = some (.int .i64 k2) ∧ World.cell? w' ⟨kb, 3, none⟩ = some (.int .i64 k3) ∧ World.cell? w' ⟨kb, 4, none⟩ = some (.int .u32 k4))) (by kernel_rfl) (by rw [← hwE]; exact HKE.out.k5) (fun hHeld => ?_)
  rw [← hwE] at hHeld ⊢
  clear hwE
  refine wpAnyH_take (i := 0) (v := ?_) (by rfl) (by kernel_rfl) (by kernel_rfl) (by kernel_rfl) (fun _ _ _ h => h) (Or.inl ⟨by kernel_rfl, ?_⟩) (by assumption) ?_; rotate_left 1; (focus (intro w hSw; (try dsimp only at hSw); simp only [List.getElem_toArray, List.getElem_cons_succ, List.getElem_cons_zero]; all_goals go_simp; all_goals (try with_reducible rfl))); (try simp only [Act.put, List.getElem_toArray, List.getElem_cons_succ, List.getElem_cons_zero, List.setIfInBounds_toArray, List.set_cons_zero, List.set_cons_succ])
  refine wpAnyH_take (i := 1) (v := ?_) (by rfl) (by kernel_rfl) (by kernel_rfl) (by kernel_rfl) (fun _ _ _ h => h) (Or.inl ⟨by kernel_rfl, ?_⟩) (by assumption) ?_; rotate_left 1; (focus (intro w hSw; (try dsimp only at hSw); simp only [List.getElem_toArray, List.getElem_cons_succ, List.getElem_cons_zero]; all_goals go_simp; all_goals (try with_reducible rfl))); (try simp only [Act.put, List.getElem_toArray, List.getElem_cons_succ, List.getElem_cons_zero, List.setIfInBounds_toArray, List.set_cons_zero, List.set_cons_succ])
  refine wpAnyH_take (i := 2) (v := ?_) (by rfl) (by kernel_rfl) (by kernel_rfl) (by kernel_rfl) (fun _ _ _ h => h) (Or.inl ⟨by kernel_rfl, ?_⟩) (by assumption) ?_; rotate_left 1; (focus (intro w hSw; (try dsimp only at hSw); simp only [List.getElem_toArray, List.getElem_cons_succ, List.getElem_cons_zero]; all_goals go_simp; all_goals (try with_reducible rfl))); (try simp only [Act.put, List.getElem_toArray, List.getElem_cons_succ, List.getElem_cons_zero, List.setIfInBounds_toArray, List.set_cons_zero, List.set_cons_succ])
  refine wpAnyH_take (i := 4) (v := ?_) (by rfl) (by kernel_rfl) (by kernel_rfl) (by kernel_rfl) (fun _ _ _ h => h) (Or.inl ⟨by kernel_rfl, ?_⟩) (by assumption) ?_; rotate_left 1; (focus (intro w hSw; (try dsimp only at hSw); simp only [List.getElem_toArray, List.getElem_cons_succ, List.getElem_cons_zero]; all_goals go_simp; all_goals (try with_reducible rfl))); (try simp only [Act.put, List.getElem_toArray, List.getElem_cons_succ, List.getElem_cons_zero, List.setIfInBounds_toArray, List.set_cons_zero, List.set_cons_succ])
  refine wpAnyH_take (i := 5) (v := ?_) (by rfl) (by kernel_rfl) (by kernel_rfl) (by kernel_rfl) (fun _ _ _ h => h) (Or.inl ⟨by kernel_rfl, ?_⟩) (by assumption) ?_; rotate_left 1; (focus (intro w hSw; (try dsimp only at hSw); simp only [List.getElem_toArray, List.getElem_cons_succ, List.getElem_cons_zero]; all_goals go_simp; all_goals (try with_reducible rfl))); (try simp only [Act.put, List.getElem_toArray, List.getElem_cons_succ, List.getElem_cons_zero, List.setIfInBounds_toArray, List.set_cons_zero, List.set_cons_succ])
  refine wpAnyH_take (i := 6) (v := ?_) (by rfl) (by kernel_rfl) (by kernel_rfl) (by kernel_rfl) (fun _ _ _ h => h) (Or.inl ⟨by kernel_rfl, ?_⟩) (by assumption) ?_; rotate_left 1; (focus (intro w hSw; (try dsimp only at hSw); simp only [List.getElem_toArray, List.getElem_cons_succ, List.getElem_cons_zero]; all_goals go_simp; all_goals (try with_reducible rfl))); (try simp only [Act.put, List.getElem_toArray, List.getElem_cons_succ, List.getElem_cons_zero, List.setIfInBounds_toArray, List.set_cons_zero, List.set_cons_succ])
  refine wpAnyH_ready (rs := [3]) (by kernel_rfl) (by simp) ?_; refine AllReadyH.cons (by rfl) (fun K hK => ?_) AllReadyH.nil; rw [if_pos (by kernel_rfl)]; simp only [List.getElem_toArray, List.getElem_cons_succ, List.getElem_cons_zero]
  go_wp2_with (first
    | (go_at_call 111; (with_reducible refine (btitles_is 3 L.G2 (.inr (.inl ⟨rfl, rfl⟩)) _ HWE.out).mono ?_); rintro e w5 ⟨rfl, rfl⟩))
  refine hK.out _ _ HKE.out.k5 (fun hHeld => ?_)
  clear hK K
  (try simp only [Act.put, List.getElem_toArray, List.getElem_cons_succ, List.getElem_cons_zero, List.setIfInBounds_toArray, List.set_cons_zero, List.set_cons_succ])
  refine wpAnyH_take (i := 7) (v := ?_) (by rfl) (by kernel_rfl) (by kernel_rfl) (by kernel_rfl) (fun _ _ _ h => h) (Or.inl ⟨by kernel_rfl, ?_⟩) (by assumption) ?_; rotate_left 1; (focus (intro w hSw; (try dsimp only at hSw); simp only [List.getElem_toArray, List.getElem_cons_succ, List.getElem_cons_zero]; all_goals go_simp; all_goals (try with_reducible rfl))); (try simp only [Act.put, List.getElem_toArray, List.getElem_cons_succ, List.getElem_cons_zero, List.setIfInBounds_toArray, List.set_cons_zero, List.set_cons_succ])
  refine wpAnyH_ready (rs := [8]) (by kernel_rfl) (by simp) ?_; refine AllReadyH.cons (by rfl) (fun K hK => ?_) AllReadyH.nil; rw [if_pos (by kernel_rfl)]; simp only [List.getElem_toArray, List.getElem_cons_succ, List.getElem_cons_zero]
  have hti := HWE.out.kk.t2.ti k1 hj
  obtain ⟨c0, c1⟩ := hti
  have z0 := HWE.out.kk.t2.fr (k1 * 2)
  have z1 := HWE.out.kk.t2.fr (k1 * 2 + 1)
  have HS := Lib.hid (HWE.out.kk.t2.title k1 hj (-1) 0)
  have H4 := Lib.hid (HWE.out.kk.ti2 HS.out.1 HS.out.2)
  have HUS := Lib.hid (UpT.grown (T := L.T) HS.out.2 (by have := HTT.out; omega))
  have HKF := Lib.hid (HKE.out.upt HUS.out HKb.out)
  go_wp2_with fail
  refine hK.out _ _ HKF.out.k5 (fun hHeld => ?_)
  clear hK K hHeld
  (try simp only [Act.put, List.getElem_toArray, List.getElem_cons_succ, List.getElem_cons_zero, List.setIfInBounds_toArray, List.set_cons_zero, List.set_cons_succ])
  refine wpAnyH_done (by kernel_rfl) ?_ _
  refine NoPanic.normal ?_
  go_wp2_with fail
  go_end0
  refine ⟨rfl, ?_, (((UpT.below HB2.out).trans HU3.out).trans (UpT.below HBE.out)).trans HUS.out⟩
  exact BW.bank HWE.out (D' := { D with pt := upd D.pt k1 false, pv := upd D.pv k1 (k2 + 1), o2 := upd D.o2 k1 (-1), v2 := upd D.v2 k1 0 }) H4.out (low_of HS.out.2 HWE.out.kk.t2.lt.1 HWE.out.bl) rfl H.out.pk H.out.nn
set_option maxRecDepth 100000 in
set_option maxHeartbeats 2000000 in
theorem bgb_dom {w0 : World} {L : BLoc} {D : BSt} (k1 : Nat) (k2 k3 k4 : Int) (hj : k1 < 256) (hn : k1 < L.dn) (ht : Hid (D.dt k1 = true)) (hv : Hid (D.dv k1 = k2)) (u0 : -1000000000 ≤ k2) (u1 : k2 ≤ 1000000000) (w : World) (h : BW w0 w L D) :
    Calls Tryz.prog 75 #[.pointer (some ⟨L.P, 0, none⟩), (Value.agg #[.int .i64 4, .int .i64 (k1 : Int), .int .i64 k2, .int .i64 k3, .int .u32 k4])] w fun e w' => e = .returned (.tuple #[]) ∧ BW w0 w' L { D with dt := upd D.dt k1 false, dv := upd D.dv k1 (k2 + 1), o3 := upd D.o3 k1 (-1), v3 := upd D.v3 k1 0 } ∧ UpT L.T w w' := by
  have H := Lib.hid h
  have HLT := Lib.hid h.lowT
  have HTT := Lib.hid h.tt
  have HTw := Lib.hid h.tw
  have j0 : (0 : Int) ≤ k1 := by omega
  have j1 : (k1 : Int) < 256 := by omega
  clear h
  go_enter Tryz.func75, Tryz.ntmps75
  go_upto_region 7 with fail
  generalize hw2 : World.alloc w _ = w2
  have HB2 : Hid (Below w.heap.size w w2) := Lib.hid (by rw [← hw2]; exact (Below.refl _ _).alloc (Nat.le_refl _) _)
  obtain ⟨kb, hkb⟩ : ∃ kb, kb = w.heap.size := ⟨_, rfl⟩
  have HK2 : Hid (KeyC w2 kb 4 (k1 : Int) k2 k3 k4) := Lib.hid (by rw [← hw2, hkb]; exact KeyC.new w 4 (k1 : Int) k2 k3 k4 _)
  have HKb : Hid (L.T ≤ kb) := Lib.hid (by rw [hkb]; exact HTw.out)
  rw [← hkb]
  clear hw2 hkb
  obtain ⟨k0, hk0⟩ : ∃ k0 : Int, Hid (k0 = 4) := ⟨_, Lib.hid rfl⟩
  obtain ⟨wD, hwD⟩ : ∃ wD, wD = w2.drew := ⟨_, rfl⟩
  have HBD : Hid (Below w2.heap.size w2 wD) := Lib.hid (by rw [hwD]; exact (Below.refl _ _).drew)
  have HWD := Lib.hid ((H.out.below HB2.out).below HBD.out)
  have HKD := Lib.hid (HK2.out.below HBD.out)
  refine wp_region_noPanic ?_
  refine wp_region_held_drew (S := fun w' => World.cell? w' ⟨L.P, 2, none⟩ = some (.pointer (some ⟨L.dP, 0, none⟩)) ∧ (World.cell? w' ⟨kb, 0, none⟩ = some (.int .i64 4) ∧ World.cell? w' ⟨kb, 1, none⟩ = some (.int .i64 (k1 : Int)) ∧ World.cell? w' ⟨kb, 2, none⟩ = some (.int .i64 k2) ∧ World.cell? w' ⟨kb, 3, none⟩ = some (.int .i64 k3) ∧ World.cell? w' ⟨kb, 4, none⟩ = some (.int .u32 k4))) (by kernel_rfl) (by rw [← hwD]; exact ⟨HWD.out.kk.f2, HKD.out.k5⟩) (fun hHeld => ?_)
  rw [← hwD] at hHeld ⊢
  clear hwD
  refine wpAnyH_take (i := 0) (v := ?_) (by rfl) (by kernel_rfl) (by kernel_rfl) (by kernel_rfl) (fun _ _ _ h => h) (Or.inl ⟨by kernel_rfl, ?_⟩) (by assumption) ?_; rotate_left 1; (focus (intro w hSw; (try dsimp only at hSw); simp only [List.getElem_toArray, List.getElem_cons_succ, List.getElem_cons_zero]; all_goals go_simp; all_goals (try with_reducible rfl))); (try simp only [Act.put, List.getElem_toArray, List.getElem_cons_succ, List.getElem_cons_zero, List.setIfInBounds_toArray, List.set_cons_zero, List.set_cons_succ])
  refine wpAnyH_take (i := 1) (v := ?_) (by rfl) (by kernel_rfl) (by kernel_rfl) (by kernel_rfl) (fun _ _ _ h => h) (Or.inl ⟨by kernel_rfl, ?_⟩) (by assumption) ?_; rotate_left 1; (focus (intro w hSw; (try dsimp only at hSw); simp only [List.getElem_toArray, List.getElem_cons_succ, List.getElem_cons_zero]; all_goals go_simp; all_goals (try with_reducible rfl))); (try simp only [Act.put, List.getElem_toArray, List.getElem_cons_succ, List.getElem_cons_zero, List.setIfInBounds_toArray, List.set_cons_zero, List.set_cons_succ])
  refine wpAnyH_take (i := 2) (v := ?_) (by rfl) (by kernel_rfl) (by kernel_rfl) (by kernel_rfl) (fun _ _ _ h => h) (Or.inl ⟨by kernel_rfl, ?_⟩) (by assumption) ?_; rotate_left 1; (focus (intro w hSw; (try dsimp only at hSw); simp only [List.getElem_toArray, List.getElem_cons_succ, List.getElem_cons_zero]; all_goals go_simp; all_goals (try with_reducible rfl))); (try simp only [Act.put, List.getElem_toArray, List.getElem_cons_succ, List.getElem_cons_zero, List.setIfInBounds_toArray, List.set_cons_zero, List.set_cons_succ])
  refine wpAnyH_take (i := 3) (v := ?_) (by rfl) (by kernel_rfl) (by kernel_rfl) (by kernel_rfl) (fun _ _ _ h => h) (Or.inl ⟨by kernel_rfl, ?_⟩) (by assumption) ?_; rotate_left 1; (focus (intro w hSw; (try dsimp only at hSw); simp only [List.getElem_toArray, List.getElem_cons_succ, List.getElem_cons_zero]; all_goals go_simp; all_goals (try with_reducible rfl))); (try simp only [Act.put, List.getElem_toArray, List.getElem_cons_succ, List.getElem_cons_zero, List.setIfInBounds_toArray, List.set_cons_zero, List.set_cons_succ])
  refine wpAnyH_take (i := 4) (v := ?_) (by rfl) (by kernel_rfl) (by kernel_rfl) (by kernel_rfl) (fun _ _ _ h => h) (Or.inl ⟨by kernel_rfl, ?_⟩) (by assumption) ?_; rotate_left 1; (focus (intro w hSw; (try dsimp only at hSw); simp only [List.getElem_toArray, List.getElem_cons_succ, List.getElem_cons_zero]; all_goals go_simp; all_goals (try with_reducible rfl))); (try simp only [Act.put, List.getElem_toArray, List.getElem_cons_succ, List.getElem_cons_zero, List.setIfInBounds_toArray, List.set_cons_zero, List.set_cons_succ])
  refine wpAnyH_take (i := 5) (v := ?_) (by rfl) (by kernel_rfl) (by kernel_rfl) (by kernel_rfl) (fun _ _ _ h => h) (Or.inl ⟨by kernel_rfl, ?_⟩) (by assumption) ?_; rotate_left 1; (focus (intro w hSw; (try dsimp only at hSw); simp only [List.getElem_toArray, List.getElem_cons_succ, List.getElem_cons_zero]; all_goals go_simp; all_goals (try with_reducible rfl))); (try simp only [Act.put, List.getElem_toArray, List.getElem_cons_succ, List.getElem_cons_zero, List.setIfInBounds_toArray, List.set_cons_zero, List.set_cons_succ])
  refine wpAnyH_ready (rs := [6]) (by kernel_rfl) (by simp) ?_; refine AllReadyH.cons (by rfl) (fun K hK => ?_) AllReadyH.nil; rw [if_pos (by kernel_rfl)]; simp only [List.getElem_toArray, List.getElem_cons_succ, List.getElem_cons_zero]
  go_wp2_with (first
    | (go_at_call 110; (with_reducible refine (dend_ok k1 hn ht k2 hv u0 u1 _ HWD.out.dd).mono ?_); rintro e w3 ⟨rfl, hm, hkp⟩; have HN3 := Lib.hid ((And.intro (HWD.out.doms hm hkp) (UpT.pb hkp (T := L.T) (by have := HLT.out; omega) (by have := HLT.out; omega)) : BW w0 w3 L _ ∧ UpT L.T wD w3)); have HW3 := Lib.hid HN3.out.1; have HU3 := Lib.hid ((UpT.below (T := L.T) HBD.out).trans HN3.out.2); have HK3 := Lib.hid (HKD.out.upt HN3.out.2 HKb.out); clear hm hkp HN3))
  refine hK.out _ _ ⟨HW3.out.kk.f2, HK3.out.k5⟩ (fun hHeld => ?_)
  clear hK K hHeld
  (try simp only [Act.put, List.getElem_toArray, List.getElem_cons_succ, List.getElem_cons_zero, List.setIfInBounds_toArray, List.set_cons_zero, List.set_cons_succ])
  refine wpAnyH_done (by kernel_rfl) ?_ _
  refine NoPanic.normal ?_
  go_upto_region 8 with fail
  obtain ⟨wE, hwE⟩ : ∃ wE, wE = w3.drew := ⟨_, rfl⟩
  have HBE : Hid (Below w3.heap.size w3 wE) := Lib.hid (by rw [hwE]; exact (Below.refl _ _).drew)
  have HWE := Lib.hid (HW3.out.below HBE.out)
  have HKE := Lib.hid (HK3.out.below HBE.out)
  refine wp_region_noPanic ?_
  refine wp_region_held_drew (S := fun w' => (World.cell? w' ⟨kb, 0, none⟩ = some (.int .i64 4) ∧ World.cell? w' ⟨kb, 1, none⟩ = some (.int .i64 (k1 : Int)) ∧ World.cell? w' ⟨kb, 2, none⟩ = some (.int .i64 k2) ∧ World.cell? w' ⟨kb, 3, none⟩ = some (.int .i64 k3) ∧ World.cell? w' ⟨kb, 4, none⟩ = some (.int .u32 k4))) (by kernel_rfl) (by rw [← hwE]; exact HKE.out.k5) (fun hHeld => ?_)
  rw [← hwE] at hHeld ⊢
  clear hwE
  refine wpAnyH_take (i := 0) (v := ?_) (by rfl) (by kernel_rfl) (by kernel_rfl) (by kernel_rfl) (fun _ _ _ h => h) (Or.inl ⟨by kernel_rfl, ?_⟩) (by assumption) ?_; rotate_left 1; (focus (intro w hSw; (try dsimp only at hSw); simp only [List.getElem_toArray, List.getElem_cons_succ, List.getElem_cons_zero]; all_goals go_simp; all_goals (try with_reducible rfl))); (try simp only [Act.put, List.getElem_toArray, List.getElem_cons_succ, List.getElem_cons_zero, List.setIfInBounds_toArray, List.set_cons_zero, List.set_cons_succ])
  refine wpAnyH_take (i := 1) (v := ?_) (by rfl) (by kernel_rfl) (by kernel_rfl) (by kernel_rfl) (fun _ _ _ h => h) (Or.inl ⟨by kernel_rfl, ?_⟩) (by assumption) ?_; rotate_left 1; (focus (intro w hSw; (try dsimp only at hSw); simp only [List.getElem_toArray, List.getElem_cons_succ, List.getElem_cons_zero]; all_goals go_simp; all_goals (try with_reducible rfl))); (try simp only [Act.put, List.getElem_toArray, List.getElem_cons_succ, List.getElem_cons_zero, List.setIfInBounds_toArray, List.set_cons_zero, List.set_cons_succ])
  refine wpAnyH_take (i := 2) (v := ?_) (by rfl) (by kernel_rfl) (by kernel_rfl) (by kernel_rfl) (fun _ _ _ h => h) (Or.inl ⟨by kernel_rfl, ?_⟩) (by assumption) ?_; rotate_left 1; (focus (intro w hSw; (try dsimp only at hSw); simp only [List.getElem_toArray, List.getElem_cons_succ, List.getElem_cons_zero]; all_goals go_simp; all_goals (try with_reducible rfl))); (try simp only [Act.put, List.getElem_toArray, List.getElem_cons_succ, List.getElem_cons_zero, List.setIfInBounds_toArray, List.set_cons_zero, List.set_cons_succ])
  refine wpAnyH_take (i := 4) (v := ?_) (by rfl) (by kernel_rfl) (by kernel_rfl) (by kernel_rfl) (fun _ _ _ h => h) (Or.inl ⟨by kernel_rfl, ?_⟩) (by assumption) ?_; rotate_left 1; (focus (intro w hSw; (try dsimp only at hSw); simp only [List.getElem_toArray, List.getElem_cons_succ, List.getElem_cons_zero]; all_goals go_simp; all_goals (try with_reducible rfl))); (try simp only [Act.put, List.getElem_toArray, List.getElem_cons_succ, List.getElem_cons_zero, List.setIfInBounds_toArray, List.set_cons_zero, List.set_cons_succ])
  refine wpAnyH_take (i := 5) (v := ?_) (by rfl) (by kernel_rfl) (by kernel_rfl) (by kernel_rfl) (fun _ _ _ h => h) (Or.inl ⟨by kernel_rfl, ?_⟩) (by assumption) ?_; rotate_left 1; (focus (intro w hSw; (try dsimp only at hSw); simp only [List.getElem_toArray, List.getElem_cons_succ, List.getElem_cons_zero]; all_goals go_simp; all_goals (try with_reducible rfl))); (try simp only [Act.put, List.getElem_toArray, List.getElem_cons_succ, List.getElem_cons_zero, List.setIfInBounds_toArray, List.set_cons_zero, List.set_cons_succ])
  refine wpAnyH_take (i := 6) (v := ?_) (by rfl) (by kernel_rfl) (by kernel_rfl) (by kernel_rfl) (fun _ _ _ h => h) (Or.inl ⟨by kernel_rfl, ?_⟩) (by assumption) ?_; rotate_left 1; (focus (intro w hSw; (try dsimp only at hSw); simp only [List.getElem_toArray, List.getElem_cons_succ, List.getElem_cons_zero]; all_goals go_simp; all_goals (try with_reducible rfl))); (try simp only [Act.put, List.getElem_toArray, List.getElem_cons_succ, List.getElem_cons_zero, List.setIfInBounds_toArray, List.set_cons_zero, List.set_cons_succ])
  refine wpAnyH_ready (rs := [3]) (by kernel_rfl) (by simp) ?_; refine AllReadyH.cons (by rfl) (fun K hK => ?_) AllReadyH.nil; rw [if_pos (by kernel_rfl)]; simp only [List.getElem_toArray, List.getElem_cons_succ, List.getElem_cons_zero]
  go_wp2_with (first
    | (go_at_call 111; (with_reducible refine (btitles_is 4 L.G3 (.inr (.inr ⟨by decide, by decide, rfl⟩)) _ HWE.out).mono ?_); rintro e w5 ⟨rfl, rfl⟩))
  refine hK.out _ _ HKE.out.k5 (fun hHeld => ?_)
  clear hK K
  (try simp only [Act.put, List.getElem_toArray, List.getElem_cons_succ, List.getElem_cons_zero, List.setIfInBounds_toArray, List.set_cons_zero, List.set_cons_succ])
  refine wpAnyH_take (i := 7) (v := ?_) (by rfl) (by kernel_rfl) (by kernel_rfl) (by kernel_rfl) (fun _ _ _ h => h) (Or.inl ⟨by kernel_rfl, ?_⟩) (by assumption) ?_; rotate_left 1; (focus (intro w hSw; (try dsimp only at hSw); simp only [List.getElem_toArray, List.getElem_cons_succ, List.getElem_cons_zero]; all_goals go_simp; all_goals (try with_reducible rfl))); (try simp only [Act.put, List.getElem_toArray, List.getElem_cons_succ, List.getElem_cons_zero, List.setIfInBounds_toArray, List.set_cons_zero, List.set_cons_succ])
  refine wpAnyH_ready (rs := [8]) (by kernel_rfl) (by simp) ?_; refine AllReadyH.cons (by rfl) (fun K hK => ?_) AllReadyH.nil; rw [if_pos (by kernel_rfl)]; simp only [List.getElem_toArray, List.getElem_cons_succ, List.getElem_cons_zero]
  have hti := HWE.out.kk.t3.ti k1 hj
  obtain ⟨c0, c1⟩ := hti
  have z0 := HWE.out.kk.t3.fr (k1 * 2)
  have z1 := HWE.out.kk.t3.fr (k1 * 2 + 1)
  have HS := Lib.hid (HWE.out.kk.t3.title k1 hj (-1) 0)
  have H4 := Lib.hid (HWE.out.kk.ti3 HS.out.1 HS.out.2)
  have HUS := Lib.hid (UpT.grown (T := L.T) HS.out.2 (by have := HTT.out; omega))
  have HKF := Lib.hid (HKE.out.upt HUS.out HKb.out)
  go_wp2_with fail
  refine hK.out _ _ HKF.out.k5 (fun hHeld => ?_)
  clear hK K hHeld
  (try simp only [Act.put, List.getElem_toArray, List.getElem_cons_succ, List.getElem_cons_zero, List.setIfInBounds_toArray, List.set_cons_zero, List.set_cons_succ])
  refine wpAnyH_done (by kernel_rfl) ?_ _
  refine NoPanic.normal ?_
  go_wp2_with fail
  go_end0
  refine ⟨rfl, ?_, (((UpT.below HB2.out).trans HU3.out).trans (UpT.below HBE.out)).trans HUS.out⟩
  exact BW.bank HWE.out (D' := { D with dt := upd D.dt k1 false, dv := upd D.dv k1 (k2 + 1), o3 := upd D.o3 k1 (-1), v3 := upd D.v3 k1 0 }) H4.out (low_of HS.out.2 HWE.out.kk.t3.lt.1 HWE.out.bl) rfl H.out.pk H.out.nn
set_option maxRecDepth 100000 in
set_option maxHeartbeats 2000000 in
theorem bgive_ok {w0 : World} {L : BLoc} {D : BSt} {D2 : BSt} (k0 : Int) (k1 : Nat) (k2 k3 k4 : Int) (G q : Nat) (hj2 : k1 < 256) (hq : q < D.nb) (ht : Hid (liveK L D k0 k1 k2 = true)) (h2 : Hid (D2.nb = D.nb ∧ D2.pr = D.pr ∧ D2.us = D.us)) (hu : Hid (∀ i, i < L.n → -1000000 ≤ D.us i ∧ D.us i ≤ 1000000)) (w : World) (h : BW w0 w L D) (hT : TiAt w L k0 G k1 q k2)
    (hgb : ∀ W, BW w0 W L D → Calls Tryz.prog 75 #[.pointer (some ⟨L.P, 0, none⟩), (Value.agg #[.int .i64 k0, .int .i64 k1, .int .i64 k2, .int .i64 k3, .int .u32 k4])] W fun e w' => e = .returned (.tuple #[]) ∧ BW w0 w' L D2 ∧ UpT L.T W w') :
    Calls Tryz.prog 26 #[.pointer (some ⟨L.P, 0, none⟩), .int .i64 (q : Int), (Value.agg #[.int .i64 k0, .int .i64 k1, .int .i64 k2, .int .i64 k3, .int .u32 k4])] w fun e w' => e = .returned .nilIface ∧ BW w0 w' L { D2 with us := addL D.us (chL D.pr q) (-1) } ∧ UpT L.T w w' := by
  have H := Lib.hid (fun o => h.below ((Below.refl _ _).alloc (Nat.le_refl _) _ : Below w.heap.size w (w.alloc o)))
  have HT := Lib.hid (fun o => hT.below ((Below.refl _ _).alloc (Nat.le_refl _) _ : Below w.heap.size w (w.alloc o)))
  have HGB := Lib.hid hgb
  have f0 := fun o => (h.below ((Below.refl _ _).alloc (Nat.le_refl _) _ : Below w.heap.size w (w.alloc o))).kk.f0
  have hn := h.n256
  have hnn := h.nn
  have hin := chL_in h.pk h.nn (by omega) q hq
  obtain ⟨l, hl⟩ : ∃ l, Hid (chL D.pr q = l) := ⟨_, Lib.hid rfl⟩
  rw [hl.out] at hin
  obtain ⟨m, hm⟩ : ∃ m, Hid (l.length = m) := ⟨_, Lib.hid rfl⟩
  have hm1 : m ≤ 1000 := by rw [← hm.out]; omega
  have HIn := Lib.hid hin.1
  have HNd := Lib.hid hin.2.2
  have HPk := Lib.hid h.pk
  have HTT := Lib.hid h.tt
  have HTw := Lib.hid h.tw
  have hqq : ((q : Int) != (q : Int)) = false := by simp
  clear h hT hgb hin
  go_enter Tryz.func26, Tryz.ntmps26
  go_wp2_with (first
    | (go_at_call 63; (with_reducible refine (athere_in q (by omega) true (Lib.hid (thN_at hq)) _ (H.out _).kk.ar).mono ?_); rintro e w1 ⟨rfl, rfl⟩)
    | (go_at_call 78; (with_reducible refine (blive_is k0 (k1 : Int) k2 k3 k4 true ht _ (H.out _)).mono ?_); rintro e w1 ⟨rfl, hb⟩; have HB1 := Lib.hid (((Below.refl _ _).alloc (Nat.le_refl _) _ : Below w.heap.size w _).trans (hb.mono (by simp))); have HW1 := Lib.hid ((H.out _).below hb); have HT1 := Lib.hid ((HT.out _).below hb); have HK1 := Lib.hid ((KeyC.new w k0 (k1 : Int) k2 k3 k4 42).below hb); have q0 := HK1.out.c0; have q1 := HK1.out.c1; have q2 := HK1.out.c2; have q3 := HK1.out.c3; have q4 := HK1.out.c4; clear hb f0)
    | (go_at_call 79; (with_reducible refine (bowner_live k0 k1 k2 k3 k4 G q hj2 hq ht _ HW1.out HT1.out).mono ?_); rintro e w2 ⟨rfl, hb⟩; have HB2 := Lib.hid (HB1.out.trans (hb.mono HB1.out.size)); have HW2 := Lib.hid (HW1.out.below hb); have HK2 := Lib.hid (HK1.out.below hb); clear q0 q1 q2 q3 q4; have q0 := HK2.out.c0; have q1 := HK2.out.c1; have q2 := HK2.out.c2; have q3 := HK2.out.c3; have q4 := HK2.out.c4; clear hb)
    | (go_at_call 75; (with_reducible refine (HGB.out _ HW2.out).mono ?_); rintro e w3 ⟨rfl, hW, hu3⟩; have HW3 := Lib.hid hW; have HU3 := Lib.hid ((UpT.below (T := L.T) HB2.out).trans hu3); have HBn := Lib.hid hW.kk; rw [h2.out.1, h2.out.2.1, h2.out.2.2] at HBn; clear hW hu3 q0 q1 q2 q3 q4)
    | (go_at_call 77; (with_reducible refine (bchain_is (q : Int) D.nb (by omega) (by omega) hnn (Lib.hid (fun i hi => thN_at hi)) HPk _ HBn.out).mono ?_); rintro e w4 ⟨v9, rfl, hr, hb⟩; rw [hl.out] at hr; obtain ⟨a9, c9, hv9⟩ := own_slice hr m hm; have HRw := Lib.hid (rowT hr hv9 hm.out HW3.out.tw); subst hv9; have H4 := Lib.hid (HBn.out.below hb); have HW4 := Lib.hid (HW3.out.below hb); have HU4 := Lib.hid (HU3.out.trans (UpT.below hb)); clear hr hb)
    | (go_at_call 76; (with_reducible refine (bcount_is l m hm hm1 a9 c9 HIn HNd (-1) (by decide) hu _ H4.out (fun i hi => by obtain ⟨g, h1, h2, h3, h4⟩ := HRw.out _ (UpT.refl _ _) i hi; exact ⟨g, h1, h3, by have := HTT.out; omega, h4⟩)).mono ?_); rintro e w5 ⟨rfl, hB, hg⟩; have H5 := Lib.hid hB; have HG5 := Lib.hid hg; clear hB hg))
  go_ret
  refine ⟨rfl, ?_, HU4.out.trans (UpT.grown HG5.out (by have := HTT.out; omega))⟩
  have hk := H5.out
  rw [← h2.out.1, ← h2.out.2.1, ← hl.out] at hk
  refine BW.bank HW4.out (D' := { D2 with us := addL D.us (chL D.pr q) (-1) }) ?_ (low_of HG5.out HW4.out.kk.ac.lt.1 HW4.out.bl) rfl HW4.out.pk HW4.out.nn
  exact hk
end Go.Proofs.YtncopdhhchmpeaaGreatDoor
namespace Go.Proofs.YtncopdhhchmpeaaGreatDoor
open Go.ChangeShapes Go.WideShapes Go.ChangeAt Go.RowKit
set_option linter.unusedVariables false
set_option linter.unusedSimpArgs false
/-- What these places were is given back. -/
def gT (T : Nat → Bool) (l : List Nat) : Nat → Bool := fun i => if i ∈ l then false else T i
def gV (V : Nat → Int) (l : List Nat) : Nat → Int := fun i => if i ∈ l then V i + 1 else V i
def gO (o : Nat → Int) (x : Int) (l : List Nat) : Nat → Int := fun i => if i ∈ l then x else o i
theorem gT_nil (T : Nat → Bool) : gT T [] = T := by funext i; simp [gT]
theorem gV_nil (V : Nat → Int) : gV V [] = V := by funext i; simp [gV]
theorem gO_nil (o : Nat → Int) (x : Int) : gO o x [] = o := by funext i; simp [gO]
theorem gT_put (T : Nat → Bool) (l : List Nat) (k : Nat) : upd (gT T l) k false = gT T (l ++ [k]) := by
  funext i; unfold upd gT; by_cases e : i = k <;> simp [e]
theorem gV_put (V : Nat → Int) (l : List Nat) (k : Nat) (h : k ∉ l) : upd (gV V l) k (V k + 1) = gV V (l ++ [k]) := by
  funext i; unfold upd gV
  by_cases e : i = k
  · subst e; simp
  · simp [e]
theorem gO_put (o : Nat → Int) (x : Int) (l : List Nat) (k : Nat) : upd (gO o x l) k x = gO o x (l ++ [k]) := by
  funext i; unfold upd gO; by_cases e : i = k <;> simp [e]
def gI (D : BSt) (a b c : List Nat) : BSt := { D with nt := gT D.nt a, nv := gV D.nv a, o1 := gO D.o1 (-1) a, v1 := gO D.v1 0 a, pt := gT D.pt b, pv := gV D.pv b, o2 := gO D.o2 (-1) b, v2 := gO D.v2 0 b, dt := gT D.dt c, dv := gV D.dv c, o3 := gO D.o3 (-1) c, v3 := gO D.v3 0 c }
theorem gI_nil (D : BSt) : gI D [] [] [] = D := by unfold gI; simp only [gT_nil, gV_nil, gO_nil]
theorem gI_n (D : BSt) (a b c : List Nat) (k : Nat) (h : k ∉ a) : { gI D a b c with nt := upd (gI D a b c).nt k false, nv := upd (gI D a b c).nv k (D.nv k + 1), o1 := upd (gI D a b c).o1 k (-1), v1 := upd (gI D a b c).v1 k 0 } = gI D (a ++ [k]) b c := by
  unfold gI; simp only [gT_put, gV_put _ _ _ h, gO_put]
theorem gI_p (D : BSt) (a b c : List Nat) (k : Nat) (h : k ∉ b) : { gI D a b c with pt := upd (gI D a b c).pt k false, pv := upd (gI D a b c).pv k (D.pv k + 1), o2 := upd (gI D a b c).o2 k (-1), v2 := upd (gI D a b c).v2 k 0 } = gI D a (b ++ [k]) c := by
  unfold gI; simp only [gT_put, gV_put _ _ _ h, gO_put]
theorem gI_d (D : BSt) (a b c : List Nat) (k : Nat) (h : k ∉ c) : { gI D a b c with dt := upd (gI D a b c).dt k false, dv := upd (gI D a b c).dv k (D.dv k + 1), o3 := upd (gI D a b c).o3 k (-1), v3 := upd (gI D a b c).v3 k 0 } = gI D a b (c ++ [k]) := by
  unfold gI; simp only [gT_put, gV_put _ _ _ h, gO_put]
theorem gV_out {V : Nat → Int} {l : List Nat} {k : Nat} (h : k ∉ l) : gV V l k = V k := if_neg h
theorem oks_mem {T : Nat → Bool} {o : Nat → Int} {q n i : Nat} : i ∈ oks T o q n ↔ i < n ∧ T i = true ∧ o i = (q : Int) := by
  unfold oks; simp
theorem oks_nodup (T : Nat → Bool) (o : Nat → Int) (q n : Nat) : (oks T o q n).Nodup := List.nodup_range.filter _
theorem oks_g (T : Nat → Bool) (o : Nat → Int) (q n : Nat) (x : Int) (l : List Nat) (h : ∀ i, i ∈ l → o i ≠ (q : Int)) : oks (gT T l) (gO o x l) q n = oks T o q n := by
  unfold oks
  refine List.filter_congr (fun i _ => ?_)
  by_cases e : i ∈ l
  · have h1 := h i e
    simp [gT, gO, e, h1]
  · simp [gT, gO, e]
theorem okc_g (k0 : Int) (V : Nat → Int) (l ids : List Nat) (h : ∀ i, i ∈ ids → i ∉ l) : okc k0 (gV V l) ids = okc k0 V ids := by
  induction ids with
  | nil => rfl
  | cons i ids ih =>
    have e : ∀ V' : Nat → Int, okc k0 V' (i :: ids) = [.int .i64 k0, .int .i64 (i : Int), .int .i64 (V' i), .int .i64 0, .int .u32 0] ++ okc k0 V' ids := fun V' => by simp [okc]
    rw [e, e, ih (fun j hj => h j (List.mem_cons_of_mem _ hj)), gV_out (h i List.mem_cons_self)]
/-- What is of these banks. -/
def ofL (T : Nat → Bool) (o : Nat → Int) (n : Nat) (l : List Nat) : List Nat := l.flatMap (fun q => oks T o q n)
theorem ofL_mem {T : Nat → Bool} {o : Nat → Int} {n : Nat} {l : List Nat} {i : Nat} : i ∈ ofL T o n l ↔ i < n ∧ T i = true ∧ ∃ q, q ∈ l ∧ o i = (q : Int) := by
  unfold ofL
  rw [List.mem_flatMap]
  constructor
  · rintro ⟨q, hq, h⟩
    obtain ⟨h1, h2, h3⟩ := oks_mem.1 h
    exact ⟨h1, h2, q, hq, h3⟩
  · rintro ⟨h1, h2, q, hq, h3⟩
    exact ⟨q, hq, oks_mem.2 ⟨h1, h2, h3⟩⟩
theorem ofL_snoc (T : Nat → Bool) (o : Nat → Int) (n : Nat) (l : List Nat) (q : Nat) : ofL T o n (l ++ [q]) = ofL T o n l ++ oks T o q n := by simp [ofL]
theorem ofL_out {T : Nat → Bool} {o : Nat → Int} {n : Nat} {l : List Nat} {q : Nat} (hq : q ∉ l) : ∀ i, i ∈ ofL T o n l → o i ≠ (q : Int) := fun i hi e => by
  obtain ⟨_, _, q', h1, h2⟩ := ofL_mem.1 hi
  have : q = q' := by omega
  exact hq (this ▸ h1)
theorem ofL_dis {T : Nat → Bool} {o : Nat → Int} {n : Nat} {l : List Nat} {q : Nat} (hq : q ∉ l) : ∀ i, i ∈ oks T o q n → i ∉ ofL T o n l := fun i hi h => ofL_out hq i h (oks_mem.1 hi).2.2
/-- These banks' things are given back. -/
def gB (L : BLoc) (D : BSt) (l : List Nat) : BSt := gI D (ofL D.nt D.o1 L.a.n l) (ofL D.pt D.o2 L.b.n l) (ofL D.dt D.o3 L.dn l)
theorem gB_ownN (L : BLoc) (D : BSt) (l : List Nat) (q : Nat) (hq : q ∉ l) : ownN L (gB L D l) q = ownN L D q := by
  show (oks (gT _ _) (gO _ _ _) q L.a.n).length + (oks (gT _ _) (gO _ _ _) q L.b.n).length + (oks (gT _ _) (gO _ _ _) q L.dn).length = _
  rw [oks_g _ _ _ _ _ _ (ofL_out hq), oks_g _ _ _ _ _ _ (ofL_out hq), oks_g _ _ _ _ _ _ (ofL_out hq)]
  rfl
theorem gB_ownK (L : BLoc) (D : BSt) (l : List Nat) (q : Nat) (hq : q ∉ l) : ownK L (gB L D l) q = ownK L D q := by
  show okc 2 (gV _ _) (oks (gT _ _) (gO _ _ _) q L.a.n) ++ okc 3 (gV _ _) (oks (gT _ _) (gO _ _ _) q L.b.n) ++ okc 4 (gV _ _) (oks (gT _ _) (gO _ _ _) q L.dn) = _
  rw [oks_g _ _ _ _ _ _ (ofL_out hq), oks_g _ _ _ _ _ _ (ofL_out hq), oks_g _ _ _ _ _ _ (ofL_out hq), okc_g _ _ _ _ (ofL_dis hq), okc_g _ _ _ _ (ofL_dis hq), okc_g _ _ _ _ (ofL_dis hq)]
  rfl
theorem gB_ow {L : BLoc} {D : BSt} (h : OwI L D) (l : List Nat) : OwI L (gB L D l) where
  n := fun i hi ht => by
    by_cases e : i ∈ ofL D.nt D.o1 L.a.n l
    · rw [show (gB L D l).nt i = false from if_pos e] at ht; cases ht
    · rw [show (gB L D l).nt i = D.nt i from if_neg e] at ht
      rw [show (gB L D l).o1 i = D.o1 i from if_neg e, show (gB L D l).v1 i = D.v1 i from if_neg e, show (gB L D l).nv i = D.nv i from if_neg e]
      exact h.n i hi ht
  p := fun i hi ht => by
    by_cases e : i ∈ ofL D.pt D.o2 L.b.n l
    · rw [show (gB L D l).pt i = false from if_pos e] at ht; cases ht
    · rw [show (gB L D l).pt i = D.pt i from if_neg e] at ht
      rw [show (gB L D l).o2 i = D.o2 i from if_neg e, show (gB L D l).v2 i = D.v2 i from if_neg e, show (gB L D l).pv i = D.pv i from if_neg e]
      exact h.p i hi ht
  d := fun i hi ht => by
    by_cases e : i ∈ ofL D.dt D.o3 L.dn l
    · rw [show (gB L D l).dt i = false from if_pos e] at ht; cases ht
    · rw [show (gB L D l).dt i = D.dt i from if_neg e] at ht
      rw [show (gB L D l).o3 i = D.o3 i from if_neg e, show (gB L D l).v3 i = D.v3 i from if_neg e, show (gB L D l).dv i = D.dv i from if_neg e]
      exact h.d i hi ht
/-- How many things are these banks'. -/
def sumN (L : BLoc) (D : BSt) (l : List Nat) : Nat := (l.map (ownN L D)).sum
theorem sumN_snoc (L : BLoc) (D : BSt) (l : List Nat) (q : Nat) : sumN L D (l ++ [q]) = sumN L D l + ownN L D q := by simp [sumN]
theorem sumN_take (L : BLoc) (D : BSt) (l : List Nat) (k : Nat) : sumN L D (l.take k) ≤ sumN L D l := by
  have h := congrArg (fun x => (x.map (ownN L D)).sum) (List.take_append_drop k l)
  simp only [List.map_append, List.sum_append] at h
  unfold sumN
  omega
/-- Owned's keys as they come: a kind, a place, a version each. -/
def itK (k0 : Nat) (V : Nat → Int) (ids : List Nat) : List (Nat × Nat × Int) := ids.map (fun i => (k0, i, V i))
def items (L : BLoc) (D : BSt) (q : Nat) : List (Nat × Nat × Int) := itK 2 D.nv (oks D.nt D.o1 q L.a.n) ++ itK 3 D.pv (oks D.pt D.o2 q L.b.n) ++ itK 4 D.dv (oks D.dt D.o3 q L.dn)
def keyL (l : List (Nat × Nat × Int)) : List Value := l.flatMap (fun x => [.int .i64 (x.1 : Int), .int .i64 (x.2.1 : Int), .int .i64 x.2.2, .int .i64 0, .int .u32 0])
theorem keyL_itK (k0 : Nat) (V : Nat → Int) (ids : List Nat) : keyL (itK k0 V ids) = okc k0 V ids := by
  unfold keyL itK okc; rw [List.flatMap_map]
theorem keyL_items (L : BLoc) (D : BSt) (q : Nat) : keyL (items L D q) = ownK L D q := by
  have e : ∀ a b, keyL (a ++ b) = keyL a ++ keyL b := fun a b => by simp [keyL]
  unfold items ownK
  rw [e, e, keyL_itK, keyL_itK, keyL_itK]
  rfl
theorem items_len (L : BLoc) (D : BSt) (q : Nat) : (items L D q).length = ownN L D q := by simp [items, itK, ownN, Nat.add_assoc]
theorem keyL_at : ∀ (l : List (Nat × Nat × Int)) (j : Nat) (x : Nat × Nat × Int), l[j]? = some x → (keyL l)[j * 5]? = some (.int .i64 (x.1 : Int)) ∧ (keyL l)[j * 5 + 1]? = some (.int .i64 (x.2.1 : Int)) ∧ (keyL l)[j * 5 + 2]? = some (.int .i64 x.2.2) ∧ (keyL l)[j * 5 + 3]? = some (.int .i64 0) ∧ (keyL l)[j * 5 + 4]? = some (.int .u32 0) := by
  intro l
  induction l with
  | nil => intro j x h; simp at h
  | cons y l ih =>
    intro j x h
    have e : keyL (y :: l) = [.int .i64 (y.1 : Int), .int .i64 (y.2.1 : Int), .int .i64 y.2.2, .int .i64 0, .int .u32 0] ++ keyL l := by simp [keyL]
    cases j with
    | zero => simp at h; subst h; rw [e]; simp
    | succ j =>
      simp at h
      have h2 := ih j x h
      have hs : ∀ k, (keyL (y :: l))[(j + 1) * 5 + k]? = (keyL l)[j * 5 + k]? := fun k => by
        rw [e, List.getElem?_append_right (by simp; omega)]
        congr 1
        simp; omega
      have h0 := hs 0
      rw [Nat.add_zero, Nat.add_zero] at h0
      rw [h0, hs, hs, hs, hs]
      exact h2
/-- The first j of Owned's keys, by kinds. -/
def cutN (L : BLoc) (D : BSt) (q j : Nat) : List Nat := (oks D.nt D.o1 q L.a.n).take j
def cutP (L : BLoc) (D : BSt) (q j : Nat) : List Nat := (oks D.pt D.o2 q L.b.n).take (j - (oks D.nt D.o1 q L.a.n).length)
def cutD (L : BLoc) (D : BSt) (q j : Nat) : List Nat := (oks D.dt D.o3 q L.dn).take (j - (oks D.nt D.o1 q L.a.n).length - (oks D.pt D.o2 q L.b.n).length)
theorem take_put {l : List Nat} {k x : Nat} (h : l[k]? = some x) : l.take (k + 1) = l.take k ++ [x] := by
  have hk : k < l.length := by
    by_cases e : k < l.length
    · exact e
    · rw [List.getElem?_eq_none (by omega)] at h; cases h
  rw [List.take_succ_eq_append_getElem hk]
  rw [List.getElem?_eq_getElem hk] at h
  injection h with h
  rw [h]
theorem take_fresh {l : List Nat} {k x : Nat} (hn : l.Nodup) (h : l[k]? = some x) : x ∉ l.take k := by
  have hp := take_put h
  intro hm
  have h1 : (l.take (k + 1)).Nodup := hn.sublist (List.take_sublist _ _)
  rw [hp, List.nodup_append] at h1
  exact h1.2.2 x hm x (by simp) rfl
/-- The key at place j is a node's, a page's, or a domain's. -/
theorem items_split (L : BLoc) (D : BSt) (q j : Nat) (x : Nat × Nat × Int) (h : (items L D q)[j]? = some x) :
    (x.1 = 2 ∧ x.2.1 ∈ oks D.nt D.o1 q L.a.n ∧ x.2.2 = D.nv x.2.1 ∧ cutN L D q (j + 1) = cutN L D q j ++ [x.2.1] ∧ x.2.1 ∉ cutN L D q j ∧ cutP L D q (j + 1) = cutP L D q j ∧ cutD L D q (j + 1) = cutD L D q j) ∨
    (x.1 = 3 ∧ x.2.1 ∈ oks D.pt D.o2 q L.b.n ∧ x.2.2 = D.pv x.2.1 ∧ cutN L D q (j + 1) = cutN L D q j ∧ cutP L D q (j + 1) = cutP L D q j ++ [x.2.1] ∧ x.2.1 ∉ cutP L D q j ∧ cutD L D q (j + 1) = cutD L D q j) ∨
    (x.1 = 4 ∧ x.2.1 ∈ oks D.dt D.o3 q L.dn ∧ x.2.2 = D.dv x.2.1 ∧ cutN L D q (j + 1) = cutN L D q j ∧ cutP L D q (j + 1) = cutP L D q j ∧ cutD L D q (j + 1) = cutD L D q j ++ [x.2.1] ∧ x.2.1 ∉ cutD L D q j) := by
  have n1 := oks_nodup D.nt D.o1 q L.a.n
  have n2 := oks_nodup D.pt D.o2 q L.b.n
  have n3 := oks_nodup D.dt D.o3 q L.dn
  unfold items itK at h
  unfold cutN cutP cutD
  generalize oks D.nt D.o1 q L.a.n = A at *
  generalize oks D.pt D.o2 q L.b.n = B at *
  generalize oks D.dt D.o3 q L.dn = C at *
  rw [List.append_assoc] at h
  by_cases h1 : j < A.length
  · left
    rw [List.getElem?_append_left (by simpa using h1), List.getElem?_map] at h
    obtain ⟨y, hy, e⟩ := Option.map_eq_some_iff.1 h
    subst e
    exact ⟨rfl, List.mem_of_getElem? hy, rfl, take_put hy, take_fresh n1 hy, by rw [show j + 1 - A.length = j - A.length by omega], by rw [show j + 1 - A.length = j - A.length by omega]⟩
  · right
    rw [List.getElem?_append_right (by simp; omega), List.length_map] at h
    by_cases h2 : j - A.length < B.length
    · left
      rw [List.getElem?_append_left (by simpa using h2), List.getElem?_map] at h
      obtain ⟨y, hy, e⟩ := Option.map_eq_some_iff.1 h
      subst e
      exact ⟨rfl, List.mem_of_getElem? hy, rfl, by rw [List.take_of_length_le (by omega), List.take_of_length_le (by omega)], by rw [show j + 1 - A.length = j - A.length + 1 by omega]; exact take_put hy, take_fresh n2 hy, by rw [show j + 1 - A.length - B.length = j - A.length - B.length by omega]⟩
    · right
      rw [List.getElem?_append_right (by simp; omega), List.length_map, List.getElem?_map] at h
      obtain ⟨y, hy, e⟩ := Option.map_eq_some_iff.1 h
      subst e
      exact ⟨rfl, List.mem_of_getElem? hy, rfl, by rw [List.take_of_length_le (by omega), List.take_of_length_le (by omega)], by rw [List.take_of_length_le (by omega), List.take_of_length_le (by omega)], by rw [show j + 1 - A.length - B.length = j - A.length - B.length + 1 by omega]; exact take_put hy, take_fresh n3 hy⟩
/-- These banks' things are given back, and the first j of bank q's. -/
def gC (L : BLoc) (D : BSt) (l : List Nat) (q j : Nat) : BSt := gI D (ofL D.nt D.o1 L.a.n l ++ cutN L D q j) (ofL D.pt D.o2 L.b.n l ++ cutP L D q j) (ofL D.dt D.o3 L.dn l ++ cutD L D q j)
theorem gC_zero (L : BLoc) (D : BSt) (l : List Nat) (q : Nat) : gC L D l q 0 = gB L D l := by simp [gC, gB, cutN, cutP, cutD]
theorem gC_all (L : BLoc) (D : BSt) (l : List Nat) (q j : Nat) (hj : ownN L D q ≤ j) : gC L D l q j = gB L D (l ++ [q]) := by
  unfold ownN at hj
  unfold gC gB cutN cutP cutD
  rw [ofL_snoc, ofL_snoc, ofL_snoc, List.take_of_length_le (by omega), List.take_of_length_le (by omega), List.take_of_length_le (by omega)]
/-- Which banks are there behind an end, and their versions. -/
def thE (nb : Nat) (l : List Nat) : Nat → Bool := fun i => if i ∈ l then false else thN nb i
def vrE (l : List Nat) : Nat → Int := fun i => if i ∈ l then 1 else 0
theorem thE_nil (nb : Nat) : thE nb [] = thN nb := by funext i; simp [thE]
theorem vrE_nil : vrE [] = fun _ => 0 := by funext i; simp [vrE]
theorem thE_put (nb : Nat) (l : List Nat) (k : Nat) : upd (thE nb l) k false = thE nb (l ++ [k]) := by
  funext i; unfold upd thE; by_cases e : i = k <;> simp [e]
theorem vrE_put (l : List Nat) (k : Nat) : upd (vrE l) k 1 = vrE (l ++ [k]) := by
  funext i; unfold upd vrE; by_cases e : i = k <;> simp [e]
/-- Banks, some of which may be gone, over domains over a memory over a law's start. -/
structure BE (w0 w : World) (L : BLoc) (D : BSt) (th : Nat → Bool) (vr : Nat → Int) : Prop where
  m : MMD w0 w L D
  d : DMD w L D
  k : BkAt w L.bB L.P L.p L.B L.A L.G1 L.G2 L.G3 L.n L.c L.mb L.dP th vr D.pr D.us D.lm D.o1 D.v1 D.o2 D.v2 D.o3 D.v3
  md : L.mb < L.dB ∧ L.cb < L.dB ∧ L.N ≤ L.dB
  db : L.dP < L.bB ∧ L.dp < L.bB ∧ L.dR < L.bB ∧ L.dG < L.bB ∧ L.dQ < L.bB
  dl : L.dB ≤ L.bB
  pk : PrOk D.nb D.pr
  nn : D.nb ≤ L.n
  tt : L.bB ≤ L.T ∧ L.P < L.T ∧ L.p < L.T ∧ L.B < L.T ∧ L.A < L.T ∧ L.G1 < L.T ∧ L.G2 < L.T ∧ L.G3 < L.T
  tw : L.T ≤ w.heap.size
theorem BW.be {w0 w : World} {L : BLoc} {D : BSt} (h : BW w0 w L D) : BE w0 w L D (thN D.nb) (fun _ => 0) := ⟨h.m, h.d, h.k, h.md, h.db, h.dl, h.pk, h.nn, h.tt, h.tw⟩
section
variable {w0 w w' : World} {L : BLoc} {D : BSt} {th : Nat → Bool} {vr : Nat → Int}
theorem BE.kk (h : BE w0 w L D th vr) : BkAt w L.bB L.P L.p L.B L.A L.G1 L.G2 L.G3 L.n L.c L.mb L.dP th vr D.pr D.us D.lm D.o1 D.v1 D.o2 D.v2 D.o3 D.v3 := h.k
theorem BE.dd (h : BE w0 w L D th vr) : DsAt w L.dB L.dP L.dp L.dR L.dG L.dQ L.dn L.dc D.dt D.dv D.dW := h.d
theorem BE.mm (h : BE w0 w L D th vr) : MemAt w0 w L.mb L.S L.a L.b L.N L.cb L.z D.nt D.nv D.nW D.pt D.pv D.pW 0 (.slice none 0 0) [] := h.m
theorem BE.bel (h : BE w0 w L D th vr) : Below w0.heap.size w0 w := h.m.sv.bel
theorem BE.below (h : BE w0 w L D th vr) (hb : Below w.heap.size w w') : BE w0 w' L D th vr := ⟨MemAt.below h.m hb, DsAt.below h.d hb, BkAt.below h.k hb, h.md, h.db, h.dl, h.pk, h.nn, h.tt, Nat.le_trans h.tw hb.size⟩
/-- The arena was written. -/
theorem BE.turn {th' : Nat → Bool} {vr' : Nat → Int} (h : BE w0 w L D th vr) (hA : ArAt w' L.bB L.p L.B L.n L.c th' vr') (hg : w.grownBy w' (some L.B)) : BE w0 w' L D th' vr' ∧ UpT L.T w w' := by
  have hb : Below L.bB w w' := low_of hg h.kk.ar.lt.1 (Nat.le_of_lt (Nat.lt_of_le_of_lt h.kk.pb h.kk.pl))
  have hm := MMD.low h.m hb (by have := h.md; have := h.dl; omega) (by have := h.md; have := h.dl; omega) (by have := h.md; have := h.dl; omega)
  have hd := DMD.low h.d hb h.db
  exact ⟨⟨hm, hd, h.kk.turn hA hg, h.md, h.db, h.dl, h.pk, h.nn, h.tt, Nat.le_trans h.tw hb.size⟩, UpT.grown hg (by have := h.tt; omega)⟩
end
end Go.Proofs.YtncopdhhchmpeaaGreatDoor
namespace Go.Proofs.YtncopdhhchmpeaaGreatDoor
open Go.ChangeShapes Go.WideShapes Go.ChangeAt Go.RowKit
set_option linter.unusedVariables false
set_option linter.unusedSimpArgs false
/-- A row of keys, and where it lies. -/
theorem key_row {w : World} {B k : Nat} {v : Value} {xs : List Value} (h : w.ownsRow B 42 5 v k xs) : ∃ a c, v = .slice a k c ∧ (0 < k → ∃ g, a = some ⟨g, 0, none⟩ ∧ B ≤ g ∧ g < w.heap.size ∧ ∀ i, i < k * 5 → w.cell? ⟨g, i, none⟩ = xs[i]?) := by
  rcases h.2 with ⟨rfl, h0⟩ | ⟨g, cap, cur, rfl, hB, hg, rest⟩
  · exact ⟨none, 0, by rw [h0], fun h => by omega⟩
  · exact ⟨some ⟨g, 0, none⟩, cap, rfl, fun _ => ⟨g, rfl, hB, (h.lt g rfl).2, fun i hi => h.cellAt i hi⟩⟩
/-- The cells of the key at place j. -/
structure KeyJ (w : World) (g j : Nat) (y : Nat × Nat × Int) : Prop where
  c0 : w.cell? ⟨g, j * 5, none⟩ = some (.int .i64 (y.1 : Int))
  c1 : w.cell? ⟨g, j * 5 + 1, none⟩ = some (.int .i64 (y.2.1 : Int))
  c2 : w.cell? ⟨g, j * 5 + 2, none⟩ = some (.int .i64 y.2.2)
  c3 : w.cell? ⟨g, j * 5 + 3, none⟩ = some (.int .i64 0)
  c4 : w.cell? ⟨g, j * 5 + 4, none⟩ = some (.int .u32 0)
/-- Owned's row, and where it lies, for as long as it stays. -/
theorem owned_row {w : World} {B T : Nat} {L : BLoc} {D : BSt} {q : Nat} {v : Value} (h : w.ownsRow B 42 5 v (ownN L D q) (ownK L D q)) (hT : T ≤ B) : ∃ a c, v = .slice a (ownN L D q) c ∧ ∀ W, UpT T w W → ∀ j y, (items L D q)[j]? = some y → ∃ g, a = some ⟨g, 0, none⟩ ∧ KeyJ W g j y := by
  obtain ⟨a, c, hv, hr⟩ := key_row h
  refine ⟨a, c, hv, fun W hu j y hj => ?_⟩
  have hl : j < ownN L D q := by
    rw [← items_len]
    by_cases e : j < (items L D q).length
    · exact e
    · rw [List.getElem?_eq_none (by omega)] at hj; cases hj
  obtain ⟨g, hg, hB, hlt, hc⟩ := hr (by omega)
  have hk := keyL_at _ _ _ hj
  rw [keyL_items] at hk
  have hb := hu.2 g (by omega) hlt
  have cc : ∀ i, i < ownN L D q * 5 → W.cell? ⟨g, i, none⟩ = (ownK L D q)[i]? := fun i hi => (World.cell?_of_block (a := ⟨g, i, none⟩) hb).trans (hc i hi)
  exact ⟨g, hg, ⟨(cc _ (by omega)).trans hk.1, (cc _ (by omega)).trans hk.2.1, (cc _ (by omega)).trans hk.2.2.1, (cc _ (by omega)).trans hk.2.2.2.1, (cc _ (by omega)).trans hk.2.2.2.2⟩⟩
/-- Versions within bounds. -/
structure VerOk (D : BSt) : Prop where
  n : ∀ i, -1000000 ≤ D.nv i ∧ D.nv i ≤ 1000000
  p : ∀ i, -1000000 ≤ D.pv i ∧ D.pv i ≤ 1000000
  d : ∀ i, -1000000 ≤ D.dv i ∧ D.dv i ≤ 1000000
theorem gC_stepn (L : BLoc) (D : BSt) (l : List Nat) (q j k : Nat) (h1 : cutN L D q (j + 1) = cutN L D q j ++ [k]) (h2 : cutP L D q (j + 1) = cutP L D q j) (h3 : cutD L D q (j + 1) = cutD L D q j) (hn : k ∉ ofL D.nt D.o1 L.a.n l ++ cutN L D q j) :
    { gC L D l q j with nt := upd (gC L D l q j).nt k false, nv := upd (gC L D l q j).nv k (D.nv k + 1), o1 := upd (gC L D l q j).o1 k (-1), v1 := upd (gC L D l q j).v1 k 0 } = gC L D l q (j + 1) := by
  unfold gC
  rw [gI_n _ _ _ _ _ hn, h1, h2, h3, List.append_assoc]
theorem gC_stepp (L : BLoc) (D : BSt) (l : List Nat) (q j k : Nat) (h1 : cutN L D q (j + 1) = cutN L D q j) (h2 : cutP L D q (j + 1) = cutP L D q j ++ [k]) (h3 : cutD L D q (j + 1) = cutD L D q j) (hn : k ∉ ofL D.pt D.o2 L.b.n l ++ cutP L D q j) :
    { gC L D l q j with pt := upd (gC L D l q j).pt k false, pv := upd (gC L D l q j).pv k (D.pv k + 1), o2 := upd (gC L D l q j).o2 k (-1), v2 := upd (gC L D l q j).v2 k 0 } = gC L D l q (j + 1) := by
  unfold gC
  rw [gI_p _ _ _ _ _ hn, h1, h2, h3, List.append_assoc]
theorem gC_stepd (L : BLoc) (D : BSt) (l : List Nat) (q j k : Nat) (h1 : cutN L D q (j + 1) = cutN L D q j) (h2 : cutP L D q (j + 1) = cutP L D q j) (h3 : cutD L D q (j + 1) = cutD L D q j ++ [k]) (hn : k ∉ ofL D.dt D.o3 L.dn l ++ cutD L D q j) :
    { gC L D l q j with dt := upd (gC L D l q j).dt k false, dv := upd (gC L D l q j).dv k (D.dv k + 1), o3 := upd (gC L D l q j).o3 k (-1), v3 := upd (gC L D l q j).v3 k 0 } = gC L D l q (j + 1) := by
  unfold gC
  rw [gI_d _ _ _ _ _ hn, h1, h2, h3, List.append_assoc]
theorem bgb_any {w0 : World} {L : BLoc} {D : BSt} (l : List Nat) (q j : Nat) (y : Nat × Nat × Int) (hy : Hid ((items L D q)[j]? = some y)) (hql : Hid (q ∉ l)) (hv : Hid (VerOk D)) (w : World) (h : BW w0 w L (gC L D l q j)) :
    Calls Tryz.prog 75 #[.pointer (some ⟨L.P, 0, none⟩), .agg #[.int .i64 (y.1 : Int), .int .i64 (y.2.1 : Int), .int .i64 y.2.2, .int .i64 0, .int .u32 0]] w fun e w' => e = .returned (.tuple #[]) ∧ BW w0 w' L (gC L D l q (j + 1)) ∧ UpT L.T w w' := by
  obtain ⟨y0, y1, y2⟩ := y
  rcases items_split L D q j (y0, y1, y2) hy.out with ⟨e0, hm, e2, c1, cn, c2, c3⟩ | ⟨e0, hm, e2, c1, c2, cn, c3⟩ | ⟨e0, hm, e2, c1, c2, c3, cn⟩
  · have hmm := oks_mem.1 hm
    have hno : y1 ∉ ofL D.nt D.o1 L.a.n l ++ cutN L D q j := fun hh => (List.mem_append.1 hh).elim (ofL_dis hql.out _ hm) cn
    have hst := gC_stepn L D l q j y1 c1 c2 c3 hno
    have b := hv.out.n y1
    have hT : (gC L D l q j).nt y1 = true := (if_neg hno : gT D.nt _ y1 = D.nt y1).trans hmm.2.1
    have hV : (gC L D l q j).nv y1 = D.nv y1 := (if_neg hno : gV D.nv _ y1 = D.nv y1)
    have hn := h.an
    simp only at e0 e2
    subst e0
    subst e2
    refine (bgb_node y1 (D.nv y1) 0 0 (Nat.lt_of_lt_of_le hmm.1 hn) hmm.1 (Lib.hid hT) (Lib.hid hV) (by omega) (by omega) w h).mono ?_
    rintro e w' ⟨rfl, hW, hu⟩
    rw [hst] at hW
    exact ⟨rfl, hW, hu⟩
  · have hmm := oks_mem.1 hm
    have hno : y1 ∉ ofL D.pt D.o2 L.b.n l ++ cutP L D q j := fun hh => (List.mem_append.1 hh).elim (ofL_dis hql.out _ hm) cn
    have hst := gC_stepp L D l q j y1 c1 c2 c3 hno
    have b := hv.out.p y1
    have hT : (gC L D l q j).pt y1 = true := (if_neg hno : gT D.pt _ y1 = D.pt y1).trans hmm.2.1
    have hV : (gC L D l q j).pv y1 = D.pv y1 := (if_neg hno : gV D.pv _ y1 = D.pv y1)
    have hn := h.pn
    simp only at e0 e2
    subst e0
    subst e2
    refine (bgb_page y1 (D.pv y1) 0 0 (Nat.lt_of_lt_of_le hmm.1 hn) hmm.1 (Lib.hid hT) (Lib.hid hV) (by omega) (by omega) w h).mono ?_
    rintro e w' ⟨rfl, hW, hu⟩
    rw [hst] at hW
    exact ⟨rfl, hW, hu⟩
  · have hmm := oks_mem.1 hm
    have hno : y1 ∉ ofL D.dt D.o3 L.dn l ++ cutD L D q j := fun hh => (List.mem_append.1 hh).elim (ofL_dis hql.out _ hm) cn
    have hst := gC_stepd L D l q j y1 c1 c2 c3 hno
    have b := hv.out.d y1
    have hT : (gC L D l q j).dt y1 = true := (if_neg hno : gT D.dt _ y1 = D.dt y1).trans hmm.2.1
    have hV : (gC L D l q j).dv y1 = D.dv y1 := (if_neg hno : gV D.dv _ y1 = D.dv y1)
    have hn := h.dn256
    simp only at e0 e2
    subst e0
    subst e2
    refine (bgb_dom y1 (D.dv y1) 0 0 (Nat.lt_of_lt_of_le hmm.1 hn) hmm.1 (Lib.hid hT) (Lib.hid hV) (by omega) (by omega) w h).mono ?_
    rintro e w' ⟨rfl, hW, hu⟩
    rw [hst] at hW
    exact ⟨rfl, hW, hu⟩
end Go.Proofs.YtncopdhhchmpeaaGreatDoor
namespace Go.Proofs.YtncopdhhchmpeaaGreatDoor
open Go.ChangeShapes Go.WideShapes Go.ChangeAt Go.RowKit
set_option linter.unusedVariables false
set_option linter.unusedSimpArgs false
def zl (l : List Nat) : List Int := l.map (fun (i : Nat) => (i : Int))
theorem ivals_zl (l : List Nat) : ivals l = (zl l).map (Value.int .i64) := by unfold ivals zl; rw [List.map_map]; rfl
theorem zl_at {l : List Nat} {j x : Nat} (h : l[j]? = some x) : (zl l).getD j 0 = (x : Int) := by
  unfold zl; rw [List.getD_eq_getElem?_getD, List.getElem?_map, h]; rfl
theorem zl_len (l : List Nat) : (zl l).length = l.length := by simp [zl]
theorem inL_lt {nb : Nat} {pr : Nat → Int} {z : Int} {n i : Nat} (h : i ∈ inL nb pr z n) : i < n ∧ i < nb := by
  unfold inL at h
  simp only [List.mem_filter, List.mem_range, Bool.and_eq_true, decide_eq_true_eq] at h
  exact ⟨h.1, h.2.1⟩
theorem inL_nodup (nb : Nat) (pr : Nat → Int) (z : Int) (n : Nat) : (inL nb pr z n).Nodup := List.nodup_range.filter _
theorem at_some {α : Type} {l : List α} {j : Nat} (h : j < l.length) : ∃ x, l[j]? = some x := ⟨_, List.getElem?_eq_getElem h⟩
set_option maxRecDepth 100000 in
set_option maxHeartbeats 4000000 in
theorem bend_is {w0 : World} {L : BLoc} {D : BSt} (x : Int) (q : Nat) (hx : Hid (x = (q : Int))) (hq : q < D.nb) (ho : OwI L D) (hv : Hid (VerOk D)) (il : List Nat) (hil : Hid (inL D.nb D.pr (q : Int) L.n = il)) (K : Nat) (hK : Hid (sumN L D il = K)) (hK1 : K ≤ 1000) (hu : Hid (∀ i, i < L.n → -1000000 ≤ D.us i ∧ D.us i ≤ 1000000)) (w : World) (h : BW w0 w L D) :
    Calls Tryz.prog 25 #[.pointer (some ⟨L.P, 0, none⟩), .int .i64 x] w fun e w' => e = .returned (.tuple #[.int .i64 (K : Int), .nilIface]) ∧ BE w0 w' L { gB L D il with us := addL D.us (chL D.pr (D.pr q)) (-(K : Int)) } (thE D.nb il) (vrE il) ∧ UpT L.T w w' := by
  rw [hx.out]
  have H := Lib.hid h
  have HO := Lib.hid ho
  have hn := h.n256
  have hnn := h.nn
  have hqn : q < L.n := by omega
  have HTw := Lib.hid h.tw
  have HTT := Lib.hid h.tt
  have HPk := Lib.hid h.pk
  have f0 := h.kk.f0
  have HIl : Hid (il.Nodup ∧ ∀ i, i ∈ il → i < L.n ∧ i < D.nb) := Lib.hid (by rw [← hil.out]; exact ⟨inL_nodup _ _ _ _, fun i hi => inL_lt hi⟩)
  obtain ⟨m, hm⟩ : ∃ m, Hid (il.length = m) := ⟨_, Lib.hid rfl⟩
  have hm1 : m ≤ 256 := by have := hm.out; have := inL_len D.nb D.pr (q : Int) L.n; rw [hil.out] at this; omega
  have HTq := Lib.hid (thN_at hq)
  have HpqB : Hid (-1 ≤ D.pr q ∧ D.pr q < q) := Lib.hid (h.pk q hq)
  clear h ho hx
  go_enter Tryz.func25, Tryz.ntmps25
  go_wp2_with (first
    | (go_at_call 63; (with_reducible refine (athere_in q hqn true HTq _ H.out.kk.ar).mono ?_); rintro e w1 ⟨rfl, rfl⟩)
    | (go_at_call 73; (with_reducible refine (binner_is (q : Int) hnn HPk _ H.out.kk).mono ?_); rintro e w2 ⟨v, rfl, hr, hb⟩; rw [hil.out, ivals_zl, ← zl_len] at hr; obtain ⟨a, c, hv2⟩ := own_slice hr m (Lib.hid ((zl_len il).trans hm.out)); have HR := Lib.hid (rowT hr hv2 ((zl_len il).trans hm.out) HTw.out); subst hv2; have HB2 := Lib.hid hb; have HW2 := Lib.hid (H.out.below hb); clear hr hb f0))
  have HW0 : Hid (BW w0 w2 L (gB L D (il.take 0))) := Lib.hid (by have e : gB L D (il.take 0) = D := gI_nil D; rw [e]; exact HW2.out)
  go_loopw [6, 27] (fun gv iv wr => ∃ (j : Nat) (gz : Int), j ≤ m ∧ gv = .int .i64 gz ∧ iv = .int .i64 j ∧ Hid (gz = (sumN L D (il.take j) : Int)) ∧ BW w0 wr L (gB L D (il.take j)) ∧ UpT L.T w2 wr) (fun _ i _ => m - (intOf i).toNat)
  case atStart => exact ⟨0, 0, by omega, rfl, rfl, Lib.hid (by simp [sumN]), HW0.out, UpT.refl _ _⟩
  case round =>
    obtain ⟨j, gz, hj, rfl, rfl, HG, hW, hU⟩ := hrel
    have HW := Lib.hid hW
    have HU := Lib.hid hU
    have gz0 : 0 ≤ gz ∧ gz ≤ 1000 := by
      have h1 := HG.out
      have h2 := sumN_take L D il j
      rw [hK.out] at h2
      omega
    clear hW hU
    by_cases hlt : j < m
    · obtain ⟨y, hy⟩ := at_some (l := il) (j := j) (by rw [hm.out]; exact hlt)
      have HY := Lib.hid hy
      have hyy := HIl.out.2 y (List.mem_of_getElem? hy)
      have HNew : Hid (y ∉ il.take j) := Lib.hid (take_fresh HIl.out.1 hy)
      have HTP := Lib.hid (take_put hy)
      obtain ⟨g, hg, hTg, hgl, hc⟩ := HR.out wr HU.out j hlt
      rw [zl_at hy] at hc
      have HOw : Hid (Calls Tryz.prog 74 #[.pointer (some ⟨L.P, 0, none⟩), .int .i64 (y : Int)] wr fun e w' => ∃ v, e = .returned v ∧ Below wr.heap.size wr w' ∧ w'.ownsRow wr.heap.size 42 5 v (ownN L D y) (ownK L D y)) := Lib.hid (by
        have h := bowned_is (D := gB L D (il.take j)) y hyy.2 (gB_ow HO.out (il.take j)) wr HW.out
        rw [gB_ownN L D _ y HNew.out, gB_ownK L D _ y HNew.out] at h
        exact h)
      obtain ⟨n1, hn1⟩ : ∃ n1, Hid (ownN L D y = n1) := ⟨_, Lib.hid rfl⟩
      have HSum : Hid ((sumN L D (il.take (j + 1)) : Int) = gz + n1) := Lib.hid (by rw [HTP.out, sumN_snoc, hn1.out, HG.out]; omega)
      have hs1 : gz + n1 ≤ 1000 := by
        have h2 := sumN_take L D il (j + 1)
        rw [hK.out] at h2
        have h3 := HSum.out
        omega
      subst hg
      have k0 : (0 : Int) ≤ j := by omega
      have k1 : (j : Int) < m := by omega
      clear hy hyy
      go_wp2_with (first
        | (go_at_call 74; (with_reducible refine HOw.out.mono ?_); rintro e w4 ⟨v4, rfl, hb, hr⟩; obtain ⟨a2, c2, hv4, hkr⟩ := owned_row hr HW.out.tw; rw [hn1.out] at hv4; subst hv4; have HKR := Lib.hid hkr; have HB4 := Lib.hid hb; have HW4 : Hid (BW w0 w4 L (gC L D (il.take j) y 0)) := Lib.hid (by rw [gC_zero]; exact HW.out.below hb); clear hb hr hkr hc))
      go_loopw [6, 35] (fun gv iv wx => ∃ (k : Nat) (gy : Int), k ≤ n1 ∧ gv = .int .i64 gy ∧ iv = .int .i64 k ∧ Hid (gy = gz + k) ∧ BW w0 wx L (gC L D (il.take j) y k) ∧ UpT L.T w4 wx) (fun _ i _ => n1 - (intOf i).toNat)
      case atStart => exact ⟨0, gz, by omega, rfl, rfl, Lib.hid (by simp), HW4.out, UpT.refl _ _⟩
      case round =>
        obtain ⟨k, gy, hk, rfl, rfl, HGy, hWx, hUx⟩ := hrel
        have HWx := Lib.hid hWx
        have HUx := Lib.hid hUx
        clear hWx hUx
        have gy0 : 0 ≤ gy ∧ gy ≤ 1000 := by have := HGy.out; omega
        by_cases hlk : k < n1
        · obtain ⟨x2, hx2⟩ := at_some (l := items L D y) (j := k) (by rw [items_len, hn1.out]; exact hlk)
          obtain ⟨g2, hg2, hc⟩ := HKR.out _ HUx.out k x2 hx2
          have HX2 := Lib.hid hx2
          obtain ⟨q0, q1, q2, q3, q4⟩ := hc
          subst hg2
          have e0 : (0 : Int) ≤ k := by omega
          have e1 : (k : Int) < n1 := by omega
          have hwy : IntKind.i64.wrap (gy + 1) = gy + 1 := by rw [IntKind.wrap_i64]; omega
          have HWo : Hid (∀ o, BW w0 (World.alloc wr o) L (gC L D (il.take j) y k)) := Lib.hid (fun o => HWx.out.below ((Below.refl _ _).alloc (Nat.le_refl _) _ : Below wr.heap.size wr (wr.alloc o)))
          have HUo : Hid (∀ o, UpT L.T w4 (World.alloc wr o)) := Lib.hid (fun o => HUx.out.trans (UpT.below ((Below.refl _ _).alloc (Nat.le_refl _) _ : Below wr.heap.size wr (wr.alloc o))))
          clear hx2
          go_wp2_with (first
            | (go_at_call 75; (with_reducible refine (bgb_any (il.take j) y k x2 HX2 HNew hv _ (HWo.out _)).mono ?_); rintro e w6 ⟨rfl, hW, hu⟩; have HW6 := Lib.hid hW; have HU6 := Lib.hid ((HUo.out _).trans hu); clear hW hu q0 q1 q2 q3 q4))
          go_roundw
          case rel => exact ⟨k + 1, gy + 1, by omega, rfl, by go_num, Lib.hid (by rw [HGy.out]; push_cast; omega), HW6.out, HU6.out⟩
          case measure => simp [intOf]; omega
        · obtain rfl : k = n1 := by omega
          have HF : Hid (BW w0 wr L (gB L D (il.take (j + 1)))) := Lib.hid (by rw [HTP.out, ← gC_all L D (il.take j) y k (by rw [hn1.out]; exact Nat.le_refl _)]; exact HWx.out)
          have HUF : Hid (UpT L.T w2 wr) := Lib.hid ((HU.out.trans (UpT.below HB4.out)).trans HUx.out)
          go_wp2_with fail
          go_roundw
          case rel => exact ⟨j + 1, gy, by omega, rfl, by go_num, Lib.hid (by rw [HSum.out, HGy.out]), HF.out, HUF.out⟩
          case measure => simp [intOf]; omega
    · obtain rfl : j = m := by omega
      have HTk : Hid (il.take j = il) := Lib.hid (List.take_of_length_le (by rw [hm.out]; exact Nat.le_refl _))
      have HGK : Hid (gz = (K : Int)) := Lib.hid (by rw [HG.out, HTk.out, hK.out])
      have HWf : Hid (BW w0 wr L (gB L D il)) := Lib.hid (by have h := HW.out; rw [HTk.out] at h; exact h)
      have hwn : IntKind.i64.wrap (-gz) = -gz := by rw [IntKind.wrap_i64]; omega
      obtain ⟨z0, hz0⟩ : ∃ z0, Hid (D.pr q = z0) := ⟨_, Lib.hid rfl⟩
      have f3 := HWf.out.kk.f3
      have c0 := HWf.out.kk.ac0 q hqn
      have c0' : (gB L D il).pr q = z0 := hz0.out
      rw [c0'] at c0
      have hzb := HpqB.out
      rw [hz0.out] at hzb
      obtain ⟨lc, hlc⟩ : ∃ lc, Hid (chL D.pr z0 = lc) := ⟨_, Lib.hid rfl⟩
      have hcb := chL_bound HPk.out (by omega) D.nb z0 (by omega) (Nat.le_refl _)
      have hnd := chL_nodup HPk.out (by omega) D.nb z0 (by omega) (Nat.le_refl _)
      rw [hlc.out] at hcb hnd
      obtain ⟨mc, hmc⟩ : ∃ mc, Hid (lc.length = mc) := ⟨_, Lib.hid rfl⟩
      have hmc1 : mc ≤ 1000 := by rw [← hmc.out]; omega
      have HIn : Hid (∀ z, z ∈ lc → 0 ≤ z ∧ z < L.n) := Lib.hid (fun z hz => by have := hcb.2 z hz; omega)
      have HNd := Lib.hid hnd
      have k0 : (0 : Int) ≤ q := by omega
      have k1 : (q : Int) < L.n := by omega
      have k2 : z0 < D.nb := by omega
      clear hcb hnd c0'
      go_wp2_with (first
        | (go_at_call 77; (with_reducible refine (bchain_is z0 D.nb hzb.1 k2 hnn (Lib.hid (fun i hi => thN_at hi)) HPk _ HWf.out.kk).mono ?_); rintro e w5 ⟨v9, rfl, hr, hb⟩; rw [hlc.out] at hr; obtain ⟨a9, c9, hv9⟩ := own_slice hr mc hmc; have HRw := Lib.hid (rowT hr hv9 hmc.out HWf.out.tw); subst hv9; have HW5 := Lib.hid (HWf.out.below hb); have HU5 := Lib.hid (HU.out.trans (UpT.below hb)); clear hr hb f3 c0)
        | (go_at_call 76; (with_reducible refine (bcount_is lc mc hmc hmc1 a9 c9 HIn HNd (-gz) (by omega) hu _ HW5.out.kk (fun i hi => by obtain ⟨g, h1, h2, h3, h4⟩ := HRw.out _ (UpT.refl _ _) i hi; exact ⟨g, h1, h3, by have := HTT.out; omega, h4⟩)).mono ?_); rintro e w6 ⟨rfl, hB, hg⟩; have HBk := Lib.hid hB; have HG6 := Lib.hid hg; clear hB hg))
      have HE6 : Hid (BE w0 w6 L { gB L D il with us := addL D.us (chL D.pr (D.pr q)) (-(K : Int)) } (thE D.nb []) (vrE []) ∧ UpT L.T w2 w6) := Lib.hid (by
        have hk := HBk.out
        rw [HGK.out, ← hlc.out, ← hz0.out] at hk
        have hW := BW.bank HW5.out (D' := { gB L D il with us := addL D.us (chL D.pr (D.pr q)) (-(K : Int)) }) hk (low_of HG6.out HW5.out.kk.ac.lt.1 HW5.out.bl) rfl HW5.out.pk HW5.out.nn
        rw [thE_nil, vrE_nil]
        exact ⟨hW.be, HU5.out.trans (UpT.grown HG6.out (by have := HTT.out; omega))⟩)
      clear HBk
      obtain ⟨D6, hD6⟩ : ∃ D6, Hid ({ gB L D il with us := addL D.us (chL D.pr (D.pr q)) (-(K : Int)) } = D6) := ⟨_, Lib.hid rfl⟩
      rw [hD6.out] at HE6
      go_loopw [62] (fun iv wx => ∃ k : Nat, k ≤ j ∧ iv = .int .i64 k ∧ BE w0 wx L D6 (thE D.nb (il.take k)) (vrE (il.take k)) ∧ UpT L.T w2 wx) (fun i _ => j - (intOf i).toNat)
      case atStart => exact ⟨0, by omega, rfl, HE6.out⟩
      case round =>
        obtain ⟨k, hk, rfl, hE, hUx⟩ := hrel
        have HEx := Lib.hid hE
        have HUx := Lib.hid hUx
        clear hE hUx
        by_cases hlk : k < j
        · obtain ⟨y, hy⟩ := at_some (l := il) (j := k) (by rw [hm.out]; exact hlk)
          have hyy := HIl.out.2 y (List.mem_of_getElem? hy)
          have hfr := take_fresh HIl.out.1 hy
          have HTP := Lib.hid (take_put hy)
          obtain ⟨g, hg, hTg, hgl, hc⟩ := HR.out _ HUx.out k hlk
          rw [zl_at hy] at hc
          have HTy : Hid (thE D.nb (il.take k) y = true) := Lib.hid (by unfold thE; rw [if_neg hfr]; exact thN_at hyy.2)
          have HVy : Hid (vrE (il.take k) y = 0) := Lib.hid (if_neg hfr)
          have f0 := HEx.out.kk.f0
          subst hg
          have e0 : (0 : Int) ≤ k := by omega
          have e1 : (k : Int) < j := by omega
          have hyn := hyy.1
          clear hy hyy hfr
          go_wp2_with (first
            | (go_at_call 72; (with_reducible refine (agive_at (y : Int) _ HEx.out.kk.ar y (Lib.hid rfl) hyn HTy 0 1 HVy (by decide) (by decide) (Lib.hid (by decide))).mono ?_); rintro e w7 ⟨rfl, hA2, hg⟩; rw [thE_put, vrE_put, ← HTP.out] at hA2; have HE7 := Lib.hid (HEx.out.turn hA2 hg); clear hA2 hg f0 hc))
          go_roundw
          case rel => exact ⟨k + 1, by omega, by go_num, HE7.out.1, HUx.out.trans HE7.out.2⟩
          case measure => simp [intOf]; omega
        · obtain rfl : k = j := by omega
          go_wp2_with fail
          go_ret2
          have hF := HEx.out
          rw [HTk.out, ← hD6.out] at hF
          exact ⟨by rw [HGK.out]; rfl, hF, (UpT.below HB2.out).trans HUx.out⟩
end Go.Proofs.YtncopdhhchmpeaaGreatDoor
namespace Go.Proofs.YtncopdhhchmpeaaGreatDoor
open Go.ChangeShapes Go.WideShapes Go.ChangeAt Go.RowKit
set_option linter.unusedVariables false
set_option linter.unusedSimpArgs false
set_option maxRecDepth 100000 in
set_option maxHeartbeats 1000000 in
theorem bopen_gen {base P p B A G1 G2 G3 n c mb db : Nat} {th : Nat → Bool} {vr pr us lm o1 v1 o2 v2 o3 v3 : Nat → Int} (y lim : Int) (nb j : Nat) (v : Int) (hy0 : -1 ≤ y) (hy1 : y < nb) (hl0 : 0 ≤ lim) (hl1 : lim ≤ 512) (hnb : nb ≤ n) (hj : j < n) (hth : Hid (∀ i, i < nb → th i = true)) (hyes : Hid (freeB th vr j = true)) (hno : Hid (∀ i, i < j → freeB th vr i = false)) (hv : Hid (vr j = v)) (hpr : Hid (PrOk nb pr)) (hch : Hid ((chL pr y).length < 8)) (w : World) (h : (BkAt w base P p B A G1 G2 G3 n c mb db th vr pr us lm o1 v1 o2 v2 o3 v3)) :
    Calls Tryz.prog 48 #[.pointer (some ⟨P, 0, none⟩), .int .i64 y, .int .i64 lim] w fun e w' => e = .returned (.tuple #[.int .i64 j, .int .i64 v, .nilIface]) ∧ BkAt w' base P p B A G1 G2 G3 n c mb db (upd th j true) vr (upd pr j y) (upd us j 0) (upd lm j lim) o1 v1 o2 v2 o3 v3 ∧ PBelow w w' B A := by
  have H := Lib.hid h
  have hn := h.ar.le
  have d0 : decide (lim < 0) = false := decide_eq_false (by omega)
  have d1 : decide (512 < lim) = false := decide_eq_false (by omega)
  obtain ⟨m, hm⟩ : ∃ m, Hid ((chL pr y).length = m) := ⟨_, Lib.hid rfl⟩
  have hm8 : m < 8 := by have := hch.out; rw [hm.out] at this; exact this
  have d2 : decide ((8 : Int) ≤ (m : Int)) = false := decide_eq_false (by omega)
  have k0 : (0 : Int) ≤ j := by omega
  have k1 : (j : Int) < n := by omega
  clear h
  go_enter Tryz.func48, Tryz.ntmps48
  go_wp2_with (first
    | (go_at_call 77; (with_reducible refine (bchain_is y nb hy0 hy1 hnb hth hpr _ H.out).mono ?_); rintro e w1 ⟨v', rfl, hr, hb⟩; obtain ⟨a9, c9, hv9⟩ := own_slice hr m hm; subst hv9; have H1 := Lib.hid (H.out.below hb); have HB1 := Lib.hid hb; have f0 := H1.out.f0; clear hr hb)
    | (go_at_call 65; (with_reducible refine (atake_ok _ H1.out.ar j hj hyes hno v hv).mono ?_); rintro e w2 ⟨rfl, hA, hg⟩; have H2 := Lib.hid (H1.out.turn hA hg); have HB2 := Lib.hid ((PBelow.of_below (B := B) (G := A) HB1.out).trans (PBelow.of hg (.inl rfl))); have f3 := H2.out.f3; have HP := Lib.hid (H2.out.setP j hj y); have HU := Lib.hid (HP.out.1.setU j hj 0); have HL := Lib.hid (HU.out.1.setL j hj lim); have c0 := H2.out.ac0 j hj; have c1 := H2.out.ac1 j hj; have c2 := H2.out.ac2 j hj; have z0 := H2.out.ac.fr (j * 3); have z1 := H2.out.ac.fr (j * 3 + 1); have z2 := H2.out.ac.fr (j * 3 + 2); clear hA hg f0))
  go_ret3
  exact ⟨rfl, HL.out.1, ((HB2.out.trans (PBelow.of HP.out.2 (.inr rfl))).trans (PBelow.of HU.out.2 (.inr rfl))).trans (PBelow.of HL.out.2 (.inr rfl))⟩
theorem bsub_gen {base P p B A G1 G2 G3 n c mb db : Nat} {th : Nat → Bool} {vr pr us lm o1 v1 o2 v2 o3 v3 : Nat → Int} (x : Int) (q : Nat) (hx : Hid (x = (q : Int))) (lim : Int) (hq : q < n) (ht : Hid (th q = true)) {Q : Ending → World → Prop} (r : Value) (a0 a1 a2 : Value) (hr : r = .tuple #[a0, a1, a2]) (w : World) (h0 : (BkAt w base P p B A G1 G2 G3 n c mb db th vr pr us lm o1 v1 o2 v2 o3 v3)) (h : Calls Tryz.prog 48 #[.pointer (some ⟨P, 0, none⟩), .int .i64 (q : Int), .int .i64 lim] w fun e w' => e = .returned r ∧ Q e w') :
    Calls Tryz.prog 20 #[.pointer (some ⟨P, 0, none⟩), .int .i64 x, .int .i64 lim] w fun e w' => e = .returned r ∧ Q e w' := by
  rw [hx.out]
  subst hr
  have HC := Lib.hid h
  have H := Lib.hid h0
  have f0 := h0.f0
  clear h h0 hx
  go_enter Tryz.func20, Tryz.ntmps20
  go_wp2_with (first
    | (go_at_call 63; (with_reducible refine (athere_in q hq true ht _ H.out.ar).mono ?_); rintro e w1 ⟨rfl, rfl⟩)
    | (go_at_call 48; (with_reducible refine HC.out.mono ?_); rintro e w1 ⟨rfl, hq⟩; have HQ := Lib.hid hq; clear hq))
  go_ret3
  exact ⟨rfl, HQ.out⟩
end Go.Proofs.YtncopdhhchmpeaaGreatDoor
namespace Go.Proofs.YtncopdhhchmpeaaGreatDoor
open Go.ChangeShapes Go.WideShapes Go.ChangeAt Go.RowKit
set_option linter.unusedVariables false
set_option linter.unusedSimpArgs false
theorem ErrsAt.up {vs vr : Value} {w w' : World} (h : ErrsAt vs vr w) (hb : Below w.heap.size w w') : ErrsAt vs vr w' := h.below hb
def boughtN (D : BSt) (q j : Nat) (v : Int) (nW : Nat → Nat → Value) : BSt := { D with nt := upd D.nt j true, nW := nW, us := addL D.us (chL D.pr q) 1, o1 := upd D.o1 j q, v1 := upd D.v1 j v }
/-- Keys that are handed in lie apart. -/
def SrcV (L : BLoc) (w : World) (a : Option Addr) (m : Nat) (kk : Nat → Nat → Int) : Prop := ∀ W, Below w.heap.size w W → ∀ B G, (B < L.T ∨ w.heap.size ≤ B) → (G < L.T ∨ w.heap.size ≤ G) → SrcK W a m kk B G
theorem SrcV.run {L : BLoc} {w : World} {a : Option Addr} {m : Nat} {kk : Nat → Nat → Int} (h : SrcV L w a m kk) (W : World) (hb : Below w.heap.size w W) (B G : Nat) (hB : B < L.T ∨ w.heap.size ≤ B) (hG : G < L.T ∨ w.heap.size ≤ G) : SrcK W a m kk B G := h W hb B G hB hG
theorem srcv_none (L : BLoc) (w : World) (kk : Nat → Nat → Int) : SrcV L w none 0 kk := fun _ _ _ _ _ _ => ⟨fun j hj => by omega⟩
set_option maxRecDepth 100000 in
theorem bnodeof_ok (vs vr : Value) (a : Option Addr) (m c2 : Nat) (kk : Nat → Nat → Int) (hk : Hid (∀ i, i < m → KRight kk i)) (hx : m ≤ 16) (w : World) (hE : ErrsAt vs vr w) (hs : ∀ B G, w.heap.size ≤ B → w.heap.size ≤ G → SrcK w a m kk B G) :
    Calls Tryz.prog 50 #[.slice a m c2] w fun e w' => e = .returned .nilIface ∧ Below w.heap.size w w' := by
  have HS := Lib.hid hs
  have HE := Lib.hid hE
  clear hs hE
  go_enter Tryz.func50, Tryz.ntmps50
  go_wp2_with (first
    | (go_at_call 91; (with_reducible refine (nnew_ok 1 1 (Lib.hid rfl) (by decide) (by decide) _).mono ?_); rintro e w1 ⟨P, p, B, G, rfl, hP, hb⟩; have HP := Lib.hid hP; have HB := Lib.hid hb; have HS1 := Lib.hid ((HS.out B G hP.ar.lt.1 (hP.row.lt G rfl).1).below hb); have HE1 := Lib.hid (HE.out.up hb); clear hP hb)
    | (go_at_call 52; (with_reducible refine (nmake_at 0 vs vr a m c2 kk hx hk 0 (Lib.hid rfl) (by decide) (Lib.hid (by decide)) (Lib.hid (by intro i hi; omega)) 0 (Lib.hid rfl) _ HE1.out HP.out HS1.out).mono ?_); rintro e w2 ⟨rfl, hP2, hb2⟩; have HB2 := Lib.hid (HB.out.trans (hb2.below (b := w.heap.size) HP.out.ar.lt.1 (HP.out.row.lt G rfl).1 HB.out.size)); clear hP2 hb2))
  go_ret
  exact ⟨rfl, HB2.out⟩
set_option maxRecDepth 100000 in
set_option maxHeartbeats 1000000 in
theorem bndcl_ok {w0 : World} {L : BLoc} {D : BSt} (x y : Nat) (vs vr : Value) (a : Option Addr) (m c2 : Nat) (kk : Nat → Nat → Int) (hk : Hid (∀ i, i < m → KRight kk i)) (hx : m ≤ 16) (j : Nat) (hj : j < L.a.n) (hyes : Hid (freeB D.nt D.nv j = true)) (hno : Hid (∀ i, i < j → freeB D.nt D.nv i = false)) (v : Int) (hv : Hid (D.nv j = v)) (w : World) (h : BW w0 w L D) (hxy : L.T ≤ x ∧ x < w.heap.size ∧ L.T ≤ y ∧ y < w.heap.size) (cx : w.cell? ⟨x, 0, none⟩ = some (.pointer (some ⟨L.P, 0, none⟩))) (cy : w.cell? ⟨y, 0, none⟩ = some (.slice a m c2)) (hE : ErrsAt vs vr w) (hs : SrcK w a m kk L.a.B L.a.G) :
    Calls Tryz.prog 51 #[.pointer (some ⟨x, 0, none⟩), .pointer (some ⟨y, 0, none⟩)] w fun e w' => e = .returned (.tuple #[.int .i64 j, .int .i64 v, .nilIface]) ∧ BW w0 w' L { D with nt := upd D.nt j true, nW := freshV D.nW j (kcs kk m) } ∧ PBelow w w' L.a.B L.a.G := by
  obtain ⟨wD, hwD⟩ : ∃ wD, wD = w.drew := ⟨_, rfl⟩
  have hbD : Below w.heap.size w wD := by rw [hwD]; exact (Below.refl _ _).drew
  have HD := Lib.hid (h.below hbD)
  have HSr := Lib.hid (hs.below hbD)
  have HEd := Lib.hid (hE.up hbD)
  have HBD := Lib.hid (PBelow.of_below (B := L.a.B) (G := L.a.G) hbD)
  have HS7 : Hid (∀ W, BW w0 W L { D with nt := upd D.nt j true, nW := freshV D.nW j (kcs kk m) } → UpT L.T w W → (World.cell? W ⟨x, 0, none⟩ = some (.pointer (some ⟨L.P, 0, none⟩)) ∧ World.cell? W ⟨L.P, 1, none⟩ = some (.pointer (some ⟨L.mb, 0, none⟩)) ∧ World.cell? W ⟨L.mb, 0, none⟩ = some (.pointer (some ⟨L.S, 0, none⟩)) ∧ World.cell? W ⟨L.S, 0, none⟩ = some (.pointer (some ⟨L.a.P, 0, none⟩)) ∧ World.cell? W ⟨y, 0, none⟩ = some (.slice a m c2))) := Lib.hid (fun W hW hu => ⟨(World.cell?_of_block (a := ⟨x, 0, none⟩) (hu.2 x hxy.1 hxy.2.1)).trans cx, hW.kk.f1, hW.mm.m0, hW.mm.sv.st.s0, (World.cell?_of_block (a := ⟨y, 0, none⟩) (hu.2 y hxy.2.2.1 hxy.2.2.2)).trans cy⟩)
  have hS0 : (World.cell? wD ⟨x, 0, none⟩ = some (.pointer (some ⟨L.P, 0, none⟩)) ∧ World.cell? wD ⟨L.P, 1, none⟩ = some (.pointer (some ⟨L.mb, 0, none⟩)) ∧ World.cell? wD ⟨L.mb, 0, none⟩ = some (.pointer (some ⟨L.S, 0, none⟩)) ∧ World.cell? wD ⟨L.S, 0, none⟩ = some (.pointer (some ⟨L.a.P, 0, none⟩)) ∧ World.cell? wD ⟨y, 0, none⟩ = some (.slice a m c2)) := ⟨(hbD.cell (p := ⟨x, 0, none⟩) hxy.2.1).trans cx, HD.out.kk.f1, HD.out.mm.m0, HD.out.mm.sv.st.s0, (hbD.cell (p := ⟨y, 0, none⟩) hxy.2.2.2).trans cy⟩
  have HLT := Lib.hid h.lowT
  clear h hs cx cy hbD hE
  go_enter Tryz.func51, Tryz.ntmps51
  go_upto_region 1 with fail
  refine wp_region_noPanic ?_
  refine wp_region_held_drew (S := fun w' => (World.cell? w' ⟨x, 0, none⟩ = some (.pointer (some ⟨L.P, 0, none⟩)) ∧ World.cell? w' ⟨L.P, 1, none⟩ = some (.pointer (some ⟨L.mb, 0, none⟩)) ∧ World.cell? w' ⟨L.mb, 0, none⟩ = some (.pointer (some ⟨L.S, 0, none⟩)) ∧ World.cell? w' ⟨L.S, 0, none⟩ = some (.pointer (some ⟨L.a.P, 0, none⟩)) ∧ World.cell? w' ⟨y, 0, none⟩ = some (.slice a m c2))) (by kernel_rfl) (by rw [← hwD]; exact hS0) (fun hHeld => ?_)
  rw [← hwD] at hHeld ⊢
  clear hwD hS0
  refine wpAnyH_take (i := 0) (v := ?_) (by rfl) (by kernel_rfl) (by kernel_rfl) (by kernel_rfl) (fun _ _ _ h => h) (Or.inl ⟨by kernel_rfl, ?_⟩) (by assumption) ?_; rotate_left 1; (focus (intro w hSw; (try dsimp only at hSw); simp only [List.getElem_toArray, List.getElem_cons_succ, List.getElem_cons_zero]; all_goals go_simp; all_goals (try with_reducible rfl))); (try simp only [Act.put, List.getElem_toArray, List.getElem_cons_succ, List.getElem_cons_zero, List.setIfInBounds_toArray, List.set_cons_zero, List.set_cons_succ])
  refine wpAnyH_take (i := 1) (v := ?_) (by rfl) (by kernel_rfl) (by kernel_rfl) (by kernel_rfl) (fun _ _ _ h => h) (Or.inl ⟨by kernel_rfl, ?_⟩) (by assumption) ?_; rotate_left 1; (focus (intro w hSw; (try dsimp only at hSw); simp only [List.getElem_toArray, List.getElem_cons_succ, List.getElem_cons_zero]; all_goals go_simp; all_goals (try with_reducible rfl))); (try simp only [Act.put, List.getElem_toArray, List.getElem_cons_succ, List.getElem_cons_zero, List.setIfInBounds_toArray, List.set_cons_zero, List.set_cons_succ])
  refine wpAnyH_take (i := 2) (v := ?_) (by rfl) (by kernel_rfl) (by kernel_rfl) (by kernel_rfl) (fun _ _ _ h => h) (Or.inl ⟨by kernel_rfl, ?_⟩) (by assumption) ?_; rotate_left 1; (focus (intro w hSw; (try dsimp only at hSw); simp only [List.getElem_toArray, List.getElem_cons_succ, List.getElem_cons_zero]; all_goals go_simp; all_goals (try with_reducible rfl))); (try simp only [Act.put, List.getElem_toArray, List.getElem_cons_succ, List.getElem_cons_zero, List.setIfInBounds_toArray, List.set_cons_zero, List.set_cons_succ])
  refine wpAnyH_take (i := 3) (v := ?_) (by rfl) (by kernel_rfl) (by kernel_rfl) (by kernel_rfl) (fun _ _ _ h => h) (Or.inl ⟨by kernel_rfl, ?_⟩) (by assumption) ?_; rotate_left 1; (focus (intro w hSw; (try dsimp only at hSw); simp only [List.getElem_toArray, List.getElem_cons_succ, List.getElem_cons_zero]; all_goals go_simp; all_goals (try with_reducible rfl))); (try simp only [Act.put, List.getElem_toArray, List.getElem_cons_succ, List.getElem_cons_zero, List.setIfInBounds_toArray, List.set_cons_zero, List.set_cons_succ])
  refine wpAnyH_take (i := 4) (v := ?_) (by rfl) (by kernel_rfl) (by kernel_rfl) (by kernel_rfl) (fun _ _ _ h => h) (Or.inl ⟨by kernel_rfl, ?_⟩) (by assumption) ?_; rotate_left 1; (focus (intro w hSw; (try dsimp only at hSw); simp only [List.getElem_toArray, List.getElem_cons_succ, List.getElem_cons_zero]; all_goals go_simp; all_goals (try with_reducible rfl))); (try simp only [Act.put, List.getElem_toArray, List.getElem_cons_succ, List.getElem_cons_zero, List.setIfInBounds_toArray, List.set_cons_zero, List.set_cons_succ])
  refine wpAnyH_take (i := 5) (v := ?_) (by rfl) (by kernel_rfl) (by kernel_rfl) (by kernel_rfl) (fun _ _ _ h => h) (Or.inl ⟨by kernel_rfl, ?_⟩) (by assumption) ?_; rotate_left 1; (focus (intro w hSw; (try dsimp only at hSw); simp only [List.getElem_toArray, List.getElem_cons_succ, List.getElem_cons_zero]; all_goals go_simp; all_goals (try with_reducible rfl))); (try simp only [Act.put, List.getElem_toArray, List.getElem_cons_succ, List.getElem_cons_zero, List.setIfInBounds_toArray, List.set_cons_zero, List.set_cons_succ])
  refine wpAnyH_take (i := 6) (v := ?_) (by rfl) (by kernel_rfl) (by kernel_rfl) (by kernel_rfl) (fun _ _ _ h => h) (Or.inl ⟨by kernel_rfl, ?_⟩) (by assumption) ?_; rotate_left 1; (focus (intro w hSw; (try dsimp only at hSw); simp only [List.getElem_toArray, List.getElem_cons_succ, List.getElem_cons_zero]; all_goals go_simp; all_goals (try with_reducible rfl))); (try simp only [Act.put, List.getElem_toArray, List.getElem_cons_succ, List.getElem_cons_zero, List.setIfInBounds_toArray, List.set_cons_zero, List.set_cons_succ])
  refine wpAnyH_take (i := 7) (v := ?_) (by rfl) (by kernel_rfl) (by kernel_rfl) (by kernel_rfl) (fun _ _ _ h => h) (Or.inl ⟨by kernel_rfl, ?_⟩) (by assumption) ?_; rotate_left 1; (focus (intro w hSw; (try dsimp only at hSw); simp only [List.getElem_toArray, List.getElem_cons_succ, List.getElem_cons_zero]; all_goals go_simp; all_goals (try with_reducible rfl))); (try simp only [Act.put, List.getElem_toArray, List.getElem_cons_succ, List.getElem_cons_zero, List.setIfInBounds_toArray, List.set_cons_zero, List.set_cons_succ])
  refine wpAnyH_take (i := 8) (v := ?_) (by rfl) (by kernel_rfl) (by kernel_rfl) (by kernel_rfl) (fun _ _ _ h => h) (Or.inl ⟨by kernel_rfl, ?_⟩) (by assumption) ?_; rotate_left 1; (focus (intro w hSw; (try dsimp only at hSw); simp only [List.getElem_toArray, List.getElem_cons_succ, List.getElem_cons_zero]; all_goals go_simp; all_goals (try with_reducible rfl))); (try simp only [Act.put, List.getElem_toArray, List.getElem_cons_succ, List.getElem_cons_zero, List.setIfInBounds_toArray, List.set_cons_zero, List.set_cons_succ])
  refine wpAnyH_take (i := 9) (v := ?_) (by rfl) (by kernel_rfl) (by kernel_rfl) (by kernel_rfl) (fun _ _ _ h => h) (Or.inl ⟨by kernel_rfl, ?_⟩) (by assumption) ?_; rotate_left 1; (focus (intro w hSw; (try dsimp only at hSw); simp only [List.getElem_toArray, List.getElem_cons_succ, List.getElem_cons_zero]; all_goals go_simp; all_goals (try with_reducible rfl))); (try simp only [Act.put, List.getElem_toArray, List.getElem_cons_succ, List.getElem_cons_zero, List.setIfInBounds_toArray, List.set_cons_zero, List.set_cons_succ])
  refine wpAnyH_take (i := 10) (v := ?_) (by rfl) (by kernel_rfl) (by kernel_rfl) (by kernel_rfl) (fun _ _ _ h => h) (Or.inl ⟨by kernel_rfl, ?_⟩) (by assumption) ?_; rotate_left 1; (focus (intro w hSw; (try dsimp only at hSw); simp only [List.getElem_toArray, List.getElem_cons_succ, List.getElem_cons_zero]; all_goals go_simp; all_goals (try with_reducible rfl))); (try simp only [Act.put, List.getElem_toArray, List.getElem_cons_succ, List.getElem_cons_zero, List.setIfInBounds_toArray, List.set_cons_zero, List.set_cons_succ])
  refine wpAnyH_ready (rs := [11]) (by kernel_rfl) (by simp) ?_; refine AllReadyH.cons (by rfl) (fun K hK => ?_) AllReadyH.nil; rw [if_pos (by kernel_rfl)]; simp only [List.getElem_toArray, List.getElem_cons_succ, List.getElem_cons_zero]
  go_wp2_with (first
    | (go_at_call 52; (with_reducible refine (nmake_ok vs vr a m c2 kk hx hk j hj hyes hno v hv _ HEd.out HD.out.mm.sv.st.nd HSr.out).mono ?_); rintro e w2 ⟨rfl, hP2, hb2⟩; have HB2 := Lib.hid (HBD.out.trans hb2); have HW2 := Lib.hid (HD.out.node hP2 hb2); clear hP2 hb2))
  refine hK.out _ _ (HS7.out _ HW2.out (UpT.pb HB2.out (by have := HLT.out; omega) (by have := HLT.out; omega))) (fun hHeld => ?_)
  clear hK K
  (try simp only [Act.put, List.getElem_toArray, List.getElem_cons_succ, List.getElem_cons_zero, List.setIfInBounds_toArray, List.set_cons_zero, List.set_cons_succ])
  refine wpAnyH_take (i := 12) (v := ?_) (by rfl) (by kernel_rfl) (by kernel_rfl) (by kernel_rfl) (fun _ _ _ h => h) (Or.inl ⟨by kernel_rfl, ?_⟩) (by assumption) ?_; rotate_left 1; (focus (intro w hSw; (try dsimp only at hSw); simp only [List.getElem_toArray, List.getElem_cons_succ, List.getElem_cons_zero]; all_goals go_simp; all_goals (try with_reducible rfl))); (try simp only [Act.put, List.getElem_toArray, List.getElem_cons_succ, List.getElem_cons_zero, List.setIfInBounds_toArray, List.set_cons_zero, List.set_cons_succ])
  refine wpAnyH_take (i := 13) (v := ?_) (by rfl) (by kernel_rfl) (by kernel_rfl) (by kernel_rfl) (fun _ _ _ h => h) (Or.inl ⟨by kernel_rfl, ?_⟩) (by assumption) ?_; rotate_left 1; (focus (intro w hSw; (try dsimp only at hSw); simp only [List.getElem_toArray, List.getElem_cons_succ, List.getElem_cons_zero]; all_goals go_simp; all_goals (try with_reducible rfl))); (try simp only [Act.put, List.getElem_toArray, List.getElem_cons_succ, List.getElem_cons_zero, List.setIfInBounds_toArray, List.set_cons_zero, List.set_cons_succ])
  refine wpAnyH_take (i := 14) (v := ?_) (by rfl) (by kernel_rfl) (by kernel_rfl) (by kernel_rfl) (fun _ _ _ h => h) (Or.inl ⟨by kernel_rfl, ?_⟩) (by assumption) ?_; rotate_left 1; (focus (intro w hSw; (try dsimp only at hSw); simp only [List.getElem_toArray, List.getElem_cons_succ, List.getElem_cons_zero]; all_goals go_simp; all_goals (try with_reducible rfl))); (try simp only [Act.put, List.getElem_toArray, List.getElem_cons_succ, List.getElem_cons_zero, List.setIfInBounds_toArray, List.set_cons_zero, List.set_cons_succ])
  refine wpAnyH_take (i := 15) (v := ?_) (by rfl) (by kernel_rfl) (by kernel_rfl) (by kernel_rfl) (fun _ _ _ h => h) (Or.inl ⟨by kernel_rfl, ?_⟩) (by assumption) ?_; rotate_left 1; (focus (intro w hSw; (try dsimp only at hSw); simp only [List.getElem_toArray, List.getElem_cons_succ, List.getElem_cons_zero]; all_goals go_simp; all_goals (try with_reducible rfl))); (try simp only [Act.put, List.getElem_toArray, List.getElem_cons_succ, List.getElem_cons_zero, List.setIfInBounds_toArray, List.set_cons_zero, List.set_cons_succ])
  refine wpAnyH_take (i := 16) (v := ?_) (by rfl) (by kernel_rfl) (by kernel_rfl) (by kernel_rfl) (fun _ _ _ h => h) (Or.inl ⟨by kernel_rfl, ?_⟩) (by assumption) ?_; rotate_left 1; (focus (intro w hSw; (try dsimp only at hSw); simp only [List.getElem_toArray, List.getElem_cons_succ, List.getElem_cons_zero]; all_goals go_simp; all_goals (try with_reducible rfl))); (try simp only [Act.put, List.getElem_toArray, List.getElem_cons_succ, List.getElem_cons_zero, List.setIfInBounds_toArray, List.set_cons_zero, List.set_cons_succ])
  refine wpAnyH_take (i := 17) (v := ?_) (by rfl) (by kernel_rfl) (by kernel_rfl) (by kernel_rfl) (fun _ _ _ h => h) (Or.inl ⟨by kernel_rfl, ?_⟩) (by assumption) ?_; rotate_left 1; (focus (intro w hSw; (try dsimp only at hSw); simp only [List.getElem_toArray, List.getElem_cons_succ, List.getElem_cons_zero]; all_goals go_simp; all_goals (try with_reducible rfl))); (try simp only [Act.put, List.getElem_toArray, List.getElem_cons_succ, List.getElem_cons_zero, List.setIfInBounds_toArray, List.set_cons_zero, List.set_cons_succ])
  refine wpAnyH_done (by kernel_rfl) ?_ _
  refine NoPanic.normal ?_
  go_wp2_with fail
  go_ret3
  exact ⟨rfl, HW2.out, HB2.out⟩
end Go.Proofs.YtncopdhhchmpeaaGreatDoor
namespace Go.Proofs.YtncopdhhchmpeaaGreatDoor
open Go.ChangeShapes Go.WideShapes Go.ChangeAt Go.RowKit
set_option linter.unusedVariables false
set_option linter.unusedSimpArgs false
def boughtD (D : BSt) (q j : Nat) (v : Int) : BSt := { D with dt := upd D.dt j true, dW := updS D.dW j 0 zsD1, us := addL D.us (chL D.pr q) 1, o3 := upd D.o3 j q, v3 := upd D.v3 j v }
end Go.Proofs.YtncopdhhchmpeaaGreatDoor
namespace Go.Proofs.YtncopdhhchmpeaaGreatDoor
open Go.ChangeShapes Go.WideShapes Go.ChangeAt Go.RowKit
set_option linter.unusedVariables false
set_option linter.unusedSimpArgs false
/-- What lies behind all of it stays, and what lies between the domains and the banks. -/
structure UpM (L : BLoc) (w w' : World) : Prop where
  up : UpT L.T w w'
  win : ∀ k, L.dB ≤ k → k < L.bB → k ≠ L.dR → k ≠ L.dG → k < w.heap.size → w'.heap[k]? = w.heap[k]?
section
variable {w0 w w1 w2 : World} {L : BLoc} {D : BSt}
theorem UpM.trans (h : UpM L w w1) (h2 : UpM L w1 w2) : UpM L w w2 := ⟨h.up.trans h2.up, fun k a b c d e => (h2.win k a b c d (Nat.lt_of_lt_of_le e h.up.1)).trans (h.win k a b c d e)⟩
theorem UpM.below (h : Below w.heap.size w w1) : UpM L w w1 := ⟨UpT.below h, fun k _ _ _ _ e => h.block k e⟩
theorem UpM.pb {B G : Nat} (h : PBelow w w1 B G) (h1 : B < L.T) (h2 : G < L.T) (h3 : B < L.dB ∨ L.bB ≤ B ∨ B = L.dR ∨ B = L.dG) (h4 : G < L.dB ∨ L.bB ≤ G ∨ G = L.dR ∨ G = L.dG) : UpM L w w1 := ⟨UpT.pb h h1 h2, fun k a b c d e => h.2.2.2.2 k e (by omega) (by omega)⟩
theorem UpM.grown {g : Nat} (h : w.grownBy w1 (some g)) (h1 : g < L.T) (h3 : g < L.dB ∨ L.bB ≤ g ∨ g = L.dR ∨ g = L.dG) : UpM L w w1 := ⟨UpT.grown h h1, fun k a b c d e => h.block k e (fun x => by injection x with x; omega)⟩
theorem BW.lowD (h : BW w0 w L D) : L.a.B < L.dB ∧ L.a.G < L.dB ∧ L.b.B < L.dB ∧ L.b.G < L.dB ∧ L.bB ≤ L.A ∧ L.bB ≤ L.G1 ∧ L.bB ≤ L.G2 ∧ L.bB ≤ L.G3 ∧ L.bB ≤ L.B := by
  have h1 := h.mm.lo.n
  have h2 := h.mm.lo.p
  have h3 := h.md
  have h4 := h.kk.ac.lt.1
  have h5 := h.kk.t1.lt.1
  have h6 := h.kk.t2.lt.1
  have h7 := h.kk.t3.lt.1
  have h8 := h.kk.ar.lt.1
  omega
end
set_option maxRecDepth 100000 in
set_option maxHeartbeats 2000000 in
theorem bbuyp_w {w0 : World} {L : BLoc} {D : BSt} (q : Nat) (hq : q < D.nb) (x y j : Nat) (v : Int) (pW' : Nat → Nat → Int) (hj : j < L.b.n) (hfull : Hid ((chL D.pr q).any (fullB D.us D.lm) = false)) (hu : Hid (∀ i, i < L.n → -1000000 ≤ D.us i ∧ D.us i ≤ 1000000)) (w : World) (h : BW w0 w L D)
    (hcl : ∀ W, Below w.heap.size w W → Calls Tryz.prog 60 #[.pointer (some ⟨x, 0, none⟩), .pointer (some ⟨y, 0, none⟩)] W fun e w' => e = .returned (.tuple #[.int .i64 j, .int .i64 v, .nilIface]) ∧ BW w0 w' L { D with pt := upd D.pt j true, pW := pW' } ∧ PBelow W w' L.b.B L.b.G) :
    Calls Tryz.prog 49 #[.pointer (some ⟨L.P, 0, none⟩), .int .i64 (q : Int), .slice (some ⟨L.G2, 0, none⟩) 256 256, .nilIface, (Value.func (.func 60) #[] #[.pointer (some ⟨x, 0, none⟩), .pointer (some ⟨y, 0, none⟩)])] w fun e w' => e = .returned (.tuple #[.int .i64 j, .int .i64 v, .nilIface]) ∧ BW w0 w' L (boughtP D q j v pW') ∧ UpM L w w' := by
  have H := Lib.hid h
  have HCl := Lib.hid hcl
  have hn := h.n256
  have hpn := h.pn
  have hnn := h.nn
  have hin := chL_in h.pk h.nn (by omega) q hq
  obtain ⟨l, hl⟩ : ∃ l, Hid (chL D.pr q = l) := ⟨_, Lib.hid rfl⟩
  rw [hl.out] at hin hfull
  obtain ⟨m, hm⟩ : ∃ m, Hid (l.length = m) := ⟨_, Lib.hid rfl⟩
  have hm1 : m ≤ 1000 := by rw [← hm.out]; omega
  have HIn := Lib.hid hin.1
  have HNd := Lib.hid hin.2.2
  have HPk := Lib.hid h.pk
  have HLT := Lib.hid h.lowT
  have HLD := Lib.hid h.lowD
  have HTT := Lib.hid h.tt
  have HTw := Lib.hid h.tw
  have f0 := h.kk.f0
  have k0 : (0 : Int) ≤ j := by omega
  have k1 : (j : Int) < 256 := by omega
  clear h hcl hin
  go_enter Tryz.func49, Tryz.ntmps49
  go_wp2_with (first
    | (go_at_call 63; (with_reducible refine (athere_in q (by omega) true (Lib.hid (thN_at hq)) _ H.out.kk.ar).mono ?_); rintro e w1 ⟨rfl, rfl⟩)
    | (go_at_call 77; (with_reducible refine (bchain_is (q : Int) D.nb (by omega) (by omega) hnn (Lib.hid (fun i hi => thN_at hi)) HPk _ H.out.kk).mono ?_); rintro e w1 ⟨v9, rfl, hr, hb⟩; rw [hl.out] at hr; obtain ⟨a9, c9, hv9⟩ := own_slice hr m hm; have HRw := Lib.hid (rowT hr hv9 hm.out HTw.out); subst hv9; have H1 := Lib.hid (H.out.below hb); have HB1 := Lib.hid hb; clear hr hb f0)
    | (go_at_call 89; (with_reducible refine (bcf_is l m hm hm1 a9 c9 HIn false hfull _ H1.out.kk (fun i hi => by obtain ⟨g, h1, h2, h3, h4⟩ := HRw.out w1 (UpT.refl _ _) i hi; exact ⟨g, h1, h3, h4⟩)).mono ?_); rintro e w2 ⟨rfl, hb⟩; have HB2 := Lib.hid hb; clear hb)
    | (go_at_call 60; (with_reducible refine (HCl.out _ (HB1.out.trans (HB2.out.mono HB1.out.size))).mono ?_); rintro e w3 ⟨rfl, hW, hb⟩; have H3 := Lib.hid hW; have HU3 := Lib.hid ((UpM.below HB2.out).trans (UpM.pb (L := L) hb (by have := HLT.out; omega) (by have := HLT.out; omega) (by have := HLD.out; omega) (by have := HLD.out; omega))); have ht := hW.kk.t2.ti j (by omega); obtain ⟨c0, c1⟩ := ht; have z0 := hW.kk.t2.fr (j * 2); have z1 := hW.kk.t2.fr (j * 2 + 1); have HS := Lib.hid (hW.kk.t2.title j (by omega) q v); have H4 := Lib.hid (hW.kk.ti2 HS.out.1 HS.out.2); have HU4 := Lib.hid (HU3.out.trans (UpM.grown (L := L) HS.out.2 (by have := HTT.out; omega) (by have := HLD.out; omega))); clear hW hb)
    | (go_at_call 76; (with_reducible refine (bcount_is l m hm hm1 a9 c9 HIn HNd 1 (by decide) hu _ H4.out (fun i hi => by obtain ⟨g, h1, h2, h3, h4⟩ := HRw.out _ HU4.out.up i hi; exact ⟨g, h1, h3, by have := HTT.out; omega, h4⟩)).mono ?_); rintro e w5 ⟨rfl, hB, hg⟩; have H5 := Lib.hid hB; have HG5 := Lib.hid hg; clear hB hg c0 c1 z0 z1))
  go_ret3
  refine ⟨rfl, ?_, ((UpM.below HB1.out).trans HU4.out).trans (UpM.grown (L := L) HG5.out (by have := HTT.out; omega) (by have := HLD.out; omega))⟩
  have hlo : Below L.bB w3 w5 := by
    refine (low_of HS.out.2 H3.out.kk.t2.lt.1 H3.out.bl).trans (low_of HG5.out H3.out.kk.ac.lt.1 ?_)
    exact Nat.le_trans H3.out.bl HS.out.2.size
  refine BW.bank H3.out (D' := boughtP D q j v pW') ?_ hlo rfl HPk.out hnn
  have := H5.out
  rw [← hl.out] at this
  exact this
set_option maxRecDepth 100000 in
set_option maxHeartbeats 2000000 in
theorem bpage_w {w0 : World} {L : BLoc} {D : BSt} (q : Nat) (hq : q < D.nb) (a : Option Addr) (m c2 : Nat) (xs : List Int) (hm : Hid (xs.length = m)) (hx0 : m ≤ 32) (j : Nat) (hj : j < L.b.n) (hyes : Hid (freeB D.pt D.pv j = true)) (hno : Hid (∀ i, i < j → freeB D.pt D.pv i = false)) (v : Int) (hv : Hid (D.pv j = v)) (hfull : Hid ((chL D.pr q).any (fullB D.us D.lm) = false)) (hu : Hid (∀ i, i < L.n → -1000000 ≤ D.us i ∧ D.us i ≤ 1000000)) (w : World) (h : BW w0 w L D) (hs : SrcW L w a xs) :
    Calls Tryz.prog 17 #[.pointer (some ⟨L.P, 0, none⟩), .int .i64 (q : Int), .slice a m c2] w fun e w' => e = .returned (.tuple #[.int .i64 j, .int .i64 v, .nilIface]) ∧ BW w0 w' L (boughtP D q j v (fresh D.pW j xs)) ∧ UpM L w w' := by
  have H := Lib.hid h
  have HS := Lib.hid hs
  have HLT := Lib.hid h.lowT
  have HLD := Lib.hid h.lowD
  have HTw := Lib.hid h.tw
  clear h hs
  go_enter Tryz.func17, Tryz.ntmps17
  go_upto_region 1 with fail
  generalize hw2 : World.alloc (World.alloc w _) _ = w2
  have HB2 : Hid (Below w.heap.size w w2) := Lib.hid (by rw [← hw2]; exact ((Below.refl _ _).alloc (Nat.le_refl _) _).alloc (by simp) _)
  have HX : Hid (∀ W, UpT w.heap.size w2 W → World.cell? W ⟨w.heap.size, 0, none⟩ = some (.pointer (some ⟨L.P, 0, none⟩)) ∧ World.cell? W ⟨w.heap.size + 1, 0, none⟩ = some (.slice a m c2)) := Lib.hid (fun W hu => by
    have e1 : w2.cell? ⟨w.heap.size, 0, none⟩ = some (.pointer (some ⟨L.P, 0, none⟩)) := by rw [← hw2]; simp
    have e2 : w2.cell? ⟨w.heap.size + 1, 0, none⟩ = some (.slice a m c2) := by rw [← hw2]; simp
    have sz : w2.heap.size = w.heap.size + 1 + 1 := by rw [← hw2]; simp
    exact ⟨(World.cell?_of_block (a := ⟨w.heap.size, 0, none⟩) (hu.2 w.heap.size (by omega) (by omega))).trans e1, (World.cell?_of_block (a := ⟨w.heap.size + 1, 0, none⟩) (hu.2 (w.heap.size + 1) (by omega) (by omega))).trans e2⟩)
  have HSz : Hid (w2.heap.size = w.heap.size + 1 + 1) := Lib.hid (by rw [← hw2]; simp)
  clear hw2
  obtain ⟨wD, hwD⟩ : ∃ wD, wD = w2.drew := ⟨_, rfl⟩
  have HBD : Hid (Below w2.heap.size w2 wD) := Lib.hid (by rw [hwD]; exact (Below.refl _ _).drew)
  have HS7 : Hid (∀ W D', BW w0 W L D' → UpT w.heap.size w2 W → (World.cell? W ⟨w.heap.size, 0, none⟩ = some (.pointer (some ⟨L.P, 0, none⟩)) ∧ World.cell? W ⟨L.P, 5, none⟩ = some (.slice (some ⟨L.G2, 0, none⟩) 256 256) ∧ World.cell? W ⟨w.heap.size + 1, 0, none⟩ = some (.slice a m c2))) := Lib.hid (fun W D' hW hu => ⟨(HX.out W hu).1, hW.kk.f5, (HX.out W hu).2⟩)
  have HWD := Lib.hid ((H.out.below HB2.out).below HBD.out)
  have hS0 := HS7.out _ _ HWD.out (UpT.below HBD.out)
  refine wp_region_noPanic ?_
  refine wp_region_held_drew (S := fun w' => (World.cell? w' ⟨w.heap.size, 0, none⟩ = some (.pointer (some ⟨L.P, 0, none⟩)) ∧ World.cell? w' ⟨L.P, 5, none⟩ = some (.slice (some ⟨L.G2, 0, none⟩) 256 256) ∧ World.cell? w' ⟨w.heap.size + 1, 0, none⟩ = some (.slice a m c2))) (by kernel_rfl) (by rw [← hwD]; exact hS0) (fun hHeld => ?_)
  rw [← hwD] at hHeld ⊢
  clear hwD hS0
  refine wpAnyH_take (i := 0) (v := ?_) (by rfl) (by kernel_rfl) (by kernel_rfl) (by kernel_rfl) (fun _ _ _ h => h) (Or.inl ⟨by kernel_rfl, ?_⟩) (by assumption) ?_; rotate_left 1; (focus (intro w hSw; (try dsimp only at hSw); simp only [List.getElem_toArray, List.getElem_cons_succ, List.getElem_cons_zero]; all_goals go_simp; all_goals (try with_reducible rfl))); (try simp only [Act.put, List.getElem_toArray, List.getElem_cons_succ, List.getElem_cons_zero, List.setIfInBounds_toArray, List.set_cons_zero, List.set_cons_succ])
  refine wpAnyH_take (i := 1) (v := ?_) (by rfl) (by kernel_rfl) (by kernel_rfl) (by kernel_rfl) (fun _ _ _ h => h) (Or.inl ⟨by kernel_rfl, ?_⟩) (by assumption) ?_; rotate_left 1; (focus (intro w hSw; (try dsimp only at hSw); simp only [List.getElem_toArray, List.getElem_cons_succ, List.getElem_cons_zero]; all_goals go_simp; all_goals (try with_reducible rfl))); (try simp only [Act.put, List.getElem_toArray, List.getElem_cons_succ, List.getElem_cons_zero, List.setIfInBounds_toArray, List.set_cons_zero, List.set_cons_succ])
  refine wpAnyH_take (i := 2) (v := ?_) (by rfl) (by kernel_rfl) (by kernel_rfl) (by kernel_rfl) (fun _ _ _ h => h) (Or.inl ⟨by kernel_rfl, ?_⟩) (by assumption) ?_; rotate_left 1; (focus (intro w hSw; (try dsimp only at hSw); simp only [List.getElem_toArray, List.getElem_cons_succ, List.getElem_cons_zero]; all_goals go_simp; all_goals (try with_reducible rfl))); (try simp only [Act.put, List.getElem_toArray, List.getElem_cons_succ, List.getElem_cons_zero, List.setIfInBounds_toArray, List.set_cons_zero, List.set_cons_succ])
  refine wpAnyH_take (i := 3) (v := ?_) (by rfl) (by kernel_rfl) (by kernel_rfl) (by kernel_rfl) (fun _ _ _ h => h) (Or.inl ⟨by kernel_rfl, ?_⟩) (by assumption) ?_; rotate_left 1; (focus (intro w hSw; (try dsimp only at hSw); simp only [List.getElem_toArray, List.getElem_cons_succ, List.getElem_cons_zero]; all_goals go_simp; all_goals (try with_reducible rfl))); (try simp only [Act.put, List.getElem_toArray, List.getElem_cons_succ, List.getElem_cons_zero, List.setIfInBounds_toArray, List.set_cons_zero, List.set_cons_succ])
  refine wpAnyH_take (i := 4) (v := ?_) (by rfl) (by kernel_rfl) (by kernel_rfl) (by kernel_rfl) (fun _ _ _ h => h) (Or.inl ⟨by kernel_rfl, ?_⟩) (by assumption) ?_; rotate_left 1; (focus (intro w hSw; (try dsimp only at hSw); simp only [List.getElem_toArray, List.getElem_cons_succ, List.getElem_cons_zero]; all_goals go_simp; all_goals (try with_reducible rfl))); (try simp only [Act.put, List.getElem_toArray, List.getElem_cons_succ, List.getElem_cons_zero, List.setIfInBounds_toArray, List.set_cons_zero, List.set_cons_succ])
  refine wpAnyH_take (i := 5) (v := ?_) (by rfl) (by kernel_rfl) (by kernel_rfl) (by kernel_rfl) (fun _ _ _ h => h) (Or.inl ⟨by kernel_rfl, ?_⟩) (by assumption) ?_; rotate_left 1; (focus (intro w hSw; (try dsimp only at hSw); simp only [List.getElem_toArray, List.getElem_cons_succ, List.getElem_cons_zero]; all_goals go_simp; all_goals (try with_reducible rfl))); (try simp only [Act.put, List.getElem_toArray, List.getElem_cons_succ, List.getElem_cons_zero, List.setIfInBounds_toArray, List.set_cons_zero, List.set_cons_succ])
  refine wpAnyH_take (i := 6) (v := ?_) (by rfl) (by kernel_rfl) (by kernel_rfl) (by kernel_rfl) (fun _ _ _ h => h) (Or.inl ⟨by kernel_rfl, ?_⟩) (by assumption) ?_; rotate_left 1; (focus (intro w hSw; (try dsimp only at hSw); simp only [List.getElem_toArray, List.getElem_cons_succ, List.getElem_cons_zero]; all_goals go_simp; all_goals (try with_reducible rfl))); (try simp only [Act.put, List.getElem_toArray, List.getElem_cons_succ, List.getElem_cons_zero, List.setIfInBounds_toArray, List.set_cons_zero, List.set_cons_succ])
  refine wpAnyH_take (i := 8) (v := ?_) (by rfl) (by kernel_rfl) (by kernel_rfl) (by kernel_rfl) (fun _ _ _ h => h) (Or.inl ⟨by kernel_rfl, ?_⟩) (by assumption) ?_; rotate_left 1; (focus (intro w hSw; (try dsimp only at hSw); simp only [List.getElem_toArray, List.getElem_cons_succ, List.getElem_cons_zero]; all_goals go_simp; all_goals (try with_reducible rfl))); (try simp only [Act.put, List.getElem_toArray, List.getElem_cons_succ, List.getElem_cons_zero, List.setIfInBounds_toArray, List.set_cons_zero, List.set_cons_succ])
  refine wpAnyH_ready (rs := [7]) (by kernel_rfl) (by simp) ?_; refine AllReadyH.cons (by rfl) (fun K hK => ?_) AllReadyH.nil; rw [if_pos (by kernel_rfl)]; simp only [List.getElem_toArray, List.getElem_cons_succ, List.getElem_cons_zero]
  go_wp2_with (first
    | (go_at_call 59; (with_reducible refine (bpageof_ok a m c2 xs hm hx0 _ (fun B G hB hG => HS.out.run _ (HB2.out.trans (HBD.out.mono HB2.out.size)) B G (.inr (Nat.le_trans (Nat.le_trans HB2.out.size HBD.out.size) hB)) (.inr (Nat.le_trans (Nat.le_trans HB2.out.size HBD.out.size) hG)))).mono ?_); rintro e w3 ⟨rfl, hb⟩; have HB3 := Lib.hid (HBD.out.trans (hb.mono HBD.out.size)); have HW3 := Lib.hid (HWD.out.below hb); clear hb))
  refine hK.out _ _ (HS7.out _ _ HW3.out (UpT.below HB3.out)) (fun hHeld => ?_)
  clear hK K
  (try simp only [Act.put, List.getElem_toArray, List.getElem_cons_succ, List.getElem_cons_zero, List.setIfInBounds_toArray, List.set_cons_zero, List.set_cons_succ])
  refine wpAnyH_ready (rs := [9]) (by kernel_rfl) (by simp) ?_; refine AllReadyH.cons (by rfl) (fun K hK => ?_) AllReadyH.nil; rw [if_pos (by kernel_rfl)]; simp only [List.getElem_toArray, List.getElem_cons_succ, List.getElem_cons_zero]
  have HCl : Hid (∀ W, Below w3.heap.size w3 W → Calls Tryz.prog 60 #[.pointer (some ⟨w.heap.size, 0, none⟩), .pointer (some ⟨w.heap.size + 1, 0, none⟩)] W fun e w' => e = .returned (.tuple #[.int .i64 j, .int .i64 v, .nilIface]) ∧ BW w0 w' L { D with pt := upd D.pt j true, pW := fresh D.pW j xs } ∧ PBelow W w' L.b.B L.b.G) := Lib.hid (fun W hb => by
    have hbw : Below w2.heap.size w2 W := HB3.out.trans (hb.mono HB3.out.size)
    have hx := HX.out W (UpT.below hbw)
    have h1 := hbw.size
    have h2 := HSz.out
    have h3 := HTw.out
    have h4 := HLT.out
    exact bpgcl_ok w.heap.size (w.heap.size + 1) a m c2 xs hm hx0 j hj hyes hno v hv W (HW3.out.below hb) (by omega) hx.1 hx.2 (HS.out.run W (HB2.out.trans (hbw.mono HB2.out.size)) _ _ (.inl (by omega)) (.inl (by omega))))
  go_wp2_with (first
    | (go_at_call 49; (with_reducible refine (bbuyp_w q hq w.heap.size (w.heap.size + 1) j v _ hj hfull hu _ HW3.out HCl.out).mono ?_); rintro e w4 ⟨rfl, hW, hu4⟩; have HW4 := Lib.hid hW; have HU4 := Lib.hid hu4; clear hW hu4))
  refine hK.out _ _ (HS7.out _ _ HW4.out ((UpT.below HB3.out).trans ⟨HU4.out.up.1, fun k h1 h2 => HU4.out.up.2 k (Nat.le_trans HTw.out h1) h2⟩)) (fun hHeld => ?_)
  clear hK K
  (try simp only [Act.put, List.getElem_toArray, List.getElem_cons_succ, List.getElem_cons_zero, List.setIfInBounds_toArray, List.set_cons_zero, List.set_cons_succ])
  refine wpAnyH_take (i := 10) (v := ?_) (by rfl) (by kernel_rfl) (by kernel_rfl) (by kernel_rfl) (fun _ _ _ h => h) (Or.inl ⟨by kernel_rfl, ?_⟩) (by assumption) ?_; rotate_left 1; (focus (intro w hSw; (try dsimp only at hSw); simp only [List.getElem_toArray, List.getElem_cons_succ, List.getElem_cons_zero]; all_goals go_simp; all_goals (try with_reducible rfl))); (try simp only [Act.put, List.getElem_toArray, List.getElem_cons_succ, List.getElem_cons_zero, List.setIfInBounds_toArray, List.set_cons_zero, List.set_cons_succ])
  refine wpAnyH_take (i := 11) (v := ?_) (by rfl) (by kernel_rfl) (by kernel_rfl) (by kernel_rfl) (fun _ _ _ h => h) (Or.inl ⟨by kernel_rfl, ?_⟩) (by assumption) ?_; rotate_left 1; (focus (intro w hSw; (try dsimp only at hSw); simp only [List.getElem_toArray, List.getElem_cons_succ, List.getElem_cons_zero]; all_goals go_simp; all_goals (try with_reducible rfl))); (try simp only [Act.put, List.getElem_toArray, List.getElem_cons_succ, List.getElem_cons_zero, List.setIfInBounds_toArray, List.set_cons_zero, List.set_cons_succ])
  refine wpAnyH_take (i := 12) (v := ?_) (by rfl) (by kernel_rfl) (by kernel_rfl) (by kernel_rfl) (fun _ _ _ h => h) (Or.inl ⟨by kernel_rfl, ?_⟩) (by assumption) ?_; rotate_left 1; (focus (intro w hSw; (try dsimp only at hSw); simp only [List.getElem_toArray, List.getElem_cons_succ, List.getElem_cons_zero]; all_goals go_simp; all_goals (try with_reducible rfl))); (try simp only [Act.put, List.getElem_toArray, List.getElem_cons_succ, List.getElem_cons_zero, List.setIfInBounds_toArray, List.set_cons_zero, List.set_cons_succ])
  refine wpAnyH_take (i := 13) (v := ?_) (by rfl) (by kernel_rfl) (by kernel_rfl) (by kernel_rfl) (fun _ _ _ h => h) (Or.inl ⟨by kernel_rfl, ?_⟩) (by assumption) ?_; rotate_left 1; (focus (intro w hSw; (try dsimp only at hSw); simp only [List.getElem_toArray, List.getElem_cons_succ, List.getElem_cons_zero]; all_goals go_simp; all_goals (try with_reducible rfl))); (try simp only [Act.put, List.getElem_toArray, List.getElem_cons_succ, List.getElem_cons_zero, List.setIfInBounds_toArray, List.set_cons_zero, List.set_cons_succ])
  refine wpAnyH_take (i := 14) (v := ?_) (by rfl) (by kernel_rfl) (by kernel_rfl) (by kernel_rfl) (fun _ _ _ h => h) (Or.inl ⟨by kernel_rfl, ?_⟩) (by assumption) ?_; rotate_left 1; (focus (intro w hSw; (try dsimp only at hSw); simp only [List.getElem_toArray, List.getElem_cons_succ, List.getElem_cons_zero]; all_goals go_simp; all_goals (try with_reducible rfl))); (try simp only [Act.put, List.getElem_toArray, List.getElem_cons_succ, List.getElem_cons_zero, List.setIfInBounds_toArray, List.set_cons_zero, List.set_cons_succ])
  refine wpAnyH_take (i := 15) (v := ?_) (by rfl) (by kernel_rfl) (by kernel_rfl) (by kernel_rfl) (fun _ _ _ h => h) (Or.inl ⟨by kernel_rfl, ?_⟩) (by assumption) ?_; rotate_left 1; (focus (intro w hSw; (try dsimp only at hSw); simp only [List.getElem_toArray, List.getElem_cons_succ, List.getElem_cons_zero]; all_goals go_simp; all_goals (try with_reducible rfl))); (try simp only [Act.put, List.getElem_toArray, List.getElem_cons_succ, List.getElem_cons_zero, List.setIfInBounds_toArray, List.set_cons_zero, List.set_cons_succ])
  refine wpAnyH_done (by kernel_rfl) ?_ _
  refine NoPanic.normal ?_
  go_wp2_with fail
  go_ret3
  exact ⟨rfl, HW4.out, ((UpM.below HB2.out).trans (UpM.below HB3.out)).trans HU4.out⟩
set_option maxRecDepth 100000 in
set_option maxHeartbeats 2000000 in
theorem bbuyn_w {w0 : World} {L : BLoc} {D : BSt} (q : Nat) (hq : q < D.nb) (x y j : Nat) (v : Int) (nW' : Nat → Nat → Value) (hj : j < L.a.n) (hfull : Hid ((chL D.pr q).any (fullB D.us D.lm) = false)) (hu : Hid (∀ i, i < L.n → -1000000 ≤ D.us i ∧ D.us i ≤ 1000000)) (w : World) (h : BW w0 w L D)
    (hcl : ∀ W, Below w.heap.size w W → Calls Tryz.prog 51 #[.pointer (some ⟨x, 0, none⟩), .pointer (some ⟨y, 0, none⟩)] W fun e w' => e = .returned (.tuple #[.int .i64 j, .int .i64 v, .nilIface]) ∧ BW w0 w' L { D with nt := upd D.nt j true, nW := nW' } ∧ PBelow W w' L.a.B L.a.G) :
    Calls Tryz.prog 49 #[.pointer (some ⟨L.P, 0, none⟩), .int .i64 (q : Int), .slice (some ⟨L.G1, 0, none⟩) 256 256, .nilIface, (Value.func (.func 51) #[] #[.pointer (some ⟨x, 0, none⟩), .pointer (some ⟨y, 0, none⟩)])] w fun e w' => e = .returned (.tuple #[.int .i64 j, .int .i64 v, .nilIface]) ∧ BW w0 w' L (boughtN D q j v nW') ∧ UpM L w w' := by
  have H := Lib.hid h
  have HCl := Lib.hid hcl
  have hn := h.n256
  have hpn := h.an
  have hnn := h.nn
  have hin := chL_in h.pk h.nn (by omega) q hq
  obtain ⟨l, hl⟩ : ∃ l, Hid (chL D.pr q = l) := ⟨_, Lib.hid rfl⟩
  rw [hl.out] at hin hfull
  obtain ⟨m, hm⟩ : ∃ m, Hid (l.length = m) := ⟨_, Lib.hid rfl⟩
  have hm1 : m ≤ 1000 := by rw [← hm.out]; omega
  have HIn := Lib.hid hin.1
  have HNd := Lib.hid hin.2.2
  have HPk := Lib.hid h.pk
  have HLT := Lib.hid h.lowT
  have HLD := Lib.hid h.lowD
  have HTT := Lib.hid h.tt
  have HTw := Lib.hid h.tw
  have f0 := h.kk.f0
  have k0 : (0 : Int) ≤ j := by omega
  have k1 : (j : Int) < 256 := by omega
  clear h hcl hin
  go_enter Tryz.func49, Tryz.ntmps49
  go_wp2_with (first
    | (go_at_call 63; (with_reducible refine (athere_in q (by omega) true (Lib.hid (thN_at hq)) _ H.out.kk.ar).mono ?_); rintro e w1 ⟨rfl, rfl⟩)
    | (go_at_call 77; (with_reducible refine (bchain_is (q : Int) D.nb (by omega) (by omega) hnn (Lib.hid (fun i hi => thN_at hi)) HPk _ H.out.kk).mono ?_); rintro e w1 ⟨v9, rfl, hr, hb⟩; rw [hl.out] at hr; obtain ⟨a9, c9, hv9⟩ := own_slice hr m hm; have HRw := Lib.hid (rowT hr hv9 hm.out HTw.out); subst hv9; have H1 := Lib.hid (H.out.below hb); have HB1 := Lib.hid hb; clear hr hb f0)
    | (go_at_call 89; (with_reducible refine (bcf_is l m hm hm1 a9 c9 HIn false hfull _ H1.out.kk (fun i hi => by obtain ⟨g, h1, h2, h3, h4⟩ := HRw.out w1 (UpT.refl _ _) i hi; exact ⟨g, h1, h3, h4⟩)).mono ?_); rintro e w2 ⟨rfl, hb⟩; have HB2 := Lib.hid hb; clear hb)
    | (go_at_call 51; (with_reducible refine (HCl.out _ (HB1.out.trans (HB2.out.mono HB1.out.size))).mono ?_); rintro e w3 ⟨rfl, hW, hb⟩; have H3 := Lib.hid hW; have HU3 := Lib.hid ((UpM.below HB2.out).trans (UpM.pb (L := L) hb (by have := HLT.out; omega) (by have := HLT.out; omega) (by have := HLD.out; omega) (by have := HLD.out; omega))); have ht := hW.kk.t1.ti j (by omega); obtain ⟨c0, c1⟩ := ht; have z0 := hW.kk.t1.fr (j * 2); have z1 := hW.kk.t1.fr (j * 2 + 1); have HS := Lib.hid (hW.kk.t1.title j (by omega) q v); have H4 := Lib.hid (hW.kk.ti1 HS.out.1 HS.out.2); have HU4 := Lib.hid (HU3.out.trans (UpM.grown (L := L) HS.out.2 (by have := HTT.out; omega) (by have := HLD.out; omega))); clear hW hb)
    | (go_at_call 76; (with_reducible refine (bcount_is l m hm hm1 a9 c9 HIn HNd 1 (by decide) hu _ H4.out (fun i hi => by obtain ⟨g, h1, h2, h3, h4⟩ := HRw.out _ HU4.out.up i hi; exact ⟨g, h1, h3, by have := HTT.out; omega, h4⟩)).mono ?_); rintro e w5 ⟨rfl, hB, hg⟩; have H5 := Lib.hid hB; have HG5 := Lib.hid hg; clear hB hg c0 c1 z0 z1))
  go_ret3
  refine ⟨rfl, ?_, ((UpM.below HB1.out).trans HU4.out).trans (UpM.grown (L := L) HG5.out (by have := HTT.out; omega) (by have := HLD.out; omega))⟩
  have hlo : Below L.bB w3 w5 := by
    refine (low_of HS.out.2 H3.out.kk.t1.lt.1 H3.out.bl).trans (low_of HG5.out H3.out.kk.ac.lt.1 ?_)
    exact Nat.le_trans H3.out.bl HS.out.2.size
  refine BW.bank H3.out (D' := boughtN D q j v nW') ?_ hlo rfl HPk.out hnn
  have := H5.out
  rw [← hl.out] at this
  exact this
set_option maxRecDepth 100000 in
set_option maxHeartbeats 2000000 in
theorem bnode_w {w0 : World} {L : BLoc} {D : BSt} (q : Nat) (hq : q < D.nb) (vs vr : Value) (a : Option Addr) (m c2 : Nat) (kk : Nat → Nat → Int) (hk : Hid (∀ i, i < m → KRight kk i)) (hx0 : m ≤ 16) (j : Nat) (hj : j < L.a.n) (hyes : Hid (freeB D.nt D.nv j = true)) (hno : Hid (∀ i, i < j → freeB D.nt D.nv i = false)) (v : Int) (hv : Hid (D.nv j = v)) (hfull : Hid ((chL D.pr q).any (fullB D.us D.lm) = false)) (hu : Hid (∀ i, i < L.n → -1000000 ≤ D.us i ∧ D.us i ≤ 1000000)) (w : World) (h : BW w0 w L D) (hE : ErrsAt vs vr w) (hs : SrcV L w a m kk) :
    Calls Tryz.prog 15 #[.pointer (some ⟨L.P, 0, none⟩), .int .i64 (q : Int), .slice a m c2] w fun e w' => e = .returned (.tuple #[.int .i64 j, .int .i64 v, .nilIface]) ∧ BW w0 w' L (boughtN D q j v (freshV D.nW j (kcs kk m))) ∧ UpM L w w' := by
  have H := Lib.hid h
  have HS := Lib.hid hs
  have HLT := Lib.hid h.lowT
  have HLD := Lib.hid h.lowD
  have HTw := Lib.hid h.tw
  have HE := Lib.hid hE
  clear h hs hE
  go_enter Tryz.func15, Tryz.ntmps15
  go_upto_region 1 with fail
  generalize hw2 : World.alloc (World.alloc w _) _ = w2
  have HB2 : Hid (Below w.heap.size w w2) := Lib.hid (by rw [← hw2]; exact ((Below.refl _ _).alloc (Nat.le_refl _) _).alloc (by simp) _)
  have HX : Hid (∀ W, UpT w.heap.size w2 W → World.cell? W ⟨w.heap.size, 0, none⟩ = some (.pointer (some ⟨L.P, 0, none⟩)) ∧ World.cell? W ⟨w.heap.size + 1, 0, none⟩ = some (.slice a m c2)) := Lib.hid (fun W hu => by
    have e1 : w2.cell? ⟨w.heap.size, 0, none⟩ = some (.pointer (some ⟨L.P, 0, none⟩)) := by rw [← hw2]; simp
    have e2 : w2.cell? ⟨w.heap.size + 1, 0, none⟩ = some (.slice a m c2) := by rw [← hw2]; simp
    have sz : w2.heap.size = w.heap.size + 1 + 1 := by rw [← hw2]; simp
    exact ⟨(World.cell?_of_block (a := ⟨w.heap.size, 0, none⟩) (hu.2 w.heap.size (by omega) (by omega))).trans e1, (World.cell?_of_block (a := ⟨w.heap.size + 1, 0, none⟩) (hu.2 (w.heap.size + 1) (by omega) (by omega))).trans e2⟩)
  have HSz : Hid (w2.heap.size = w.heap.size + 1 + 1) := Lib.hid (by rw [← hw2]; simp)
  clear hw2
  obtain ⟨wD, hwD⟩ : ∃ wD, wD = w2.drew := ⟨_, rfl⟩
  have HBD : Hid (Below w2.heap.size w2 wD) := Lib.hid (by rw [hwD]; exact (Below.refl _ _).drew)
  have HS7 : Hid (∀ W D', BW w0 W L D' → UpT w.heap.size w2 W → (World.cell? W ⟨w.heap.size, 0, none⟩ = some (.pointer (some ⟨L.P, 0, none⟩)) ∧ World.cell? W ⟨L.P, 4, none⟩ = some (.slice (some ⟨L.G1, 0, none⟩) 256 256) ∧ World.cell? W ⟨w.heap.size + 1, 0, none⟩ = some (.slice a m c2))) := Lib.hid (fun W D' hW hu => ⟨(HX.out W hu).1, hW.kk.f4, (HX.out W hu).2⟩)
  have HWD := Lib.hid ((H.out.below HB2.out).below HBD.out)
  have HEd := Lib.hid ((HE.out.up HB2.out).up HBD.out)
  have hS0 := HS7.out _ _ HWD.out (UpT.below HBD.out)
  refine wp_region_noPanic ?_
  refine wp_region_held_drew (S := fun w' => (World.cell? w' ⟨w.heap.size, 0, none⟩ = some (.pointer (some ⟨L.P, 0, none⟩)) ∧ World.cell? w' ⟨L.P, 4, none⟩ = some (.slice (some ⟨L.G1, 0, none⟩) 256 256) ∧ World.cell? w' ⟨w.heap.size + 1, 0, none⟩ = some (.slice a m c2))) (by kernel_rfl) (by rw [← hwD]; exact hS0) (fun hHeld => ?_)
  rw [← hwD] at hHeld ⊢
  clear hwD hS0
  refine wpAnyH_take (i := 0) (v := ?_) (by rfl) (by kernel_rfl) (by kernel_rfl) (by kernel_rfl) (fun _ _ _ h => h) (Or.inl ⟨by kernel_rfl, ?_⟩) (by assumption) ?_; rotate_left 1; (focus (intro w hSw; (try dsimp only at hSw); simp only [List.getElem_toArray, List.getElem_cons_succ, List.getElem_cons_zero]; all_goals go_simp; all_goals (try with_reducible rfl))); (try simp only [Act.put, List.getElem_toArray, List.getElem_cons_succ, List.getElem_cons_zero, List.setIfInBounds_toArray, List.set_cons_zero, List.set_cons_succ])
  refine wpAnyH_take (i := 1) (v := ?_) (by rfl) (by kernel_rfl) (by kernel_rfl) (by kernel_rfl) (fun _ _ _ h => h) (Or.inl ⟨by kernel_rfl, ?_⟩) (by assumption) ?_; rotate_left 1; (focus (intro w hSw; (try dsimp only at hSw); simp only [List.getElem_toArray, List.getElem_cons_succ, List.getElem_cons_zero]; all_goals go_simp; all_goals (try with_reducible rfl))); (try simp only [Act.put, List.getElem_toArray, List.getElem_cons_succ, List.getElem_cons_zero, List.setIfInBounds_toArray, List.set_cons_zero, List.set_cons_succ])
  refine wpAnyH_take (i := 2) (v := ?_) (by rfl) (by kernel_rfl) (by kernel_rfl) (by kernel_rfl) (fun _ _ _ h => h) (Or.inl ⟨by kernel_rfl, ?_⟩) (by assumption) ?_; rotate_left 1; (focus (intro w hSw; (try dsimp only at hSw); simp only [List.getElem_toArray, List.getElem_cons_succ, List.getElem_cons_zero]; all_goals go_simp; all_goals (try with_reducible rfl))); (try simp only [Act.put, List.getElem_toArray, List.getElem_cons_succ, List.getElem_cons_zero, List.setIfInBounds_toArray, List.set_cons_zero, List.set_cons_succ])
  refine wpAnyH_take (i := 3) (v := ?_) (by rfl) (by kernel_rfl) (by kernel_rfl) (by kernel_rfl) (fun _ _ _ h => h) (Or.inl ⟨by kernel_rfl, ?_⟩) (by assumption) ?_; rotate_left 1; (focus (intro w hSw; (try dsimp only at hSw); simp only [List.getElem_toArray, List.getElem_cons_succ, List.getElem_cons_zero]; all_goals go_simp; all_goals (try with_reducible rfl))); (try simp only [Act.put, List.getElem_toArray, List.getElem_cons_succ, List.getElem_cons_zero, List.setIfInBounds_toArray, List.set_cons_zero, List.set_cons_succ])
  refine wpAnyH_take (i := 4) (v := ?_) (by rfl) (by kernel_rfl) (by kernel_rfl) (by kernel_rfl) (fun _ _ _ h => h) (Or.inl ⟨by kernel_rfl, ?_⟩) (by assumption) ?_; rotate_left 1; (focus (intro w hSw; (try dsimp only at hSw); simp only [List.getElem_toArray, List.getElem_cons_succ, List.getElem_cons_zero]; all_goals go_simp; all_goals (try with_reducible rfl))); (try simp only [Act.put, List.getElem_toArray, List.getElem_cons_succ, List.getElem_cons_zero, List.setIfInBounds_toArray, List.set_cons_zero, List.set_cons_succ])
  refine wpAnyH_take (i := 5) (v := ?_) (by rfl) (by kernel_rfl) (by kernel_rfl) (by kernel_rfl) (fun _ _ _ h => h) (Or.inl ⟨by kernel_rfl, ?_⟩) (by assumption) ?_; rotate_left 1; (focus (intro w hSw; (try dsimp only at hSw); simp only [List.getElem_toArray, List.getElem_cons_succ, List.getElem_cons_zero]; all_goals go_simp; all_goals (try with_reducible rfl))); (try simp only [Act.put, List.getElem_toArray, List.getElem_cons_succ, List.getElem_cons_zero, List.setIfInBounds_toArray, List.set_cons_zero, List.set_cons_succ])
  refine wpAnyH_take (i := 6) (v := ?_) (by rfl) (by kernel_rfl) (by kernel_rfl) (by kernel_rfl) (fun _ _ _ h => h) (Or.inl ⟨by kernel_rfl, ?_⟩) (by assumption) ?_; rotate_left 1; (focus (intro w hSw; (try dsimp only at hSw); simp only [List.getElem_toArray, List.getElem_cons_succ, List.getElem_cons_zero]; all_goals go_simp; all_goals (try with_reducible rfl))); (try simp only [Act.put, List.getElem_toArray, List.getElem_cons_succ, List.getElem_cons_zero, List.setIfInBounds_toArray, List.set_cons_zero, List.set_cons_succ])
  refine wpAnyH_take (i := 8) (v := ?_) (by rfl) (by kernel_rfl) (by kernel_rfl) (by kernel_rfl) (fun _ _ _ h => h) (Or.inl ⟨by kernel_rfl, ?_⟩) (by assumption) ?_; rotate_left 1; (focus (intro w hSw; (try dsimp only at hSw); simp only [List.getElem_toArray, List.getElem_cons_succ, List.getElem_cons_zero]; all_goals go_simp; all_goals (try with_reducible rfl))); (try simp only [Act.put, List.getElem_toArray, List.getElem_cons_succ, List.getElem_cons_zero, List.setIfInBounds_toArray, List.set_cons_zero, List.set_cons_succ])
  refine wpAnyH_ready (rs := [7]) (by kernel_rfl) (by simp) ?_; refine AllReadyH.cons (by rfl) (fun K hK => ?_) AllReadyH.nil; rw [if_pos (by kernel_rfl)]; simp only [List.getElem_toArray, List.getElem_cons_succ, List.getElem_cons_zero]
  go_wp2_with (first
    | (go_at_call 50; (with_reducible refine (bnodeof_ok vs vr a m c2 kk hk hx0 _ HEd.out (fun B G hB hG => HS.out.run _ (HB2.out.trans (HBD.out.mono HB2.out.size)) B G (.inr (Nat.le_trans (Nat.le_trans HB2.out.size HBD.out.size) hB)) (.inr (Nat.le_trans (Nat.le_trans HB2.out.size HBD.out.size) hG)))).mono ?_); rintro e w3 ⟨rfl, hb⟩; have HB3 := Lib.hid (HBD.out.trans (hb.mono HBD.out.size)); have HW3 := Lib.hid (HWD.out.below hb); clear hb))
  refine hK.out _ _ (HS7.out _ _ HW3.out (UpT.below HB3.out)) (fun hHeld => ?_)
  clear hK K
  (try simp only [Act.put, List.getElem_toArray, List.getElem_cons_succ, List.getElem_cons_zero, List.setIfInBounds_toArray, List.set_cons_zero, List.set_cons_succ])
  refine wpAnyH_ready (rs := [9]) (by kernel_rfl) (by simp) ?_; refine AllReadyH.cons (by rfl) (fun K hK => ?_) AllReadyH.nil; rw [if_pos (by kernel_rfl)]; simp only [List.getElem_toArray, List.getElem_cons_succ, List.getElem_cons_zero]
  have HCl : Hid (∀ W, Below w3.heap.size w3 W → Calls Tryz.prog 51 #[.pointer (some ⟨w.heap.size, 0, none⟩), .pointer (some ⟨w.heap.size + 1, 0, none⟩)] W fun e w' => e = .returned (.tuple #[.int .i64 j, .int .i64 v, .nilIface]) ∧ BW w0 w' L { D with nt := upd D.nt j true, nW := freshV D.nW j (kcs kk m) } ∧ PBelow W w' L.a.B L.a.G) := Lib.hid (fun W hb => by
    have hbw : Below w2.heap.size w2 W := HB3.out.trans (hb.mono HB3.out.size)
    have hx := HX.out W (UpT.below hbw)
    have h1 := hbw.size
    have h2 := HSz.out
    have h3 := HTw.out
    have h4 := HLT.out
    exact bndcl_ok w.heap.size (w.heap.size + 1) vs vr a m c2 kk hk hx0 j hj hyes hno v hv W (HW3.out.below hb) (by omega) hx.1 hx.2 ((HE.out.up (HB2.out.trans (hbw.mono HB2.out.size)))) (HS.out.run W (HB2.out.trans (hbw.mono HB2.out.size)) _ _ (.inl (by omega)) (.inl (by omega))))
  go_wp2_with (first
    | (go_at_call 49; (with_reducible refine (bbuyn_w q hq w.heap.size (w.heap.size + 1) j v _ hj hfull hu _ HW3.out HCl.out).mono ?_); rintro e w4 ⟨rfl, hW, hu4⟩; have HW4 := Lib.hid hW; have HU4 := Lib.hid hu4; clear hW hu4))
  refine hK.out _ _ (HS7.out _ _ HW4.out ((UpT.below HB3.out).trans ⟨HU4.out.up.1, fun k h1 h2 => HU4.out.up.2 k (Nat.le_trans HTw.out h1) h2⟩)) (fun hHeld => ?_)
  clear hK K
  (try simp only [Act.put, List.getElem_toArray, List.getElem_cons_succ, List.getElem_cons_zero, List.setIfInBounds_toArray, List.set_cons_zero, List.set_cons_succ])
  refine wpAnyH_take (i := 10) (v := ?_) (by rfl) (by kernel_rfl) (by kernel_rfl) (by kernel_rfl) (fun _ _ _ h => h) (Or.inl ⟨by kernel_rfl, ?_⟩) (by assumption) ?_; rotate_left 1; (focus (intro w hSw; (try dsimp only at hSw); simp only [List.getElem_toArray, List.getElem_cons_succ, List.getElem_cons_zero]; all_goals go_simp; all_goals (try with_reducible rfl))); (try simp only [Act.put, List.getElem_toArray, List.getElem_cons_succ, List.getElem_cons_zero, List.setIfInBounds_toArray, List.set_cons_zero, List.set_cons_succ])
  refine wpAnyH_take (i := 11) (v := ?_) (by rfl) (by kernel_rfl) (by kernel_rfl) (by kernel_rfl) (fun _ _ _ h => h) (Or.inl ⟨by kernel_rfl, ?_⟩) (by assumption) ?_; rotate_left 1; (focus (intro w hSw; (try dsimp only at hSw); simp only [List.getElem_toArray, List.getElem_cons_succ, List.getElem_cons_zero]; all_goals go_simp; all_goals (try with_reducible rfl))); (try simp only [Act.put, List.getElem_toArray, List.getElem_cons_succ, List.getElem_cons_zero, List.setIfInBounds_toArray, List.set_cons_zero, List.set_cons_succ])
  refine wpAnyH_take (i := 12) (v := ?_) (by rfl) (by kernel_rfl) (by kernel_rfl) (by kernel_rfl) (fun _ _ _ h => h) (Or.inl ⟨by kernel_rfl, ?_⟩) (by assumption) ?_; rotate_left 1; (focus (intro w hSw; (try dsimp only at hSw); simp only [List.getElem_toArray, List.getElem_cons_succ, List.getElem_cons_zero]; all_goals go_simp; all_goals (try with_reducible rfl))); (try simp only [Act.put, List.getElem_toArray, List.getElem_cons_succ, List.getElem_cons_zero, List.setIfInBounds_toArray, List.set_cons_zero, List.set_cons_succ])
  refine wpAnyH_take (i := 13) (v := ?_) (by rfl) (by kernel_rfl) (by kernel_rfl) (by kernel_rfl) (fun _ _ _ h => h) (Or.inl ⟨by kernel_rfl, ?_⟩) (by assumption) ?_; rotate_left 1; (focus (intro w hSw; (try dsimp only at hSw); simp only [List.getElem_toArray, List.getElem_cons_succ, List.getElem_cons_zero]; all_goals go_simp; all_goals (try with_reducible rfl))); (try simp only [Act.put, List.getElem_toArray, List.getElem_cons_succ, List.getElem_cons_zero, List.setIfInBounds_toArray, List.set_cons_zero, List.set_cons_succ])
  refine wpAnyH_take (i := 14) (v := ?_) (by rfl) (by kernel_rfl) (by kernel_rfl) (by kernel_rfl) (fun _ _ _ h => h) (Or.inl ⟨by kernel_rfl, ?_⟩) (by assumption) ?_; rotate_left 1; (focus (intro w hSw; (try dsimp only at hSw); simp only [List.getElem_toArray, List.getElem_cons_succ, List.getElem_cons_zero]; all_goals go_simp; all_goals (try with_reducible rfl))); (try simp only [Act.put, List.getElem_toArray, List.getElem_cons_succ, List.getElem_cons_zero, List.setIfInBounds_toArray, List.set_cons_zero, List.set_cons_succ])
  refine wpAnyH_take (i := 15) (v := ?_) (by rfl) (by kernel_rfl) (by kernel_rfl) (by kernel_rfl) (fun _ _ _ h => h) (Or.inl ⟨by kernel_rfl, ?_⟩) (by assumption) ?_; rotate_left 1; (focus (intro w hSw; (try dsimp only at hSw); simp only [List.getElem_toArray, List.getElem_cons_succ, List.getElem_cons_zero]; all_goals go_simp; all_goals (try with_reducible rfl))); (try simp only [Act.put, List.getElem_toArray, List.getElem_cons_succ, List.getElem_cons_zero, List.setIfInBounds_toArray, List.set_cons_zero, List.set_cons_succ])
  refine wpAnyH_done (by kernel_rfl) ?_ _
  refine NoPanic.normal ?_
  go_wp2_with fail
  go_ret3
  exact ⟨rfl, HW4.out, ((UpM.below HB2.out).trans (UpM.below HB3.out)).trans HU4.out⟩
set_option maxRecDepth 100000 in
set_option maxHeartbeats 2000000 in
theorem bbuyd_w {w0 : World} {L : BLoc} {D : BSt} (q : Nat) (hq : q < D.nb) (j : Nat) (v : Int) (hj : j < L.dn) (hyes : Hid (freeB D.dt D.dv j = true)) (hno : Hid (∀ i, i < j → freeB D.dt D.dv i = false)) (hv : Hid (D.dv j = v)) (hfull : Hid ((chL D.pr q).any (fullB D.us D.lm) = false)) (hu : Hid (∀ i, i < L.n → -1000000 ≤ D.us i ∧ D.us i ≤ 1000000)) (w : World) (h : BW w0 w L D) :
    Calls Tryz.prog 49 #[.pointer (some ⟨L.P, 0, none⟩), .int .i64 (q : Int), .slice (some ⟨L.G3, 0, none⟩) 256 256, .nilIface, (Value.func (.func 62) #[.pointer (some ⟨L.dP, 0, none⟩)] #[])] w fun e w' => e = .returned (.tuple #[.int .i64 j, .int .i64 v, .nilIface]) ∧ BW w0 w' L (boughtD D q j v) ∧ UpM L w w' := by
  have H := Lib.hid h
  have hn := h.n256
  have hpn := h.dn256
  have hnn := h.nn
  have hin := chL_in h.pk h.nn (by omega) q hq
  obtain ⟨l, hl⟩ : ∃ l, Hid (chL D.pr q = l) := ⟨_, Lib.hid rfl⟩
  rw [hl.out] at hin hfull
  obtain ⟨m, hm⟩ : ∃ m, Hid (l.length = m) := ⟨_, Lib.hid rfl⟩
  have hm1 : m ≤ 1000 := by rw [← hm.out]; omega
  have HIn := Lib.hid hin.1
  have HNd := Lib.hid hin.2.2
  have HPk := Lib.hid h.pk
  have HLT := Lib.hid h.lowT
  have HLD := Lib.hid h.lowD
  have HTT := Lib.hid h.tt
  have HTw := Lib.hid h.tw
  have f0 := h.kk.f0
  have k0 : (0 : Int) ≤ j := by omega
  have k1 : (j : Int) < 256 := by omega
  clear h hin
  go_enter Tryz.func49, Tryz.ntmps49
  go_wp2_with (first
    | (go_at_call 63; (with_reducible refine (athere_in q (by omega) true (Lib.hid (thN_at hq)) _ H.out.kk.ar).mono ?_); rintro e w1 ⟨rfl, rfl⟩)
    | (go_at_call 77; (with_reducible refine (bchain_is (q : Int) D.nb (by omega) (by omega) hnn (Lib.hid (fun i hi => thN_at hi)) HPk _ H.out.kk).mono ?_); rintro e w1 ⟨v9, rfl, hr, hb⟩; rw [hl.out] at hr; obtain ⟨a9, c9, hv9⟩ := own_slice hr m hm; have HRw := Lib.hid (rowT hr hv9 hm.out HTw.out); subst hv9; have H1 := Lib.hid (H.out.below hb); have HB1 := Lib.hid hb; clear hr hb f0)
    | (go_at_call 89; (with_reducible refine (bcf_is l m hm hm1 a9 c9 HIn false hfull _ H1.out.kk (fun i hi => by obtain ⟨g, h1, h2, h3, h4⟩ := HRw.out w1 (UpT.refl _ _) i hi; exact ⟨g, h1, h3, h4⟩)).mono ?_); rintro e w2 ⟨rfl, hb⟩; have HB2 := Lib.hid hb; clear hb)
    | (go_at_call 62; (with_reducible refine (dmake_ok j hj hyes hno v hv _ (H1.out.below HB2.out).dd).mono ?_); rintro e w3 ⟨rfl, hd, hb⟩; have hW := (H1.out.below HB2.out).doms hd hb; have H3 := Lib.hid hW; have HU3 := Lib.hid ((UpM.below HB2.out).trans (UpM.pb (L := L) hb (by have := HLT.out; omega) (by have := HLT.out; omega) (by have := HLD.out; omega) (by have := HLD.out; omega))); have ht := hW.kk.t3.ti j (by omega); obtain ⟨c0, c1⟩ := ht; have z0 := hW.kk.t3.fr (j * 2); have z1 := hW.kk.t3.fr (j * 2 + 1); have HS := Lib.hid (hW.kk.t3.title j (by omega) q v); have H4 := Lib.hid (hW.kk.ti3 HS.out.1 HS.out.2); have HU4 := Lib.hid (HU3.out.trans (UpM.grown (L := L) HS.out.2 (by have := HTT.out; omega) (by have := HLD.out; omega))); clear hW hb hd)
    | (go_at_call 76; (with_reducible refine (bcount_is l m hm hm1 a9 c9 HIn HNd 1 (by decide) hu _ H4.out (fun i hi => by obtain ⟨g, h1, h2, h3, h4⟩ := HRw.out _ HU4.out.up i hi; exact ⟨g, h1, h3, by have := HTT.out; omega, h4⟩)).mono ?_); rintro e w5 ⟨rfl, hB, hg⟩; have H5 := Lib.hid hB; have HG5 := Lib.hid hg; clear hB hg c0 c1 z0 z1))
  go_ret3
  refine ⟨rfl, ?_, ((UpM.below HB1.out).trans HU4.out).trans (UpM.grown (L := L) HG5.out (by have := HTT.out; omega) (by have := HLD.out; omega))⟩
  have hlo : Below L.bB w3 w5 := by
    refine (low_of HS.out.2 H3.out.kk.t3.lt.1 H3.out.bl).trans (low_of HG5.out H3.out.kk.ac.lt.1 ?_)
    exact Nat.le_trans H3.out.bl HS.out.2.size
  refine BW.bank H3.out (D' := boughtD D q j v) ?_ hlo rfl HPk.out hnn
  have := H5.out
  rw [← hl.out] at this
  exact this
set_option maxRecDepth 100000 in
set_option maxHeartbeats 2000000 in
theorem bdomain_w {w0 : World} {L : BLoc} {D : BSt} (q : Nat) (hq : q < D.nb) (j : Nat) (v : Int) (hj : j < L.dn) (hyes : Hid (freeB D.dt D.dv j = true)) (hno : Hid (∀ i, i < j → freeB D.dt D.dv i = false)) (hv : Hid (D.dv j = v)) (hfull : Hid ((chL D.pr q).any (fullB D.us D.lm) = false)) (hu : Hid (∀ i, i < L.n → -1000000 ≤ D.us i ∧ D.us i ≤ 1000000)) (w : World) (h : BW w0 w L D) :
    Calls Tryz.prog 18 #[.pointer (some ⟨L.P, 0, none⟩), .int .i64 (q : Int)] w fun e w' => e = .returned (.tuple #[.int .i64 j, .int .i64 v, .nilIface]) ∧ BW w0 w' L (boughtD D q j v) ∧ UpM L w w' := by
  obtain ⟨wD, hwD⟩ : ∃ wD, wD = w.drew := ⟨_, rfl⟩
  have HBD : Hid (Below w.heap.size w wD) := Lib.hid (by rw [hwD]; exact (Below.refl _ _).drew)
  have HD := Lib.hid (h.below HBD.out)
  have HTw := Lib.hid h.tw
  clear h
  go_enter Tryz.func18, Tryz.ntmps18
  go_upto_region 1 with fail
  refine wp_region_noPanic ?_
  refine wp_region_held_drew (S := fun w' => (World.cell? w' ⟨L.P, 6, none⟩ = some (.slice (some ⟨L.G3, 0, none⟩) 256 256) ∧ World.cell? w' ⟨L.P, 2, none⟩ = some (.pointer (some ⟨L.dP, 0, none⟩)))) (by kernel_rfl) (by rw [← hwD]; exact ⟨HD.out.kk.f6, HD.out.kk.f2⟩) (fun hHeld => ?_)
  rw [← hwD] at hHeld ⊢
  clear hwD
  refine wpAnyH_take (i := 0) (v := ?_) (by rfl) (by kernel_rfl) (by kernel_rfl) (by kernel_rfl) (fun _ _ _ h => h) (Or.inl ⟨by kernel_rfl, ?_⟩) (by assumption) ?_; rotate_left 1; (focus (intro w hSw; (try dsimp only at hSw); simp only [List.getElem_toArray, List.getElem_cons_succ, List.getElem_cons_zero]; all_goals go_simp; all_goals (try with_reducible rfl))); (try simp only [Act.put, List.getElem_toArray, List.getElem_cons_succ, List.getElem_cons_zero, List.setIfInBounds_toArray, List.set_cons_zero, List.set_cons_succ])
  refine wpAnyH_take (i := 1) (v := ?_) (by rfl) (by kernel_rfl) (by kernel_rfl) (by kernel_rfl) (fun _ _ _ h => h) (Or.inl ⟨by kernel_rfl, ?_⟩) (by assumption) ?_; rotate_left 1; (focus (intro w hSw; (try dsimp only at hSw); simp only [List.getElem_toArray, List.getElem_cons_succ, List.getElem_cons_zero]; all_goals go_simp; all_goals (try with_reducible rfl))); (try simp only [Act.put, List.getElem_toArray, List.getElem_cons_succ, List.getElem_cons_zero, List.setIfInBounds_toArray, List.set_cons_zero, List.set_cons_succ])
  refine wpAnyH_take (i := 2) (v := ?_) (by rfl) (by kernel_rfl) (by kernel_rfl) (by kernel_rfl) (fun _ _ _ h => h) (Or.inl ⟨by kernel_rfl, ?_⟩) (by assumption) ?_; rotate_left 1; (focus (intro w hSw; (try dsimp only at hSw); simp only [List.getElem_toArray, List.getElem_cons_succ, List.getElem_cons_zero]; all_goals go_simp; all_goals (try with_reducible rfl))); (try simp only [Act.put, List.getElem_toArray, List.getElem_cons_succ, List.getElem_cons_zero, List.setIfInBounds_toArray, List.set_cons_zero, List.set_cons_succ])
  refine wpAnyH_take (i := 3) (v := ?_) (by rfl) (by kernel_rfl) (by kernel_rfl) (by kernel_rfl) (fun _ _ _ h => h) (Or.inl ⟨by kernel_rfl, ?_⟩) (by assumption) ?_; rotate_left 1; (focus (intro w hSw; (try dsimp only at hSw); simp only [List.getElem_toArray, List.getElem_cons_succ, List.getElem_cons_zero]; all_goals go_simp; all_goals (try with_reducible rfl))); (try simp only [Act.put, List.getElem_toArray, List.getElem_cons_succ, List.getElem_cons_zero, List.setIfInBounds_toArray, List.set_cons_zero, List.set_cons_succ])
  refine wpAnyH_take (i := 4) (v := ?_) (by rfl) (by kernel_rfl) (by kernel_rfl) (by kernel_rfl) (fun _ _ _ h => h) (Or.inl ⟨by kernel_rfl, ?_⟩) (by assumption) ?_; rotate_left 1; (focus (intro w hSw; (try dsimp only at hSw); simp only [List.getElem_toArray, List.getElem_cons_succ, List.getElem_cons_zero]; all_goals go_simp; all_goals (try with_reducible rfl))); (try simp only [Act.put, List.getElem_toArray, List.getElem_cons_succ, List.getElem_cons_zero, List.setIfInBounds_toArray, List.set_cons_zero, List.set_cons_succ])
  refine wpAnyH_take (i := 5) (v := ?_) (by rfl) (by kernel_rfl) (by kernel_rfl) (by kernel_rfl) (fun _ _ _ h => h) (Or.inl ⟨by kernel_rfl, ?_⟩) (by assumption) ?_; rotate_left 1; (focus (intro w hSw; (try dsimp only at hSw); simp only [List.getElem_toArray, List.getElem_cons_succ, List.getElem_cons_zero]; all_goals go_simp; all_goals (try with_reducible rfl))); (try simp only [Act.put, List.getElem_toArray, List.getElem_cons_succ, List.getElem_cons_zero, List.setIfInBounds_toArray, List.set_cons_zero, List.set_cons_succ])
  refine wpAnyH_take (i := 6) (v := ?_) (by rfl) (by kernel_rfl) (by kernel_rfl) (by kernel_rfl) (fun _ _ _ h => h) (Or.inl ⟨by kernel_rfl, ?_⟩) (by assumption) ?_; rotate_left 1; (focus (intro w hSw; (try dsimp only at hSw); simp only [List.getElem_toArray, List.getElem_cons_succ, List.getElem_cons_zero]; all_goals go_simp; all_goals (try with_reducible rfl))); (try simp only [Act.put, List.getElem_toArray, List.getElem_cons_succ, List.getElem_cons_zero, List.setIfInBounds_toArray, List.set_cons_zero, List.set_cons_succ])
  refine wpAnyH_take (i := 7) (v := ?_) (by rfl) (by kernel_rfl) (by kernel_rfl) (by kernel_rfl) (fun _ _ _ h => h) (Or.inl ⟨by kernel_rfl, ?_⟩) (by assumption) ?_; rotate_left 1; (focus (intro w hSw; (try dsimp only at hSw); simp only [List.getElem_toArray, List.getElem_cons_succ, List.getElem_cons_zero]; all_goals go_simp; all_goals (try with_reducible rfl))); (try simp only [Act.put, List.getElem_toArray, List.getElem_cons_succ, List.getElem_cons_zero, List.setIfInBounds_toArray, List.set_cons_zero, List.set_cons_succ])
  refine wpAnyH_take (i := 8) (v := ?_) (by rfl) (by kernel_rfl) (by kernel_rfl) (by kernel_rfl) (fun _ _ _ h => h) (Or.inl ⟨by kernel_rfl, ?_⟩) (by assumption) ?_; rotate_left 1; (focus (intro w hSw; (try dsimp only at hSw); simp only [List.getElem_toArray, List.getElem_cons_succ, List.getElem_cons_zero]; all_goals go_simp; all_goals (try with_reducible rfl))); (try simp only [Act.put, List.getElem_toArray, List.getElem_cons_succ, List.getElem_cons_zero, List.setIfInBounds_toArray, List.set_cons_zero, List.set_cons_succ])
  refine wpAnyH_take (i := 9) (v := ?_) (by rfl) (by kernel_rfl) (by kernel_rfl) (by kernel_rfl) (fun _ _ _ h => h) (Or.inl ⟨by kernel_rfl, ?_⟩) (by assumption) ?_; rotate_left 1; (focus (intro w hSw; (try dsimp only at hSw); simp only [List.getElem_toArray, List.getElem_cons_succ, List.getElem_cons_zero]; all_goals go_simp; all_goals (try with_reducible rfl))); (try simp only [Act.put, List.getElem_toArray, List.getElem_cons_succ, List.getElem_cons_zero, List.setIfInBounds_toArray, List.set_cons_zero, List.set_cons_succ])
  refine wpAnyH_take (i := 10) (v := ?_) (by rfl) (by kernel_rfl) (by kernel_rfl) (by kernel_rfl) (fun _ _ _ h => h) (Or.inl ⟨by kernel_rfl, ?_⟩) (by assumption) ?_; rotate_left 1; (focus (intro w hSw; (try dsimp only at hSw); simp only [List.getElem_toArray, List.getElem_cons_succ, List.getElem_cons_zero]; all_goals go_simp; all_goals (try with_reducible rfl))); (try simp only [Act.put, List.getElem_toArray, List.getElem_cons_succ, List.getElem_cons_zero, List.setIfInBounds_toArray, List.set_cons_zero, List.set_cons_succ])
  refine wpAnyH_ready (rs := [11]) (by kernel_rfl) (by simp) ?_; refine AllReadyH.cons (by rfl) (fun K hK => ?_) AllReadyH.nil; rw [if_pos (by kernel_rfl)]; simp only [List.getElem_toArray, List.getElem_cons_succ, List.getElem_cons_zero]
  go_wp2_with (first
    | (go_at_call 49; (with_reducible refine (bbuyd_w q hq j v hj hyes hno hv hfull hu _ HD.out).mono ?_); rintro e w4 ⟨rfl, hW, hu4⟩; have HW4 := Lib.hid hW; have HU4 := Lib.hid hu4; clear hW hu4))
  refine hK.out _ _ ⟨HW4.out.kk.f6, HW4.out.kk.f2⟩ (fun hHeld => ?_)
  clear hK K
  (try simp only [Act.put, List.getElem_toArray, List.getElem_cons_succ, List.getElem_cons_zero, List.setIfInBounds_toArray, List.set_cons_zero, List.set_cons_succ])
  refine wpAnyH_take (i := 12) (v := ?_) (by rfl) (by kernel_rfl) (by kernel_rfl) (by kernel_rfl) (fun _ _ _ h => h) (Or.inl ⟨by kernel_rfl, ?_⟩) (by assumption) ?_; rotate_left 1; (focus (intro w hSw; (try dsimp only at hSw); simp only [List.getElem_toArray, List.getElem_cons_succ, List.getElem_cons_zero]; all_goals go_simp; all_goals (try with_reducible rfl))); (try simp only [Act.put, List.getElem_toArray, List.getElem_cons_succ, List.getElem_cons_zero, List.setIfInBounds_toArray, List.set_cons_zero, List.set_cons_succ])
  refine wpAnyH_take (i := 13) (v := ?_) (by rfl) (by kernel_rfl) (by kernel_rfl) (by kernel_rfl) (fun _ _ _ h => h) (Or.inl ⟨by kernel_rfl, ?_⟩) (by assumption) ?_; rotate_left 1; (focus (intro w hSw; (try dsimp only at hSw); simp only [List.getElem_toArray, List.getElem_cons_succ, List.getElem_cons_zero]; all_goals go_simp; all_goals (try with_reducible rfl))); (try simp only [Act.put, List.getElem_toArray, List.getElem_cons_succ, List.getElem_cons_zero, List.setIfInBounds_toArray, List.set_cons_zero, List.set_cons_succ])
  refine wpAnyH_take (i := 14) (v := ?_) (by rfl) (by kernel_rfl) (by kernel_rfl) (by kernel_rfl) (fun _ _ _ h => h) (Or.inl ⟨by kernel_rfl, ?_⟩) (by assumption) ?_; rotate_left 1; (focus (intro w hSw; (try dsimp only at hSw); simp only [List.getElem_toArray, List.getElem_cons_succ, List.getElem_cons_zero]; all_goals go_simp; all_goals (try with_reducible rfl))); (try simp only [Act.put, List.getElem_toArray, List.getElem_cons_succ, List.getElem_cons_zero, List.setIfInBounds_toArray, List.set_cons_zero, List.set_cons_succ])
  refine wpAnyH_take (i := 15) (v := ?_) (by rfl) (by kernel_rfl) (by kernel_rfl) (by kernel_rfl) (fun _ _ _ h => h) (Or.inl ⟨by kernel_rfl, ?_⟩) (by assumption) ?_; rotate_left 1; (focus (intro w hSw; (try dsimp only at hSw); simp only [List.getElem_toArray, List.getElem_cons_succ, List.getElem_cons_zero]; all_goals go_simp; all_goals (try with_reducible rfl))); (try simp only [Act.put, List.getElem_toArray, List.getElem_cons_succ, List.getElem_cons_zero, List.setIfInBounds_toArray, List.set_cons_zero, List.set_cons_succ])
  refine wpAnyH_take (i := 16) (v := ?_) (by rfl) (by kernel_rfl) (by kernel_rfl) (by kernel_rfl) (fun _ _ _ h => h) (Or.inl ⟨by kernel_rfl, ?_⟩) (by assumption) ?_; rotate_left 1; (focus (intro w hSw; (try dsimp only at hSw); simp only [List.getElem_toArray, List.getElem_cons_succ, List.getElem_cons_zero]; all_goals go_simp; all_goals (try with_reducible rfl))); (try simp only [Act.put, List.getElem_toArray, List.getElem_cons_succ, List.getElem_cons_zero, List.setIfInBounds_toArray, List.set_cons_zero, List.set_cons_succ])
  refine wpAnyH_take (i := 17) (v := ?_) (by rfl) (by kernel_rfl) (by kernel_rfl) (by kernel_rfl) (fun _ _ _ h => h) (Or.inl ⟨by kernel_rfl, ?_⟩) (by assumption) ?_; rotate_left 1; (focus (intro w hSw; (try dsimp only at hSw); simp only [List.getElem_toArray, List.getElem_cons_succ, List.getElem_cons_zero]; all_goals go_simp; all_goals (try with_reducible rfl))); (try simp only [Act.put, List.getElem_toArray, List.getElem_cons_succ, List.getElem_cons_zero, List.setIfInBounds_toArray, List.set_cons_zero, List.set_cons_succ])
  refine wpAnyH_done (by kernel_rfl) ?_ _
  refine NoPanic.normal ?_
  go_wp2_with fail
  go_ret3
  exact ⟨rfl, HW4.out, (UpM.below HBD.out).trans HU4.out⟩
theorem BW.opened_w {w0 w w' : World} {L : BLoc} {D : BSt} (h : BW w0 w L D) (y lim : Int) (hy0 : -1 ≤ y) (hy1 : y < D.nb) (hn : D.nb < L.n) (hk : BkAt w' L.bB L.P L.p L.B L.A L.G1 L.G2 L.G3 L.n L.c L.mb L.dP (thN (D.nb + 1)) (fun _ => 0) (upd D.pr D.nb y) (upd D.us D.nb 0) (upd D.lm D.nb lim) D.o1 D.v1 D.o2 D.v2 D.o3 D.v3) (hb : PBelow w w' L.B L.A) : BW w0 w' L (openedB D y lim) ∧ UpM L w w' :=
  ⟨(h.opened y lim hy0 hy1 hn hk hb).1, UpM.pb hb (by have := h.tt; omega) (by have := h.tt; omega) (by have := h.lowD; omega) (by have := h.lowD; omega)⟩
theorem bwroot_w {w0 : World} {L : BLoc} {D : BSt} (lim : Int) (hl0 : 0 ≤ lim) (hl1 : lim ≤ 512) (k : Int) (hk : Hid ((D.nb : Int) = k)) (hn : D.nb < L.n) (w : World) (h : BW w0 w L D) :
    Calls Tryz.prog 12 #[.pointer (some ⟨L.P, 0, none⟩), .int .i64 lim] w fun e w' => e = .returned (.tuple #[.int .i64 k, .int .i64 0, .nilIface]) ∧ BW w0 w' L (openedB D (-1) lim) ∧ UpM L w w' := by
  rw [← hk.out]
  refine broot_of (P := L.P) _ _ _ _ rfl ((bopen_ok (-1) lim (by omega) (by omega) hl0 hl1 hn (Lib.hid h.pk) (Lib.hid (by rw [chL_neg _ _ (by omega)]; decide)) w h.kk).mono fun e w' ⟨h1, h2, h3⟩ => ⟨h1, h.opened_w (-1) lim (by omega) (by omega) hn h2 h3⟩)
end Go.Proofs.YtncopdhhchmpeaaGreatDoor
namespace Go.Proofs.YtncopdhhchmpeaaGreatDoor
open Go.ChangeShapes Go.WideShapes Go.ChangeAt Go.RowKit
set_option linter.unusedVariables false
/-- The cells of n meters: parent, ticks. -/
def mtc (th : Nat → Int) (vr : Nat → Int) : Nat → List Value
  | 0 => []
  | n + 1 => mtc th vr n ++ [.int .i64 (th n), .int .i64 (vr n)]
theorem mtc_len (th : Nat → Int) (vr : Nat → Int) (n : Nat) : (mtc th vr n).length = n * 2 := by
  induction n with
  | zero => rfl
  | succ n ih => simp [mtc, ih]; omega
theorem mtc_at0 (th : Nat → Int) (vr : Nat → Int) (n i : Nat) (hi : i < n) : (mtc th vr n)[i * 2]? = some (.int .i64 (th i)) := by
  induction n with
  | zero => omega
  | succ n ih =>
    unfold mtc
    by_cases h : i = n
    · subst h
      rw [List.getElem?_append_right (by rw [mtc_len]; omega), mtc_len]
      simp
    · rw [List.getElem?_append_left (by rw [mtc_len]; omega)]
      exact ih (by omega)
theorem mtc_at1 (th : Nat → Int) (vr : Nat → Int) (n i : Nat) (hi : i < n) : (mtc th vr n)[i * 2 + 1]? = some (.int .i64 (vr i)) := by
  induction n with
  | zero => omega
  | succ n ih =>
    unfold mtc
    by_cases h : i = n
    · subst h
      rw [List.getElem?_append_right (by rw [mtc_len]; omega), mtc_len]
      simp
    · rw [List.getElem?_append_left (by rw [mtc_len]; omega)]
      exact ih (by omega)
theorem mtc_congr {th th' : Nat → Int} {vr vr' : Nat → Int} (n : Nat) (h1 : ∀ i, i < n → th i = th' i) (h2 : ∀ i, i < n → vr i = vr' i) : mtc th vr n = mtc th' vr' n := by
  induction n with
  | zero => rfl
  | succ n ih =>
    unfold mtc
    rw [ih (fun i hi => h1 i (by omega)) (fun i hi => h2 i (by omega)), h1 n (by omega), h2 n (by omega)]
theorem mtc_set0 (th : Nat → Int) (vr : Nat → Int) (n i : Nat) (hi : i < n) (b : Int) : (mtc th vr n).set (i * 2) (.int .i64 b) = mtc (upd th i b) vr n := by
  induction n with
  | zero => omega
  | succ n ih =>
    unfold mtc
    by_cases h : i = n
    · subst h
      rw [List.set_append_right _ _ (by rw [mtc_len]; omega), mtc_len, upd_at]
      rw [mtc_congr (th := upd th i b) (th' := th) (vr' := vr) i (fun j hj => upd_other _ _ _ _ (by omega)) (fun _ _ => rfl)]
      simp
    · rw [List.set_append_left _ _ (by rw [mtc_len]; omega), ih (by omega), upd_other _ _ _ _ (by omega)]
theorem mtc_set1 (th : Nat → Int) (vr : Nat → Int) (n i : Nat) (hi : i < n) (v : Int) : (mtc th vr n).set (i * 2 + 1) (.int .i64 v) = mtc th (upd vr i v) n := by
  induction n with
  | zero => omega
  | succ n ih =>
    unfold mtc
    by_cases h : i = n
    · subst h
      rw [List.set_append_right _ _ (by rw [mtc_len]; omega), mtc_len, upd_at]
      rw [mtc_congr (vr := upd vr i v) (vr' := vr) (th' := th) i (fun _ _ => rfl) (fun j hj => upd_other _ _ _ _ (by omega))]
      rw [show i * 2 + 1 - i * 2 = 1 by omega]
      rfl
    · rw [List.set_append_left _ _ (by rw [mtc_len]; omega), ih (by omega), upd_other _ _ _ _ (by omega)]
theorem infoMeter : (Tryz.prog.info? 113).map (fun i => (i.zero, i.size, i.bytes)) = some (some (.agg #[.int .i64 0, .int .i64 0]), 2, 16) := by kernel_rfl
theorem infoIntM : (Tryz.prog.info? 3).map (fun i => (i.zero, i.size, i.bytes)) = some (some (.int .i64 0), 1, 8) := by kernel_rfl
theorem mtc_made (n : Nat) : (madeCells #[Value.int .i64 0, Value.int .i64 0] (n * 2)).toList = mtc (fun _ => 0) (fun _ => 0) n := by
  apply List.ext_getElem?
  intro j
  by_cases hj : j < n * 2
  · have e : (madeCells #[Value.int .i64 0, Value.int .i64 0] (n * 2)).toList[j]? = some ((#[Value.int .i64 0, Value.int .i64 0] : Array Value)[j % 2]!) := by
      simp [madeCells, hj]
    rw [e]
    obtain ⟨i, hi⟩ : ∃ i, j = i * 2 ∨ j = i * 2 + 1 := ⟨j / 2, by omega⟩
    rcases hi with rfl | rfl
    · rw [mtc_at0 _ _ n i (by omega), show i * 2 % 2 = 0 by omega]
      rfl
    · rw [mtc_at1 _ _ n i (by omega), show (i * 2 + 1) % 2 = 1 by omega]
      rfl
  · rw [List.getElem?_eq_none (by simp [size_madeCells]; omega), List.getElem?_eq_none (by rw [mtc_len]; omega)]
/-- Meters lie at block P: their arena; parents and ticks at block G. -/
structure MtAt (w : World) (base P p B G n c : Nat) (th : Nat → Bool) (vr pr tk : Nat → Int) : Prop where
  pl : P < w.heap.size
  pb : base ≤ P
  f0 : w.cell? ⟨P, 0, none⟩ = some (.pointer (some ⟨p, 0, none⟩))
  f1 : w.cell? ⟨P, 1, none⟩ = some (.slice (some ⟨G, 0, none⟩) n n)
  ar : ArAt w base p B n c th vr
  row : w.ownsRow base 113 2 (.slice (some ⟨G, 0, none⟩) n n) n (mtc pr tk n)
  n1 : P ≠ B
  n2 : P ≠ G
  n3 : G ≠ B
  n4 : G ≠ p
section
variable {w w' : World} {base P p B G n c : Nat} {th th' : Nat → Bool} {vr vr' pr pr' tk tk' : Nat → Int}
theorem MtAt.below (h : MtAt w base P p B G n c th vr pr tk) (hb : Below w.heap.size w w') : MtAt w' base P p B G n c th vr pr tk :=
  ⟨Nat.lt_of_lt_of_le h.pl hb.size, h.pb, (hb.cell (p := ⟨P, 0, none⟩) h.pl).trans h.f0, (hb.cell (p := ⟨P, 1, none⟩) h.pl).trans h.f1, h.ar.below hb, own_below h.row hb, h.n1, h.n2, h.n3, h.n4⟩
theorem MtAt.turn (h : MtAt w base P p B G n c th vr pr tk) (hA : ArAt w' base p B n c th' vr') (hg : w.grownBy w' (some B)) : MtAt w' base P p B G n c th' vr' pr tk :=
  ⟨Nat.lt_of_lt_of_le h.pl hg.size, h.pb, (World.cell?_of_block (a := ⟨P, 0, none⟩) (hg.block P h.pl (fun e => h.n1 (by injection e)))).trans h.f0, (World.cell?_of_block (a := ⟨P, 1, none⟩) (hg.block P h.pl (fun e => h.n1 (by injection e)))).trans h.f1, hA, h.row.kept hg (.inr (fun e => h.n3 (by simpa [Value.ownBlock] using e))), h.n1, h.n2, h.n3, h.n4⟩
theorem MtAt.at0 (h : MtAt w base P p B G n c th vr pr tk) (i : Nat) (hi : i < n) : w.cell? ⟨G, i * 2, none⟩ = some (.int .i64 (pr i)) := by
  rw [h.row.cellAt (i * 2) (by omega), mtc_at0 pr tk n i hi]
theorem MtAt.at1 (h : MtAt w base P p B G n c th vr pr tk) (i : Nat) (hi : i < n) : w.cell? ⟨G, i * 2 + 1, none⟩ = some (.int .i64 (tk i)) := by
  rw [h.row.cellAt (i * 2 + 1) (by omega), mtc_at1 pr tk n i hi]
theorem MtAt.put1 (h : MtAt w base P p B G n c th vr pr tk) (i : Nat) (hi : i < n) (x : Int) : MtAt (w.setCell ⟨G, i * 2 + 1, none⟩ (.int .i64 x)) base P p B G n c th vr pr (upd tk i x) ∧ w.grownBy (w.setCell ⟨G, i * 2 + 1, none⟩ (.int .i64 x)) (some G) := by
  have hs := h.row.stored (i * 2 + 1) (.int .i64 x)
  rw [mtc_set1 pr tk n i hi x] at hs
  exact ⟨⟨Nat.lt_of_lt_of_le h.pl hs.2.size, h.pb, (World.cell?_of_block (a := ⟨P, 0, none⟩) (hs.2.block P h.pl (fun e => h.n2 (by injection e)))).trans h.f0, (World.cell?_of_block (a := ⟨P, 1, none⟩) (hs.2.block P h.pl (fun e => h.n2 (by injection e)))).trans h.f1, h.ar.kept hs.2 (Ne.symm h.n4) (Ne.symm h.n3), hs.1, h.n1, h.n2, h.n3, h.n4⟩, hs.2⟩
theorem MtAt.put0 (h : MtAt w base P p B G n c th vr pr tk) (i : Nat) (hi : i < n) (x : Int) : MtAt (w.setCell ⟨G, i * 2, none⟩ (.int .i64 x)) base P p B G n c th vr (upd pr i x) tk ∧ w.grownBy (w.setCell ⟨G, i * 2, none⟩ (.int .i64 x)) (some G) := by
  have hs := h.row.stored (i * 2) (.int .i64 x)
  rw [mtc_set0 pr tk n i hi x] at hs
  exact ⟨⟨Nat.lt_of_lt_of_le h.pl hs.2.size, h.pb, (World.cell?_of_block (a := ⟨P, 0, none⟩) (hs.2.block P h.pl (fun e => h.n2 (by injection e)))).trans h.f0, (World.cell?_of_block (a := ⟨P, 1, none⟩) (hs.2.block P h.pl (fun e => h.n2 (by injection e)))).trans h.f1, h.ar.kept hs.2 (Ne.symm h.n4) (Ne.symm h.n3), hs.1, h.n1, h.n2, h.n3, h.n4⟩, hs.2⟩
theorem MtAt.congr (h : MtAt w base P p B G n c th vr pr tk) (h1 : ∀ i, i < n → th i = th' i) (h2 : ∀ i, i < n → vr i = vr' i) (h3 : ∀ i, i < n → pr i = pr' i) (h4 : ∀ i, i < n → tk i = tk' i) : MtAt w base P p B G n c th' vr' pr' tk' :=
  ⟨h.pl, h.pb, h.f0, h.f1, h.ar.congr h1 h2, by rw [← mtc_congr n h3 h4]; exact h.row, h.n1, h.n2, h.n3, h.n4⟩
end
set_option maxRecDepth 100000 in
theorem mtnew_ok (x : Int) (n : Nat) (hx : Hid (x = n)) (h1 : 1 ≤ n) (h2 : n ≤ 256) (w : World) :
    Calls Tryz.prog 85 #[.int .i64 x] w fun e w' => ∃ P p B G, e = .returned (.tuple #[.pointer (some ⟨P, 0, none⟩), .nilIface]) ∧ MtAt w' w.heap.size P p B G n n (fun _ => false) (fun _ => 0) (fun _ => 0) (fun _ => 0) ∧ Below w.heap.size w w' := by
  rw [hx.out]
  obtain ⟨i0, hi, hz0, hz1, hz2⟩ := info_parts infoMeter
  have HI := Lib.hid (⟨hi, hz0, hz1, hz2⟩ : Tryz.prog.info? 113 = some i0 ∧ i0.zero = some (.agg #[.int .i64 0, .int .i64 0]) ∧ i0.size = 2 ∧ i0.bytes = 16)
  clear hi hz0 hz1 hz2 hx
  go_enter Tryz.func85, Tryz.ntmps85
  go_wp2_with (first
    | (go_at_call 127; (with_reducible refine (anew_at _ n (Lib.hid rfl) h1 h2 _).mono ?_); rintro e w1 ⟨p, B, rfl, hA, hb⟩; have HA := Lib.hid hA; have HB := Lib.hid hb; clear hA hb)
    | (at_make; refine wpList_make_full _ rfl _ _ 103 rfl w.heap.size 113 i0 (.agg #[.int .i64 0, .int .i64 0]) 2 Tryz.underlying103 HI.out.1 HI.out.2.1 HI.out.2.2.1 .i64 .i64 _ _ n rfl rfl rfl rfl ?b2 ?b3 ?b4 ?_))
  case b2 => rw [HI.out.2.2.2]; omega
  case b3 => unfold maxLen; omega
  case b4 => exact HB.out.size
  intro w2 hown hgrow
  have HO : Hid (w2.ownsRow w.heap.size 113 2 (.slice (some ⟨w1.heap.size, 0, none⟩) n n) n (mtc (fun _ => 0) (fun _ => 0) n)) := Lib.hid (by rw [← mtc_made]; exact hown)
  have HG := Lib.hid (show Below w1.heap.size w1 w2 from (Below.refl _ _).grown hgrow (Nat.le_refl _) (fun k hk => by cases hk))
  clear hown hgrow
  go_wp2_with fail
  go_ret2
  have hp := HA.out.pl
  have hB := HA.out.lt
  have hG := (HO.out.lt w1.heap.size rfl)
  have hs := HG.out.size
  have hs1 := HB.out.size
  have h2' : ∀ o, Below w2.heap.size w2 (w2.alloc o) := fun o => (Below.refl _ _).alloc (Nat.le_refl _) o
  exact ⟨_, rfl, ⟨p, B, w1.heap.size, ⟨by simp, by omega, by simp, by simp, (HA.out.below HG.out).below (h2' _), HO.out.alloc _, by omega, by omega, by omega, by omega⟩⟩, (HB.out.trans (HG.out.mono HB.out.size)).alloc (Nat.le_trans HB.out.size HG.out.size) _⟩
theorem chain_none {base P p B G n c : Nat} {th : Nat → Bool} {vr pr tk : Nat → Int} (w : World) (h : MtAt w base P p B G n c th vr pr tk) :
    Calls Tryz.prog 64 #[.pointer (some ⟨P, 0, none⟩), .int .i64 (-1)] w fun e w' => e = .returned (.slice none 0 0) ∧ w = w' := by
  have H := Lib.hid h
  have f0 := h.f0
  clear h
  go_enter Tryz.func64, Tryz.ntmps64
  go_wp2_with fail
  refine wp_loop_rounds 1 ?_
  rw [rounds_succ]
  go_wp2_with (first | (go_at_call 63; (with_reducible refine (athere_out (-1) (by omega) _ H.out.ar).mono ?_); rintro e w1 ⟨rfl, rfl⟩))
  go_ret
  exact ⟨rfl, rfl⟩
/-- j, j - 1, .. : m of them. -/
def dn (j m : Nat) : List Int := (List.range m).map fun q : Nat => (j : Int) - q
end Go.Proofs.YtncopdhhchmpeaaGreatDoor
namespace Go.Proofs.YtncopdhhchmpeaaGreatDoor
open Go.ChangeShapes Go.WideShapes Go.ChangeAt Go.RowKit
set_option linter.unusedVariables false
def zk (b : Nat) : Value := if b = 0 then .bool false else if b % 5 = 0 then .int .u32 0 else .int .i64 0
def zs31 : List Value := (List.range 31).map zk
theorem zs31_len : zs31.length = 31 := by simp [zs31]
theorem infoFac31 : (Tryz.prog.info? 127).map (fun i => (i.zero, i.size, i.bytes)) = some (some (.agg zs31.toArray), 31, 248) := by kernel_rfl
theorem zs31_get (b : Nat) (hb : b < 31) : zs31.getD b (.int .i64 0) = zk b := by simp [zs31, List.getD, hb]
theorem PlAt.congrW {T : TypeId} {s : Nat} {w : World} {base P p B G n c : Nat} {th : Nat → Bool} {vr : Nat → Int} {W W' : Nat → Nat → Value} (h : PlAt T s w base P p B G n c th vr W) (hw : ∀ i j, i < n → j < s → W i j = W' i j) (h0 : 0 < s) : PlAt T s w base P p B G n c th vr W' := by
  have e : flatS s W n = flatS s W' n := by
    apply List.ext_getElem?
    intro j
    by_cases hj : j < n * s
    · have h1 : j / s < n := by rw [Nat.div_lt_iff_lt_mul h0]; exact hj
      simp [flatS, hj, hw (j / s) (j % s) h1 (Nat.mod_lt _ h0)]
    · rw [List.getElem?_eq_none (by rw [flatS_len]; omega), List.getElem?_eq_none (by rw [flatS_len]; omega)]
  exact ⟨h.pl, h.pb, h.f0, h.f1, h.ar, by rw [← e]; exact h.row, h.n1, h.n2, h.n3, h.n4⟩
set_option maxRecDepth 100000 in
theorem mknew_ok (x : Int) (n : Nat) (hx : Hid (x = n)) (h1 : 1 ≤ n) (h2 : n ≤ 256) (w : World) :
    Calls Tryz.prog 87 #[.int .i64 x] w fun e w' => ∃ P p B G, e = .returned (.tuple #[.pointer (some ⟨P, 0, none⟩), .nilIface]) ∧ PlAt 127 31 w' w.heap.size P p B G n n (fun _ => false) (fun _ => 0) (fun _ b => zk b) ∧ Below w.heap.size w w' := by
  rw [hx.out]
  obtain ⟨i0, hi, hz0, hz1, hz2⟩ := info_parts infoFac31
  have HI := Lib.hid (⟨hi, hz0, hz1, hz2⟩ : Tryz.prog.info? 127 = some i0 ∧ i0.zero = some (.agg zs31.toArray) ∧ i0.size = 31 ∧ i0.bytes = 248)
  clear hi hz0 hz1 hz2 hx
  go_enter Tryz.func87, Tryz.ntmps87
  go_wp2_with (first
    | (go_at_call 127; (with_reducible refine (anew_at _ n (Lib.hid rfl) h1 h2 _).mono ?_); rintro e w1 ⟨p, B, rfl, hA, hb⟩; have HA := Lib.hid hA; have HB := Lib.hid hb; clear hA hb)
    | (at_make; refine wpList_make_full _ rfl _ _ 106 rfl w.heap.size 127 i0 (.agg zs31.toArray) 31 Tryz.underlying106 HI.out.1 HI.out.2.1 HI.out.2.2.1 .i64 .i64 _ _ n rfl rfl rfl rfl ?b2 ?b3 ?b4 ?_))
  case b2 => rw [HI.out.2.2.2]; omega
  case b3 => unfold maxLen; omega
  case b4 => exact HB.out.size
  intro w2 hown hgrow
  have HO : Hid (w2.ownsRow w.heap.size 127 31 (.slice (some ⟨w1.heap.size, 0, none⟩) n n) n (flatS 31 (fun _ b => zs31.getD b (.int .i64 0)) n)) := Lib.hid (by
    have h := flatS_made zs31 n (by rw [zs31_len]; decide)
    rw [zs31_len] at h
    rw [← h]; exact hown)
  have HG := Lib.hid (show Below w1.heap.size w1 w2 from (Below.refl _ _).grown hgrow (Nat.le_refl _) (fun k hk => by cases hk))
  clear hown hgrow
  go_wp2_with fail
  go_ret2
  have hp := HA.out.pl
  have hB := HA.out.lt
  have hG := (HO.out.lt w1.heap.size rfl)
  have hs := HG.out.size
  have hs1 := HB.out.size
  have h2' : ∀ o, Below w2.heap.size w2 (w2.alloc o) := fun o => (Below.refl _ _).alloc (Nat.le_refl _) o
  refine ⟨_, p, B, w1.heap.size, rfl, PlAt.congrW (W := fun _ b => zs31.getD b (.int .i64 0)) ⟨by simp, by omega, by simp, by simp, (HA.out.below HG.out).below (h2' _), HO.out.alloc _, by omega, by omega, by omega, by omega⟩ (fun i j _ hj => zs31_get j hj) (by decide), (HB.out.trans (HG.out.mono HB.out.size)).alloc (Nat.le_trans HB.out.size HG.out.size) _⟩
end Go.Proofs.YtncopdhhchmpeaaGreatDoor
namespace Go.Proofs.YtncopdhhchmpeaaGreatDoor
open Go.ChangeShapes Go.WideShapes Go.ChangeAt Go.RowKit
set_option linter.unusedVariables false
set_option linter.unusedSimpArgs false
/-- What a system's own cells hold: pointers to all its parts, no words, its steps. -/
structure SyB (w : World) (s m d t b f q : Nat) (st : Int) : Prop where
  lt : s < w.heap.size
  c0 : w.cell? ⟨s, 0, none⟩ = some (.pointer (some ⟨m, 0, none⟩))
  c1 : w.cell? ⟨s, 1, none⟩ = some (.pointer (some ⟨d, 0, none⟩))
  c2 : w.cell? ⟨s, 2, none⟩ = some (.pointer (some ⟨t, 0, none⟩))
  c3 : w.cell? ⟨s, 3, none⟩ = some (.pointer (some ⟨b, 0, none⟩))
  c4 : w.cell? ⟨s, 4, none⟩ = some (.pointer (some ⟨f, 0, none⟩))
  c5 : w.cell? ⟨s, 5, none⟩ = some (.pointer (some ⟨q, 0, none⟩))
  c8 : w.cell? ⟨s, 8, none⟩ = some (.int .i64 st)
theorem SyB.same {w w' : World} {s m d t b f q : Nat} {st : Int} (h : SyB w s m d t b f q st) (hs : w.heap.size ≤ w'.heap.size) (hb : w'.heap[s]? = w.heap[s]?) : SyB w' s m d t b f q st :=
  ⟨Nat.lt_of_lt_of_le h.lt hs, (World.cell?_of_block (a := ⟨s, 0, none⟩) hb).trans h.c0, (World.cell?_of_block (a := ⟨s, 1, none⟩) hb).trans h.c1, (World.cell?_of_block (a := ⟨s, 2, none⟩) hb).trans h.c2, (World.cell?_of_block (a := ⟨s, 3, none⟩) hb).trans h.c3, (World.cell?_of_block (a := ⟨s, 4, none⟩) hb).trans h.c4, (World.cell?_of_block (a := ⟨s, 5, none⟩) hb).trans h.c5, (World.cell?_of_block (a := ⟨s, 8, none⟩) hb).trans h.c8⟩
theorem SyB.below {w w' : World} {s m d t b f q : Nat} {st : Int} (h : SyB w s m d t b f q st) (hb : Below w.heap.size w w') : SyB w' s m d t b f q st := h.same hb.size (hb.block s h.lt)
/-- Where the meters, the factories, the queue and the system's own cells lie. -/
structure SLoc where
  s : Nat
  q : Nat
  tB : Nat
  tP : Nat
  tp : Nat
  tR : Nat
  tG : Nat
  tn : Nat
  fB : Nat
  fP : Nat
  fp : Nat
  fR : Nat
  fG : Nat
  fn : Nat
/-- A system, new: nothing is there. -/
structure SysNew (w0 w : World) (L : BLoc) (X : SLoc) : Prop where
  k : BW w0 w L st0
  z : L.z = 16
  t : MtAt w X.tB X.tP X.tp X.tR X.tG X.tn X.tn (fun _ => false) (fun _ => 0) (fun _ => 0) (fun _ => 0)
  f : PlAt 127 31 w X.fB X.fP X.fp X.fR X.fG X.fn X.fn (fun _ => false) (fun _ => 0) (fun _ b => zk b)
  b : SyB w X.s L.mb L.dP X.tP L.P X.fP X.q 0
  q0 : w.cell? ⟨X.q, 0, none⟩ = some (.slice none 0 0)
  q1 : w.cell? ⟨X.q, 1, none⟩ = some (.map none)
  ql : X.q < w.heap.size
  lo : L.T ≤ X.s ∧ L.T ≤ X.q ∧ X.s ≠ X.q ∧ L.T ≤ X.fB ∧ w0.heap.size ≤ X.tB ∧ L.dB ≤ X.tB ∧ L.dR < X.tB ∧ L.dG < X.tB ∧ X.tP < L.bB ∧ X.tp < L.bB ∧ X.tR < L.bB ∧ X.tG < L.bB
theorem SysNew.below {w0 w w' : World} {L : BLoc} {X : SLoc} (h : SysNew w0 w L X) (hb : Below w.heap.size w w') : SysNew w0 w' L X :=
  ⟨h.k.below hb, h.z, h.t.below hb, h.f.below hb, h.b.below hb, (hb.cell (p := ⟨X.q, 0, none⟩) h.ql).trans h.q0, (hb.cell (p := ⟨X.q, 1, none⟩) h.ql).trans h.q1, Nat.lt_of_lt_of_le h.ql hb.size, h.lo⟩
theorem MMD.base {w00 w0 w : World} {L : BLoc} {D : BSt} (h : MMD w0 w L D) (hb : Below w00.heap.size w00 w0) : MMD w00 w L D :=
  ⟨⟨hb.trans (h.sv.bel.mono hb.size), Nat.le_trans hb.size h.sv.wb, h.sv.st⟩, h.lo, Nat.le_trans hb.size h.n0, h.nN, h.m0, h.m1, h.ml, h.mn, h.mo, h.ca, h.ok⟩
set_option maxRecDepth 100000 in
set_option maxHeartbeats 4000000 in
theorem sys_ok (n0 n1 n2 n3 n4 n5 : Nat) (h0 : 1 ≤ n0 ∧ n0 ≤ 256) (h1 : 1 ≤ n1 ∧ n1 ≤ 256) (h2 : 1 ≤ n2 ∧ n2 ≤ 256) (h3 : 1 ≤ n3 ∧ n3 ≤ 256) (h4 : 1 ≤ n4 ∧ n4 ≤ 256) (h5 : 1 ≤ n5 ∧ n5 ≤ 256) (x0 x1 x2 x3 x4 x5 : Int) (hx : Hid (x0 = n0 ∧ x1 = n1 ∧ x2 = n2 ∧ x3 = n3 ∧ x4 = n4 ∧ x5 = n5)) (w : World) :
    Calls Tryz.prog 46 #[.agg #[.int .i64 x0, .int .i64 x1, .int .i64 x2, .int .i64 x3, .int .i64 x4, .int .i64 x5]] w fun e w' => ∃ L X, e = .returned (.tuple #[(.pointer (some ⟨X.s, 0, none⟩)), .nilIface]) ∧ SysNew w w' L X ∧ Hid (L.a.n = n0 ∧ L.b.n = n1 ∧ L.dn = n2 ∧ X.tn = n3 ∧ L.n = n4 ∧ X.fn = n5) ∧ Below w.heap.size w w' := by
  have HX0 := Lib.hid hx.out.1
  have HX1 := Lib.hid hx.out.2.1
  have HX2 := Lib.hid hx.out.2.2.1
  have HX3 := Lib.hid hx.out.2.2.2.1
  have HX4 := Lib.hid hx.out.2.2.2.2.1
  have HX5 := Lib.hid hx.out.2.2.2.2.2
  go_enter Tryz.func46, Tryz.ntmps46; go_upto_region 1 with fail; generalize hA : World.alloc w _ = wb; obtain ⟨Z, hZ⟩ : ∃ Z, Z = w.heap.size := ⟨_, rfl⟩; have HBb : Hid (Below w.heap.size w wb) := Lib.hid (by rw [← hA]; exact (Below.refl _ _).alloc (Nat.le_refl _) _); have HZl : Hid (Z < wb.heap.size) := Lib.hid (by rw [← hA, hZ]; simp); have c0 : wb.cell? ⟨Z, 0, none⟩ = some (.int .i64 x0) := (by rw [← hA, hZ]; simp); have c1 : wb.cell? ⟨Z, 1, none⟩ = some (.int .i64 x1) := (by rw [← hA, hZ]; simp); have c2 : wb.cell? ⟨Z, 2, none⟩ = some (.int .i64 x2) := (by rw [← hA, hZ]; simp); have c3 : wb.cell? ⟨Z, 3, none⟩ = some (.int .i64 x3) := (by rw [← hA, hZ]; simp); have c4 : wb.cell? ⟨Z, 4, none⟩ = some (.int .i64 x4) := (by rw [← hA, hZ]; simp); have c5 : wb.cell? ⟨Z, 5, none⟩ = some (.int .i64 x5) := (by rw [← hA, hZ]; simp); have HCk : Hid (∀ W, Below wb.heap.size wb W → W.cell? ⟨Z, 2, none⟩ = some (.int .i64 x2) ∧ W.cell? ⟨Z, 3, none⟩ = some (.int .i64 x3) ∧ W.cell? ⟨Z, 4, none⟩ = some (.int .i64 x4) ∧ W.cell? ⟨Z, 5, none⟩ = some (.int .i64 x5)) := Lib.hid (fun W hW => ⟨(hW.cell (p := ⟨Z, 2, none⟩) HZl.out).trans c2, (hW.cell (p := ⟨Z, 3, none⟩) HZl.out).trans c3, (hW.cell (p := ⟨Z, 4, none⟩) HZl.out).trans c4, (hW.cell (p := ⟨Z, 5, none⟩) HZl.out).trans c5⟩); rw [← hZ]; clear hA hZ c2 c3 c4 c5
  go_upto_region 16 with (first
    | (go_at_call 83; (with_reducible refine (mnew_ok x0 x1 16 n0 n1 HX0 HX1 h0.1 h0.2 h1.1 h1.2 (by decide) (by decide) _).mono ?_); rintro e w1 ⟨mb, S, a, b, N, cb, rfl, hm, hn⟩; have HM := Lib.hid hm; have HN := Lib.hid hn.out; have HB1 : Hid (Below wb.heap.size wb w1) := Lib.hid hm.sv.bel; obtain ⟨d2, d3, d4, d5⟩ := HCk.out _ HB1.out; clear hm hn c0 c1)
    | (go_at_call 84; (with_reducible refine (dnew_ok x2 n2 HX2 h2.1 h2.2 _).mono ?_); rintro e w2 ⟨dP, dp, dR, dG, dQ, rfl, hd, hb⟩; have HD := Lib.hid hd; have HB2 := Lib.hid hb; have HB2b := Lib.hid (HB1.out.trans (hb.mono HB1.out.size)); obtain ⟨e2, e3, e4, e5⟩ := HCk.out _ HB2b.out; clear hd hb d2 d3 d4 d5)
    | (go_at_call 85; (with_reducible refine (mtnew_ok x3 n3 HX3 h3.1 h3.2 _).mono ?_); rintro e w3 ⟨tP, tp, tR, tG, rfl, ht, hb⟩; have HT := Lib.hid ht; have HB3 := Lib.hid hb; have HB3b := Lib.hid (HB2b.out.trans (hb.mono HB2b.out.size)); obtain ⟨f2, f3, f4, f5⟩ := HCk.out _ HB3b.out; clear ht hb e2 e3 e4 e5)
    | (go_at_call 86; (with_reducible refine (bknew_ok x4 n4 mb dP HX4 h4.1 h4.2 _).mono ?_); rintro e w4 ⟨P, p, B, A, G1, G2, G3, rfl, hk, hb⟩; have HK := Lib.hid hk; have HB4 := Lib.hid hb; have HB4b := Lib.hid (HB3b.out.trans (hb.mono HB3b.out.size)); obtain ⟨g2, g3, g4, g5⟩ := HCk.out _ HB4b.out; clear hk hb f2 f3 f4 f5)
    | (go_at_call 87; (with_reducible refine (mknew_ok x5 n5 HX5 h5.1 h5.2 _).mono ?_); rintro e w5 ⟨fP, fp, fR, fG, rfl, hf, hb⟩; have HF := Lib.hid hf; have HB5 := Lib.hid hb; have HB5b := Lib.hid (HB4b.out.trans (hb.mono HB4b.out.size)); clear hf hb g2 g3 g4 g5))
  go_wp2_with fail
  go_ret2
  have s2 := HB2.out.size
  have s3 := HB3.out.size
  have s4 := HB4.out.size
  have s5 := HB5.out.size
  have hd := HD.out
  have hk := HK.out
  have hQ := (hd.qs.lt dQ rfl).2
  have b5 : Below w5.heap.size w5 ((w5.alloc (.cells #[.slice none 0 0, .map none] 135 (0, 0))).alloc (.cells #[.pointer (some ⟨mb, 0, none⟩), .pointer (some ⟨dP, 0, none⟩), .pointer (some ⟨tP, 0, none⟩), .pointer (some ⟨P, 0, none⟩), .pointer (some ⟨fP, 0, none⟩), .pointer (some ⟨w5.heap.size, 0, none⟩), .slice none 0 0, .slice none 0 0, .int .i64 0] 38 (0, 0))) := ((Below.refl _ _).alloc (Nat.le_refl _) _).alloc (by simp) _
  have b4 := HB5.out.trans (b5.mono s5)
  have b3 := HB4.out.trans (b4.mono s4)
  have b2 := HB3.out.trans (b3.mono s3)
  have b1 := HB2.out.trans (b2.mono s2)
  have hM0 : MMD w w1 ⟨mb, S, a, b, N, cb, w1.heap.size, dP, dp, dR, dG, dQ, n2, n2, w3.heap.size, P, p, B, A, G1, G2, G3, n4, n4, w4.heap.size, 16⟩ st0 := MMD.base HM.out HBb.out
  refine ⟨⟨mb, S, a, b, N, cb, w1.heap.size, dP, dp, dR, dG, dQ, n2, n2, w3.heap.size, P, p, B, A, G1, G2, G3, n4, n4, w4.heap.size, 16⟩, ⟨w5.heap.size + 1, w5.heap.size, w2.heap.size, tP, tp, tR, tG, n3, w4.heap.size, fP, fp, fR, fG, n5⟩, rfl, ?_, Lib.hid ⟨HN.out.1, HN.out.2, rfl, rfl, rfl, rfl⟩, HBb.out.trans ((HB1.out.trans (b1.mono HB1.out.size)).mono HBb.out.size)⟩
  have e : thN 0 = fun _ => false := by funext i; simp [thN]
  refine ⟨⟨MemAt.below hM0 b1, hd.below b2, ?_, ⟨HM.out.ml, HM.out.ca.cl, HM.out.nN⟩, ⟨Nat.lt_of_lt_of_le hd.pl.pl s3, Nat.lt_of_lt_of_le hd.pl.ar.pl s3, Nat.lt_of_lt_of_le hd.pl.ar.lt.2 s3, Nat.lt_of_lt_of_le hd.pl.gl.2 s3, Nat.lt_of_lt_of_le hQ s3⟩, Nat.le_trans s2 s3, fun i hi => by simp [st0] at hi, Nat.zero_le _, ⟨s4, hk.pl, hk.ar.pl, hk.ar.lt.2, hk.ac.lt.2, hk.t1.lt.2, hk.t2.lt.2, hk.t3.lt.2⟩, b4.size⟩, rfl, HT.out.below b3, HF.out.below b5, ⟨by simp, by simp, by simp, by simp, by simp, by simp, by simp, by simp⟩, by simp, by simp, (by simp; omega), ⟨Nat.le_trans s5 (Nat.le_succ _), s5, Nat.succ_ne_self _, Nat.le_refl _, Nat.le_trans HBb.out.size (Nat.le_trans HB1.out.size HB2.out.size), s2, hd.pl.ar.lt.2, hd.pl.gl.2, HT.out.pl, HT.out.ar.pl, HT.out.ar.lt.2, (HT.out.row.lt tG rfl).2⟩⟩
  show BkAt _ _ _ _ _ _ _ _ _ _ _ _ _ (thN 0) _ _ _ _ _ _ _ _ _ _
  rw [e]
  exact hk.below b4
end Go.Proofs.YtncopdhhchmpeaaGreatDoor
namespace Go.Proofs.YtncopdhhchmpeaaGreatDoor
open Go.ChangeShapes Go.WideShapes Go.ChangeAt Go.RowKit
set_option linter.unusedVariables false
set_option linter.unusedSimpArgs false
theorem info_light {P : Program} {T : TypeId} (h : ((P.info? T).bind fun i => i.zero.map fun z => decide (i.bytes ≤ 4000)) = some true) : ∃ i z, P.info? T = some i ∧ i.zero = some z ∧ i.bytes ≤ 4000 := by
  cases hi : P.info? T with
  | none => rw [hi] at h; cases h
  | some i =>
    rw [hi] at h
    cases hz : i.zero with
    | none => simp [hz] at h
    | some z => simp [hz] at h; exact ⟨i, z, rfl, hz, h⟩
set_option maxRecDepth 100000 in
set_option maxHeartbeats 8000000 in
theorem rs8_is (w : World) : Calls Tryz.prog 47 #[.int .i64 12, .int .i64 12, .int .i64 6, .int .i64 8, .int .i64 6, .int .i64 4] w fun e w' => ∃ x, e = .returned (.pointer (some ⟨x, 0, none⟩)) ∧ Below w.heap.size w w' := by
  obtain ⟨iN, zN, hi1, hi2, hi3⟩ := info_light (P := Tryz.prog) (T := 163) (by kernel_rfl); have HIN := Lib.hid (⟨hi1, hi2, hi3⟩ : Tryz.prog.info? 163 = some iN ∧ iN.zero = some zN ∧ iN.bytes ≤ 4000); clear hi1 hi2 hi3
  obtain ⟨iP, zP, hi1, hi2, hi3⟩ := info_light (P := Tryz.prog) (T := 179) (by kernel_rfl); have HIP := Lib.hid (⟨hi1, hi2, hi3⟩ : Tryz.prog.info? 179 = some iP ∧ iP.zero = some zP ∧ iP.bytes ≤ 4000); clear hi1 hi2 hi3
  obtain ⟨iD, zD, hi1, hi2, hi3⟩ := info_light (P := Tryz.prog) (T := 293) (by kernel_rfl); have HID := Lib.hid (⟨hi1, hi2, hi3⟩ : Tryz.prog.info? 293 = some iD ∧ iD.zero = some zD ∧ iD.bytes ≤ 4000); clear hi1 hi2 hi3
  obtain ⟨iM, zM, hi1, hi2, hi3⟩ := info_light (P := Tryz.prog) (T := 295) (by kernel_rfl); have HIM := Lib.hid (⟨hi1, hi2, hi3⟩ : Tryz.prog.info? 295 = some iM ∧ iM.zero = some zM ∧ iM.bytes ≤ 4000); clear hi1 hi2 hi3
  obtain ⟨iB, zB, hi1, hi2, hi3⟩ := info_light (P := Tryz.prog) (T := 297) (by kernel_rfl); have HIB := Lib.hid (⟨hi1, hi2, hi3⟩ : Tryz.prog.info? 297 = some iB ∧ iB.zero = some zB ∧ iB.bytes ≤ 4000); clear hi1 hi2 hi3
  obtain ⟨iF, zF, hi1, hi2, hi3⟩ := info_light (P := Tryz.prog) (T := 299) (by kernel_rfl); have HIF := Lib.hid (⟨hi1, hi2, hi3⟩ : Tryz.prog.info? 299 = some iF ∧ iF.zero = some zF ∧ iF.bytes ≤ 4000); clear hi1 hi2 hi3
  have HZ0 : Hid (Below w.heap.size w w) := Lib.hid (Below.refl _ _)
  go_enter Tryz.func47, Tryz.ntmps47
  go_upto_region 2 with (first
    | (go_at_call 88; (with_reducible refine (slots_is 12 12 (Lib.hid rfl) (by decide) w).mono ?_); rintro e w1 ⟨v1, rfl, hr, hb⟩; obtain ⟨a1, c1, rfl⟩ := own_shape' hr; have HZ1 := Lib.hid (HZ0.out.trans (hb.mono HZ0.out.size)); clear hr hb)
    | (go_at_call 88; (with_reducible refine (slots_is 12 12 (Lib.hid rfl) (by decide) w1).mono ?_); rintro e w2 ⟨v2, rfl, hr, hb⟩; obtain ⟨a2, c2, rfl⟩ := own_shape' hr; have HZ2 := Lib.hid (HZ1.out.trans (hb.mono HZ1.out.size)); clear hr hb)
    | (go_at_call 88; (with_reducible refine (slots_is 6 6 (Lib.hid rfl) (by decide) w2).mono ?_); rintro e w3 ⟨v3, rfl, hr, hb⟩; obtain ⟨a3, c3, rfl⟩ := own_shape' hr; have HZ3 := Lib.hid (HZ2.out.trans (hb.mono HZ2.out.size)); clear hr hb)
    | (go_at_call 88; (with_reducible refine (slots_is 8 8 (Lib.hid rfl) (by decide) w3).mono ?_); rintro e w4 ⟨v4, rfl, hr, hb⟩; obtain ⟨a4, c4, rfl⟩ := own_shape' hr; have HZ4 := Lib.hid (HZ3.out.trans (hb.mono HZ3.out.size)); clear hr hb)
    | (go_at_call 88; (with_reducible refine (slots_is 6 6 (Lib.hid rfl) (by decide) w4).mono ?_); rintro e w5 ⟨v5, rfl, hr, hb⟩; obtain ⟨a5, c5, rfl⟩ := own_shape' hr; have HZ5 := Lib.hid (HZ4.out.trans (hb.mono HZ4.out.size)); clear hr hb)
    | (go_at_call 88; (with_reducible refine (slots_is 4 4 (Lib.hid rfl) (by decide) w5).mono ?_); rintro e w6 ⟨v6, rfl, hr, hb⟩; obtain ⟨a6, c6, rfl⟩ := own_shape' hr; have HZ6 := Lib.hid (HZ5.out.trans (hb.mono HZ5.out.size)); clear hr hb))
  obtain ⟨w7, hw7⟩ : ∃ w7, w7 = w6.alloc (.cells #[.slice a1 12 c1, .slice a2 12 c2, .slice a3 6 c3, .slice a4 8 c4, .slice a5 6 c5, .slice a6 4 c6, .slice none 0 0, .slice none 0 0, .slice none 0 0, .slice none 0 0, .slice none 0 0, .slice none 0 0, .slice none 0 0, .slice none 0 0, .slice none 0 0, .int .i64 0] 155 (0, 0)) := ⟨_, rfl⟩
  have HX7 : Hid (SyBx w6 w7 w6.heap.size) := Lib.hid (by
    rw [hw7]
    exact ⟨(Below.refl _ _).alloc (Nat.le_refl _) _, rfl, ⟨_, own_box w6 _ _ _ 16 _ rfl rfl (Nat.le_refl _)⟩⟩)
  rw [← hw7]
  clear hw7
  go_wp2_with (first
    | (at_make; refine wpList_make_full _ rfl _ _ 148 rfl 0 163 iN zN iN.size Tryz.underlying148 HIN.out.1 HIN.out.2.1 rfl .i64 .i64 _ _ 12 rfl rfl rfl rfl (by have := HIN.out.2.2; omega) (by decide) (Nat.zero_le _) ?_); intro w8 hown hgrow; have HX8 := Lib.hid (HX7.out.grow hgrow); obtain ⟨⟨u6, c6⟩, z6⟩ := HX8.out.cell 6 (by decide); clear hown hgrow
    | (at_make; refine wpList_make_full _ rfl _ _ 149 rfl 0 179 iP zP iP.size Tryz.underlying149 HIP.out.1 HIP.out.2.1 rfl .i64 .i64 _ _ 12 rfl rfl rfl rfl (by have := HIP.out.2.2; omega) (by decide) (Nat.zero_le _) ?_); intro w9 hown hgrow; have HX9 := Lib.hid (HX8.out.next 6 _ hgrow); obtain ⟨⟨u7, c7⟩, z7⟩ := HX9.out.cell 7 (by decide); clear hown hgrow
    | (at_make; refine wpList_make_full _ rfl _ _ 150 rfl 0 293 iD zD iD.size Tryz.underlying150 HID.out.1 HID.out.2.1 rfl .i64 .i64 _ _ 6 rfl rfl rfl rfl (by have := HID.out.2.2; omega) (by decide) (Nat.zero_le _) ?_); intro w10 hown hgrow; have HX10 := Lib.hid (HX9.out.next 7 _ hgrow); obtain ⟨⟨u8, c8⟩, z8⟩ := HX10.out.cell 8 (by decide); clear hown hgrow
    | (at_make; refine wpList_make_full _ rfl _ _ 151 rfl 0 295 iM zM iM.size Tryz.underlying151 HIM.out.1 HIM.out.2.1 rfl .i64 .i64 _ _ 8 rfl rfl rfl rfl (by have := HIM.out.2.2; omega) (by decide) (Nat.zero_le _) ?_); intro w11 hown hgrow; have HX11 := Lib.hid (HX10.out.next 8 _ hgrow); obtain ⟨⟨u9, c9⟩, z9⟩ := HX11.out.cell 9 (by decide); clear hown hgrow
    | (at_make; refine wpList_make_full _ rfl _ _ 152 rfl 0 297 iB zB iB.size Tryz.underlying152 HIB.out.1 HIB.out.2.1 rfl .i64 .i64 _ _ 6 rfl rfl rfl rfl (by have := HIB.out.2.2; omega) (by decide) (Nat.zero_le _) ?_); intro w12 hown hgrow; have HX12 := Lib.hid (HX11.out.next 9 _ hgrow); obtain ⟨⟨u10, c10⟩, z10⟩ := HX12.out.cell 10 (by decide); clear hown hgrow
    | (at_make; refine wpList_make_full _ rfl _ _ 153 rfl 0 299 iF zF iF.size Tryz.underlying153 HIF.out.1 HIF.out.2.1 rfl .i64 .i64 _ _ 4 rfl rfl rfl rfl (by have := HIF.out.2.2; omega) (by decide) (Nat.zero_le _) ?_); intro w13 hown hgrow; have HX13 := Lib.hid (HX12.out.next 10 _ hgrow); obtain ⟨⟨u11, c11⟩, z11⟩ := HX13.out.cell 11 (by decide); clear hown hgrow)
  go_ret
  exact ⟨_, rfl, (HZ6.out.trans (HX13.out.bel.mono HZ6.out.size)).setCell HZ6.out.size _⟩
end Go.Proofs.YtncopdhhchmpeaaGreatDoor
namespace Go.Proofs.YtncopdhhchmpeaaGreatDoor
open Go.ChangeShapes Go.WideShapes Go.ChangeAt Go.RowKit
set_option linter.unusedVariables false
set_option linter.unusedSimpArgs false
section
variable {s m d t b f q : Nat} {st : Int}
set_option maxRecDepth 100000 in
set_option maxHeartbeats 2000000 in
theorem slive_judge (w : World) : Calls Tryz.prog 21 #[.pointer (some ⟨s, 0, none⟩), .agg #[.int .i64 12, .int .i64 0, .int .i64 0, .int .i64 0, .int .u32 0]] w fun e w' => e = .returned (.bool true) ∧ Below w.heap.size w w' := by
  go_enter Tryz.func21, Tryz.ntmps21
  go_wp2_with fail
  go_ret
  exact ⟨rfl, (Below.refl _ _).alloc (Nat.le_refl _) _⟩
set_option maxRecDepth 100000 in
set_option maxHeartbeats 4000000 in
theorem slive_dom (k1 k2 k3 k4 : Int) (dp dR n c base : Nat) (th : Nat → Bool) (vr : Nat → Int) (r : Bool) (hr : Hid ((thereB n th k1 && (vr k1.toNat == k2)) = r)) (w : World) (hB : SyB w s m d t b f q st) (hP : w.cell? ⟨d, 0, none⟩ = some (.pointer (some ⟨dp, 0, none⟩))) (hA : ArAt w base dp dR n c th vr) :
    Calls Tryz.prog 21 #[.pointer (some ⟨s, 0, none⟩), .agg #[.int .i64 4, .int .i64 k1, .int .i64 k2, .int .i64 k3, .int .u32 k4]] w fun e w' => e = .returned (.bool r) ∧ Below w.heap.size w w' := by
  have HA := Lib.hid (fun W (hW : Below w.heap.size w W) => alive_is k1 k2 r hr W (hA.below hW))
  have HB := Lib.hid hB
  have HP := Lib.hid hP
  have hdl : d < w.heap.size := cell_lt hP
  clear hA hB hP
  go_enter Tryz.func21, Tryz.ntmps21
  go_upto_region 1 with fail
  generalize hA : World.alloc w _ = wA
  obtain ⟨K, hK⟩ : ∃ K, K = w.heap.size := ⟨_, rfl⟩
  have HBa : Hid (Below w.heap.size w wA) := Lib.hid (by rw [← hA]; exact (Below.refl _ _).alloc (Nat.le_refl _) _)
  have kc0 : wA.cell? ⟨K, 0, none⟩ = some (.int .i64 4) := by rw [← hA, hK]; simp
  have kc1 : wA.cell? ⟨K, 1, none⟩ = some (.int .i64 k1) := by rw [← hA, hK]; simp
  have kc2 : wA.cell? ⟨K, 2, none⟩ = some (.int .i64 k2) := by rw [← hA, hK]; simp
  have sc := ((HB.out.below HBa.out).c1)
  have pc := (HBa.out.cell (p := ⟨d, 0, none⟩) hdl).trans HP.out
  rw [← hK]
  clear hA hK hdl
  go_wp2_with fail
  have HA9 := Lib.hid (fun n => HA.out (wA.drewN n) (below_drewN HBa.out n))
  go_quiet ((go_at_call 67; exact kquiet_left (HA9.out _)))
  go_wp2_with fail
  go_ret
  exact ⟨rfl, below_drewN HBa.out _⟩
end
set_option maxRecDepth 100000 in
set_option maxHeartbeats 2000000 in
theorem script_ok (w : World) : Calls Tryz.prog 11 #[] w fun e w' => ∃ L X x, e = .returned (.tuple #[(.pointer (some ⟨X.s, 0, none⟩)), .pointer (some ⟨x, 0, none⟩)]) ∧ SysNew w w' L X ∧ Hid (L.a.n = 12 ∧ L.b.n = 12 ∧ L.dn = 6 ∧ X.tn = 8 ∧ L.n = 6 ∧ X.fn = 4) ∧ Below w.heap.size w w' := by
  go_enter Tryz.func11, Tryz.ntmps11
  go_wp2_with (first
    | (go_at_call 46; (with_reducible refine (sys_ok 12 12 6 8 6 4 (by decide) (by decide) (by decide) (by decide) (by decide) (by decide) 12 12 6 8 6 4 (Lib.hid (by decide)) _).mono ?_); rintro e w1 ⟨L, X, rfl, hs, hn, hb⟩; have HSy := Lib.hid hs; have HN := Lib.hid hn.out; have HB1 := Lib.hid hb; clear hs hn hb)
    | (go_at_call 47; (with_reducible refine (rs8_is _).mono ?_); rintro e w2 ⟨x, rfl, hb⟩; have HB2 := Lib.hid hb; clear hb))
  go_ret2
  exact ⟨L, X, x, rfl, HSy.out.below HB2.out, HN, HB1.out.trans (HB2.out.mono HB1.out.size)⟩
set_option maxRecDepth 100000 in
set_option maxHeartbeats 2000000 in
theorem first21_is (w : World) : Calls Tryz.prog 10 #[] w fun e w' => e = .returned (.bool true) ∧ Below w.heap.size w w' := by
  go_enter Tryz.func10, Tryz.ntmps10
  go_wp2_with (first
    | (go_at_call 11; (with_reducible refine (script_ok _).mono ?_); rintro e w1 ⟨L, X, x, rfl, hs, -, hb⟩; have HB1 := Lib.hid hb; have HLv := Lib.hid (slive_dom (s := X.s) 0 0 0 0 L.dp L.dR L.dn L.dc L.dB st0.dt st0.dv false (Lib.hid (by simp [thereB, st0])) w1 hs.b hs.k.d.pl.f0 hs.k.d.pl.ar); clear hs hb)
    | (go_at_call 21; (with_reducible refine HLv.out.mono ?_); rintro e w2 ⟨rfl, hb⟩; have HB2 := Lib.hid (HB1.out.trans (hb.mono HB1.out.size)); clear hb)
    | (go_at_call 21; (with_reducible refine (slive_judge _).mono ?_); rintro e w3 ⟨rfl, hb⟩; have HB3 := Lib.hid (HB2.out.trans (hb.mono HB2.out.size)); clear hb))
  go_ret
  exact ⟨rfl, HB3.out⟩
end Go.Proofs.YtncopdhhchmpeaaGreatDoor
namespace Go.Proofs.YtncopdhhchmpeaaGreatDoor
open Go.ChangeShapes Go.WideShapes Go.ChangeAt Go.RowKit
set_option linter.unusedVariables false
set_option linter.unusedSimpArgs false
/-- The cells of a call: the system, the key, the note. -/
structure CallC (cs : List Value) (s : Nat) (k0 k1 k2 k3 k4 o x : Int) : Prop where
  len : cs.length = 25
  c0 : cs[0]? = some (.pointer (some ⟨s, 0, none⟩))
  c1 : cs[1]? = some (.int .i64 k0)
  c2 : cs[2]? = some (.int .i64 k1)
  c3 : cs[3]? = some (.int .i64 k2)
  c4 : cs[4]? = some (.int .i64 k3)
  c5 : cs[5]? = some (.int .u32 k4)
  c6 : cs[6]? = some (.int .u32 o)
  c7 : cs[7]? = some (.int .u32 x)
  one : ∀ v, v ∈ cs → v.oneCell' = true
theorem CallC.cell {w : World} {b : Nat} {cs : List Value} (hr : w.rangeAt b 0 cs) (j : Nat) (v : Value) (hv : cs[j]? = some v) : w.cell? ⟨b, j, none⟩ = some v := by
  have := hr j v hv
  rwa [Nat.zero_add] at this
section
variable {cs : List Value} {s : Nat} {k0 k1 k2 k3 k4 o x : Int}
end
end Go.Proofs.YtncopdhhchmpeaaGreatDoor
namespace Go.Proofs.YtncopdhhchmpeaaGreatDoor
open Go.ChangeShapes Go.WideShapes Go.ChangeAt Go.RowKit
set_option linter.unusedVariables false
set_option linter.unusedSimpArgs false
theorem ofive {w : World} {b : Nat} {k0 k1 k2 k3 k4 : Int} (h : KeyC w b k0 k1 k2 k3 k4) : (World.cell? w ⟨b, 0, none⟩ = some (.int .i64 k0) ∧ World.cell? w ⟨b, 1, none⟩ = some (.int .i64 k1) ∧ World.cell? w ⟨b, 2, none⟩ = some (.int .i64 k2) ∧ World.cell? w ⟨b, 3, none⟩ = some (.int .i64 k3) ∧ World.cell? w ⟨b, 4, none⟩ = some (.int .u32 k4)) := ⟨h.c0, h.c1, h.c2, h.c3, h.c4⟩
section
variable {s : Nat}
set_option maxRecDepth 100000 in
set_option maxHeartbeats 2000000 in
theorem oseen_live (k0 k1 k2 k3 k4 : Int) (w : World) (hv : ∀ W, Below w.heap.size w W → Calls Tryz.prog 70 #[(Value.agg #[.int .i64 k0, .int .i64 k1, .int .i64 k2, .int .i64 k3, .int .u32 k4])] W fun e w' => e = .returned .nilIface ∧ Below W.heap.size W w')
    (hl : ∀ W, Below w.heap.size w W → Calls Tryz.prog 21 #[.pointer (some ⟨s, 0, none⟩), (Value.agg #[.int .i64 k0, .int .i64 k1, .int .i64 k2, .int .i64 k3, .int .u32 k4])] W fun e w' => e = .returned (.bool true) ∧ Below W.heap.size W w') :
    Calls Tryz.prog 23 #[.pointer (some ⟨s, 0, none⟩), (Value.agg #[.int .i64 k0, .int .i64 k1, .int .i64 k2, .int .i64 k3, .int .u32 k4])] w fun e w' => e = .returned (Value.agg #[.int .i64 k0, .int .i64 k1, .int .i64 k2, .int .i64 k3, .int .u32 k4]) ∧ Below w.heap.size w w' := by
  have HV := Lib.hid hv
  have HL := Lib.hid hl
  clear hv hl
  go_enter Tryz.func23, Tryz.ntmps23
  go_upto_region 1 with fail
  generalize hA : World.alloc w _ = wK
  obtain ⟨K, hK⟩ : ∃ K, K = w.heap.size := ⟨_, rfl⟩
  have HK : Hid (Below w.heap.size w wK ∧ KeyC wK K k0 k1 k2 k3 k4 ∧ wK.heap.size = K + 1 ∧ w.heap.size ≤ K + 1) := Lib.hid (by rw [← hA, hK]; exact ⟨(Below.refl _ _).alloc (Nat.le_refl _) _, KeyC.new w k0 k1 k2 k3 k4 _, by simp, Nat.le_succ _⟩)
  rw [← hK]
  clear hA hK
  generalize hA : World.alloc wK _ = wA
  obtain ⟨R, hR⟩ : ∃ R, R = K + 1 := ⟨_, rfl⟩
  have HA : Hid (Below w.heap.size w wA ∧ KeyC wA K k0 k1 k2 k3 k4 ∧ KeyC wA R 0 0 0 0 0 ∧ w.heap.size ≤ R) := Lib.hid (by rw [← hA, hR, ← HK.out.2.2.1]; exact ⟨HK.out.1.alloc HK.out.1.size _, HK.out.2.1.below ((Below.refl _ _).alloc (Nat.le_refl _) _), KeyC.new wK 0 0 0 0 0 _, HK.out.1.size⟩)
  rw [← hR]
  clear hA hR
  have q0 := HA.out.2.1.c0; have q1 := HA.out.2.1.c1; have q2 := HA.out.2.1.c2; have q3 := HA.out.2.1.c3; have q4 := HA.out.2.1.c4
  go_wp2_with (first
    | (go_at_call 70; (with_reducible refine (HV.out _ HA.out.1).mono ?_); rintro e w1 ⟨rfl, hb⟩; have H1 : Hid (Below w.heap.size w w1 ∧ KeyC w1 K k0 k1 k2 k3 k4 ∧ KeyC w1 R 0 0 0 0 0) := Lib.hid ⟨HA.out.1.trans (hb.mono HA.out.1.size), HA.out.2.1.below hb, HA.out.2.2.1.below hb⟩; clear hb q0 q1 q2 q3 q4; have q0 := H1.out.2.1.c0; have q1 := H1.out.2.1.c1; have q2 := H1.out.2.1.c2; have q3 := H1.out.2.1.c3; have q4 := H1.out.2.1.c4)
    | (go_at_call 21; (with_reducible refine (HL.out _ H1.out.1).mono ?_); rintro e w2 ⟨rfl, hb⟩; have H2 : Hid (Below w.heap.size w w2 ∧ KeyC w2 K k0 k1 k2 k3 k4 ∧ KeyC w2 R 0 0 0 0 0) := Lib.hid ⟨H1.out.1.trans (hb.mono H1.out.1.size), H1.out.2.1.below hb, H1.out.2.2.below hb⟩; clear hb q0 q1 q2 q3 q4; have q0 := H2.out.2.1.c0; have q1 := H2.out.2.1.c1; have q2 := H2.out.2.1.c2; have q3 := H2.out.2.1.c3; have q4 := H2.out.2.1.c4; have z0 := H2.out.2.2.c0; have z1 := H2.out.2.2.c1; have z2 := H2.out.2.2.c2; have z3 := H2.out.2.2.c3; have z4 := H2.out.2.2.c4; have f0 := H2.out.2.2.fr 0; have f1 := H2.out.2.2.fr 1; have f2 := H2.out.2.2.fr 2; have f3 := H2.out.2.2.fr 3; have f4 := H2.out.2.2.fr 4))
  have t := H2.out.2.2.set k0 k1 k2 k3 k4
  have t0 := t.c0
  have t1 := t.c1
  have t2 := t.c2
  have t3 := t.c3
  have t4 := t.c4
  refine bodyPost_ret (v := (Value.agg #[.int .i64 k0, .int .i64 k1, .int .i64 k2, .int .i64 k3, .int .u32 k4])) (by simp [results, Tryz.results23, go_sem, t0, t1, t2, t3, t4]) rfl ⟨rfl, ?_⟩
  have hR := HA.out.2.2.2
  exact ((((H2.out.1.setCell hR _).setCell hR _).setCell hR _).setCell hR _).setCell hR _
set_option maxRecDepth 100000 in
set_option maxHeartbeats 2000000 in
theorem oseen_dead (k0 k1 k2 k3 k4 : Int) (w : World) (hv : ∀ W, Below w.heap.size w W → Calls Tryz.prog 70 #[(Value.agg #[.int .i64 k0, .int .i64 k1, .int .i64 k2, .int .i64 k3, .int .u32 k4])] W fun e w' => e = .returned .nilIface ∧ Below W.heap.size W w')
    (hl : ∀ W, Below w.heap.size w W → Calls Tryz.prog 21 #[.pointer (some ⟨s, 0, none⟩), (Value.agg #[.int .i64 k0, .int .i64 k1, .int .i64 k2, .int .i64 k3, .int .u32 k4])] W fun e w' => e = .returned (.bool false) ∧ Below W.heap.size W w') :
    Calls Tryz.prog 23 #[.pointer (some ⟨s, 0, none⟩), (Value.agg #[.int .i64 k0, .int .i64 k1, .int .i64 k2, .int .i64 k3, .int .u32 k4])] w fun e w' => e = .returned (Value.agg #[.int .i64 0, .int .i64 0, .int .i64 0, .int .i64 0, .int .u32 0]) ∧ Below w.heap.size w w' := by
  have HV := Lib.hid hv
  have HL := Lib.hid hl
  clear hv hl
  go_enter Tryz.func23, Tryz.ntmps23
  go_upto_region 1 with fail
  generalize hA : World.alloc w _ = wK
  obtain ⟨K, hK⟩ : ∃ K, K = w.heap.size := ⟨_, rfl⟩
  have HK : Hid (Below w.heap.size w wK ∧ KeyC wK K k0 k1 k2 k3 k4 ∧ wK.heap.size = K + 1 ∧ w.heap.size ≤ K + 1) := Lib.hid (by rw [← hA, hK]; exact ⟨(Below.refl _ _).alloc (Nat.le_refl _) _, KeyC.new w k0 k1 k2 k3 k4 _, by simp, Nat.le_succ _⟩)
  rw [← hK]
  clear hA hK
  generalize hA : World.alloc wK _ = wA
  obtain ⟨R, hR⟩ : ∃ R, R = K + 1 := ⟨_, rfl⟩
  have HA : Hid (Below w.heap.size w wA ∧ KeyC wA K k0 k1 k2 k3 k4 ∧ KeyC wA R 0 0 0 0 0 ∧ w.heap.size ≤ R) := Lib.hid (by rw [← hA, hR, ← HK.out.2.2.1]; exact ⟨HK.out.1.alloc HK.out.1.size _, HK.out.2.1.below ((Below.refl _ _).alloc (Nat.le_refl _) _), KeyC.new wK 0 0 0 0 0 _, HK.out.1.size⟩)
  rw [← hR]
  clear hA hR
  have q0 := HA.out.2.1.c0; have q1 := HA.out.2.1.c1; have q2 := HA.out.2.1.c2; have q3 := HA.out.2.1.c3; have q4 := HA.out.2.1.c4
  go_wp2_with (first
    | (go_at_call 70; (with_reducible refine (HV.out _ HA.out.1).mono ?_); rintro e w1 ⟨rfl, hb⟩; have H1 : Hid (Below w.heap.size w w1 ∧ KeyC w1 K k0 k1 k2 k3 k4 ∧ KeyC w1 R 0 0 0 0 0) := Lib.hid ⟨HA.out.1.trans (hb.mono HA.out.1.size), HA.out.2.1.below hb, HA.out.2.2.1.below hb⟩; clear hb q0 q1 q2 q3 q4; have q0 := H1.out.2.1.c0; have q1 := H1.out.2.1.c1; have q2 := H1.out.2.1.c2; have q3 := H1.out.2.1.c3; have q4 := H1.out.2.1.c4)
    | (go_at_call 21; (with_reducible refine (HL.out _ H1.out.1).mono ?_); rintro e w2 ⟨rfl, hb⟩; have H2 : Hid (Below w.heap.size w w2 ∧ KeyC w2 K k0 k1 k2 k3 k4 ∧ KeyC w2 R 0 0 0 0 0) := Lib.hid ⟨H1.out.1.trans (hb.mono H1.out.1.size), H1.out.2.1.below hb, H1.out.2.2.below hb⟩; clear hb q0 q1 q2 q3 q4; have q0 := H2.out.2.1.c0; have q1 := H2.out.2.1.c1; have q2 := H2.out.2.1.c2; have q3 := H2.out.2.1.c3; have q4 := H2.out.2.1.c4; have z0 := H2.out.2.2.c0; have z1 := H2.out.2.2.c1; have z2 := H2.out.2.2.c2; have z3 := H2.out.2.2.c3; have z4 := H2.out.2.2.c4; have f0 := H2.out.2.2.fr 0; have f1 := H2.out.2.2.fr 1; have f2 := H2.out.2.2.fr 2; have f3 := H2.out.2.2.fr 3; have f4 := H2.out.2.2.fr 4))
  have t := H2.out.2.2.set 0 0 0 0 0
  have t0 := t.c0
  have t1 := t.c1
  have t2 := t.c2
  have t3 := t.c3
  have t4 := t.c4
  refine bodyPost_ret (v := Value.agg #[.int .i64 0, .int .i64 0, .int .i64 0, .int .i64 0, .int .u32 0]) (by simp [results, Tryz.results23, go_sem, t0, t1, t2, t3, t4]) rfl ⟨rfl, ?_⟩
  have hR := HA.out.2.2.2
  exact ((((H2.out.1.setCell hR _).setCell hR _).setCell hR _).setCell hR _).setCell hR _
end
end Go.Proofs.YtncopdhhchmpeaaGreatDoor
namespace Go.Proofs.YtncopdhhchmpeaaGreatDoor
open Go.ChangeShapes Go.WideShapes Go.ChangeAt Go.RowKit
set_option linter.unusedVariables false
set_option linter.unusedSimpArgs false
section
variable {s m d t b f q : Nat} {st : Int}
set_option maxRecDepth 100000 in
set_option maxHeartbeats 4000000 in
theorem slive_meter (k1 k2 k3 k4 : Int) (dp dR n c base : Nat) (th : Nat → Bool) (vr : Nat → Int) (r : Bool) (hr : Hid ((thereB n th k1 && (vr k1.toNat == k2)) = r)) (w : World) (hB : SyB w s m d t b f q st) (hP : w.cell? ⟨t, 0, none⟩ = some (.pointer (some ⟨dp, 0, none⟩))) (hA : ArAt w base dp dR n c th vr) :
    Calls Tryz.prog 21 #[.pointer (some ⟨s, 0, none⟩), .agg #[.int .i64 7, .int .i64 k1, .int .i64 k2, .int .i64 k3, .int .u32 k4]] w fun e w' => e = .returned (.bool r) ∧ Below w.heap.size w w' := by
  have HA := Lib.hid (fun W (hW : Below w.heap.size w W) => alive_is k1 k2 r hr W (hA.below hW))
  have HB := Lib.hid hB
  have HP := Lib.hid hP
  have hdl : t < w.heap.size := cell_lt hP
  clear hA hB hP
  go_enter Tryz.func21, Tryz.ntmps21
  go_upto_region 1 with fail
  generalize hA : World.alloc w _ = wA
  obtain ⟨K, hK⟩ : ∃ K, K = w.heap.size := ⟨_, rfl⟩
  have HBa : Hid (Below w.heap.size w wA) := Lib.hid (by rw [← hA]; exact (Below.refl _ _).alloc (Nat.le_refl _) _)
  have kc0 : wA.cell? ⟨K, 0, none⟩ = some (.int .i64 7) := by rw [← hA, hK]; simp
  have kc1 : wA.cell? ⟨K, 1, none⟩ = some (.int .i64 k1) := by rw [← hA, hK]; simp
  have kc2 : wA.cell? ⟨K, 2, none⟩ = some (.int .i64 k2) := by rw [← hA, hK]; simp
  have sc := ((HB.out.below HBa.out).c2)
  have pc := (HBa.out.cell (p := ⟨t, 0, none⟩) hdl).trans HP.out
  rw [← hK]
  clear hA hK hdl
  go_wp2_with fail
  have HA9 := Lib.hid (fun n => HA.out (wA.drewN n) (below_drewN HBa.out n))
  go_quiet ((go_at_call 67; exact kquiet_left (HA9.out _)))
  go_wp2_with fail
  go_ret
  exact ⟨rfl, below_drewN HBa.out _⟩
set_option maxRecDepth 100000 in
set_option maxHeartbeats 4000000 in
theorem slive_bank (k1 k2 k3 k4 : Int) (dp dR n c base : Nat) (th : Nat → Bool) (vr : Nat → Int) (r : Bool) (hr : Hid ((thereB n th k1 && (vr k1.toNat == k2)) = r)) (w : World) (hB : SyB w s m d t b f q st) (hP : w.cell? ⟨b, 0, none⟩ = some (.pointer (some ⟨dp, 0, none⟩))) (hA : ArAt w base dp dR n c th vr) :
    Calls Tryz.prog 21 #[.pointer (some ⟨s, 0, none⟩), .agg #[.int .i64 8, .int .i64 k1, .int .i64 k2, .int .i64 k3, .int .u32 k4]] w fun e w' => e = .returned (.bool r) ∧ Below w.heap.size w w' := by
  have HA := Lib.hid (fun W (hW : Below w.heap.size w W) => alive_is k1 k2 r hr W (hA.below hW))
  have HB := Lib.hid hB
  have HP := Lib.hid hP
  have hdl : b < w.heap.size := cell_lt hP
  clear hA hB hP
  go_enter Tryz.func21, Tryz.ntmps21
  go_upto_region 1 with fail
  generalize hA : World.alloc w _ = wA
  obtain ⟨K, hK⟩ : ∃ K, K = w.heap.size := ⟨_, rfl⟩
  have HBa : Hid (Below w.heap.size w wA) := Lib.hid (by rw [← hA]; exact (Below.refl _ _).alloc (Nat.le_refl _) _)
  have kc0 : wA.cell? ⟨K, 0, none⟩ = some (.int .i64 8) := by rw [← hA, hK]; simp
  have kc1 : wA.cell? ⟨K, 1, none⟩ = some (.int .i64 k1) := by rw [← hA, hK]; simp
  have kc2 : wA.cell? ⟨K, 2, none⟩ = some (.int .i64 k2) := by rw [← hA, hK]; simp
  have sc := ((HB.out.below HBa.out).c3)
  have pc := (HBa.out.cell (p := ⟨b, 0, none⟩) hdl).trans HP.out
  rw [← hK]
  clear hA hK hdl
  go_wp2_with fail
  have HA9 := Lib.hid (fun n => HA.out (wA.drewN n) (below_drewN HBa.out n))
  go_quiet ((go_at_call 67; exact kquiet_left (HA9.out _)))
  go_wp2_with fail
  go_ret
  exact ⟨rfl, below_drewN HBa.out _⟩
set_option maxRecDepth 100000 in
set_option maxHeartbeats 2000000 in
theorem oiflive_yes (k0 k1 k2 k3 k4 : Int) (w : World) (hl : ∀ W, Below w.heap.size w W → Calls Tryz.prog 21 #[.pointer (some ⟨s, 0, none⟩), (Value.agg #[.int .i64 k0, .int .i64 k1, .int .i64 k2, .int .i64 k3, .int .u32 k4])] W fun e w' => e = .returned (.bool true) ∧ Below W.heap.size W w') :
    Calls Tryz.prog 57 #[.pointer (some ⟨s, 0, none⟩), (Value.agg #[.int .i64 k0, .int .i64 k1, .int .i64 k2, .int .i64 k3, .int .u32 k4])] w fun e w' => e = .returned (Value.agg #[.int .i64 k0, .int .i64 k1, .int .i64 k2, .int .i64 k3, .int .u32 k4]) ∧ Below w.heap.size w w' := by
  have HL := Lib.hid hl
  clear hl
  go_enter Tryz.func57, Tryz.ntmps57
  go_upto_region 1 with fail
  generalize hA : World.alloc w _ = wK
  obtain ⟨K, hK⟩ : ∃ K, K = w.heap.size := ⟨_, rfl⟩
  have HK : Hid (Below w.heap.size w wK ∧ KeyC wK K k0 k1 k2 k3 k4 ∧ wK.heap.size = K + 1 ∧ w.heap.size ≤ K + 1) := Lib.hid (by rw [← hA, hK]; exact ⟨(Below.refl _ _).alloc (Nat.le_refl _) _, KeyC.new w k0 k1 k2 k3 k4 _, by simp, Nat.le_succ _⟩)
  rw [← hK]
  clear hA hK
  generalize hA : World.alloc wK _ = wA
  obtain ⟨R, hR⟩ : ∃ R, R = K + 1 := ⟨_, rfl⟩
  have HA : Hid (Below w.heap.size w wA ∧ KeyC wA K k0 k1 k2 k3 k4 ∧ KeyC wA R 0 0 0 0 0 ∧ w.heap.size ≤ R) := Lib.hid (by rw [← hA, hR, ← HK.out.2.2.1]; exact ⟨HK.out.1.alloc HK.out.1.size _, HK.out.2.1.below ((Below.refl _ _).alloc (Nat.le_refl _) _), KeyC.new wK 0 0 0 0 0 _, HK.out.1.size⟩)
  rw [← hR]
  clear hA hR
  have q0 := HA.out.2.1.c0; have q1 := HA.out.2.1.c1; have q2 := HA.out.2.1.c2; have q3 := HA.out.2.1.c3; have q4 := HA.out.2.1.c4
  go_wp2_with (first
    | (go_at_call 21; (with_reducible refine (HL.out _ HA.out.1).mono ?_); rintro e w2 ⟨rfl, hb⟩; have H2 : Hid (Below w.heap.size w w2 ∧ KeyC w2 K k0 k1 k2 k3 k4 ∧ KeyC w2 R 0 0 0 0 0) := Lib.hid ⟨HA.out.1.trans (hb.mono HA.out.1.size), HA.out.2.1.below hb, HA.out.2.2.1.below hb⟩; clear hb q0 q1 q2 q3 q4; have q0 := H2.out.2.1.c0; have q1 := H2.out.2.1.c1; have q2 := H2.out.2.1.c2; have q3 := H2.out.2.1.c3; have q4 := H2.out.2.1.c4; have z0 := H2.out.2.2.c0; have z1 := H2.out.2.2.c1; have z2 := H2.out.2.2.c2; have z3 := H2.out.2.2.c3; have z4 := H2.out.2.2.c4; have f0 := H2.out.2.2.fr 0; have f1 := H2.out.2.2.fr 1; have f2 := H2.out.2.2.fr 2; have f3 := H2.out.2.2.fr 3; have f4 := H2.out.2.2.fr 4))
  have t := H2.out.2.2.set k0 k1 k2 k3 k4
  have t0 := t.c0
  have t1 := t.c1
  have t2 := t.c2
  have t3 := t.c3
  have t4 := t.c4
  refine bodyPost_ret (v := (Value.agg #[.int .i64 k0, .int .i64 k1, .int .i64 k2, .int .i64 k3, .int .u32 k4])) (by simp [results, Tryz.results57, go_sem, t0, t1, t2, t3, t4]) rfl ⟨rfl, ?_⟩
  have hR := HA.out.2.2.2
  exact ((((H2.out.1.setCell hR _).setCell hR _).setCell hR _).setCell hR _).setCell hR _
set_option maxRecDepth 100000 in
set_option maxHeartbeats 4000000 in
theorem skey_meter (x v : Int) (p0 : Nat) (w : World) (hB : SyB w s m d t b f q st) (hP : w.cell? ⟨t, 0, none⟩ = some (.pointer (some ⟨p0, 0, none⟩)))
    (hV : ∀ W, Below w.heap.size w W → Calls Tryz.prog 58 #[.pointer (some ⟨p0, 0, none⟩), .int .i64 x] W fun e w' => e = .returned (.int .i64 v) ∧ W = w')
    (hL : ∀ W, Below w.heap.size w W → Calls Tryz.prog 21 #[.pointer (some ⟨s, 0, none⟩), .agg #[.int .i64 7, .int .i64 x, .int .i64 v, .int .i64 0, .int .u32 0]] W fun e w' => e = .returned (.bool true) ∧ Below W.heap.size W w') :
    Calls Tryz.prog 16 #[.pointer (some ⟨s, 0, none⟩), .int .i64 7, .int .i64 x] w fun e w' => e = .returned (.agg #[.int .i64 7, .int .i64 x, .int .i64 v, .int .i64 0, .int .u32 0]) ∧ Below w.heap.size w w' := by
  have HV := Lib.hid hV
  have HL := Lib.hid hL
  have HB := Lib.hid hB
  have HP := Lib.hid (⟨cell_lt hP, hP⟩ : t < w.heap.size ∧ w.cell? ⟨t, 0, none⟩ = some (.pointer (some ⟨p0, 0, none⟩)))
  clear hV hL hB hP
  go_enter Tryz.func16, Tryz.ntmps16
  go_upto_region 1 with fail
  generalize hA : World.alloc w _ = wA
  obtain ⟨K, hK⟩ : ∃ K, K = w.heap.size := ⟨_, rfl⟩
  have HBa : Hid (Below w.heap.size w wA) := Lib.hid (by rw [← hA]; exact (Below.refl _ _).alloc (Nat.le_refl _) _)
  have HK0 : Hid (KeyC wA K 0 0 0 0 0) := Lib.hid (by rw [← hA, hK]; exact KeyC.new w 0 0 0 0 0 _)
  have HKl : Hid (w.heap.size ≤ K) := Lib.hid (by rw [hK]; exact Nat.le_refl _)
  have sc := ((HB.out.below HBa.out).c2)
  have pc := (HBa.out.cell (p := ⟨t, 0, none⟩) HP.out.1).trans HP.out.2
  rw [← hK]
  clear hA hK
  go_wp2_with (first
    | (go_at_call 58; (with_reducible refine (HV.out _ HBa.out).mono ?_); rintro e w1 ⟨rfl, rfl⟩)
    | (go_at_call 57; (with_reducible refine (oiflive_yes 7 x v 0 0 _ (fun W hW => HL.out W (HBa.out.trans (hW.mono HBa.out.size)))).mono ?_); rintro e w1 ⟨rfl, hb⟩; have HB1 := Lib.hid (HBa.out.trans (hb.mono HBa.out.size)); have HK1 := Lib.hid (HK0.out.below hb); clear hb; have z0 := HK1.out.c0; have z1 := HK1.out.c1; have z2 := HK1.out.c2; have z3 := HK1.out.c3; have z4 := HK1.out.c4; have f0 := HK1.out.fr 0; have f1 := HK1.out.fr 1; have f2 := HK1.out.fr 2; have f3 := HK1.out.fr 3; have f4 := HK1.out.fr 4))
  have t := HK1.out.set 7 x v 0 0
  have t0 := t.c0
  have t1 := t.c1
  have t2 := t.c2
  have t3 := t.c3
  have t4 := t.c4
  refine bodyPost_ret (v := .agg #[.int .i64 7, .int .i64 x, .int .i64 v, .int .i64 0, .int .u32 0]) (by simp [results, Tryz.results16, go_sem, t0, t1, t2, t3, t4]) rfl ⟨rfl, ?_⟩
  exact ((((HB1.out.setCell HKl.out _).setCell HKl.out _).setCell HKl.out _).setCell HKl.out _).setCell HKl.out _
set_option maxRecDepth 100000 in
set_option maxHeartbeats 4000000 in
theorem skey_bank (x v : Int) (p0 : Nat) (w : World) (hB : SyB w s m d t b f q st) (hP : w.cell? ⟨b, 0, none⟩ = some (.pointer (some ⟨p0, 0, none⟩)))
    (hV : ∀ W, Below w.heap.size w W → Calls Tryz.prog 58 #[.pointer (some ⟨p0, 0, none⟩), .int .i64 x] W fun e w' => e = .returned (.int .i64 v) ∧ W = w')
    (hL : ∀ W, Below w.heap.size w W → Calls Tryz.prog 21 #[.pointer (some ⟨s, 0, none⟩), .agg #[.int .i64 8, .int .i64 x, .int .i64 v, .int .i64 0, .int .u32 0]] W fun e w' => e = .returned (.bool true) ∧ Below W.heap.size W w') :
    Calls Tryz.prog 16 #[.pointer (some ⟨s, 0, none⟩), .int .i64 8, .int .i64 x] w fun e w' => e = .returned (.agg #[.int .i64 8, .int .i64 x, .int .i64 v, .int .i64 0, .int .u32 0]) ∧ Below w.heap.size w w' := by
  have HV := Lib.hid hV
  have HL := Lib.hid hL
  have HB := Lib.hid hB
  have HP := Lib.hid (⟨cell_lt hP, hP⟩ : b < w.heap.size ∧ w.cell? ⟨b, 0, none⟩ = some (.pointer (some ⟨p0, 0, none⟩)))
  clear hV hL hB hP
  go_enter Tryz.func16, Tryz.ntmps16
  go_upto_region 1 with fail
  generalize hA : World.alloc w _ = wA
  obtain ⟨K, hK⟩ : ∃ K, K = w.heap.size := ⟨_, rfl⟩
  have HBa : Hid (Below w.heap.size w wA) := Lib.hid (by rw [← hA]; exact (Below.refl _ _).alloc (Nat.le_refl _) _)
  have HK0 : Hid (KeyC wA K 0 0 0 0 0) := Lib.hid (by rw [← hA, hK]; exact KeyC.new w 0 0 0 0 0 _)
  have HKl : Hid (w.heap.size ≤ K) := Lib.hid (by rw [hK]; exact Nat.le_refl _)
  have sc := ((HB.out.below HBa.out).c3)
  have pc := (HBa.out.cell (p := ⟨b, 0, none⟩) HP.out.1).trans HP.out.2
  rw [← hK]
  clear hA hK
  go_wp2_with (first
    | (go_at_call 58; (with_reducible refine (HV.out _ HBa.out).mono ?_); rintro e w1 ⟨rfl, rfl⟩)
    | (go_at_call 57; (with_reducible refine (oiflive_yes 8 x v 0 0 _ (fun W hW => HL.out W (HBa.out.trans (hW.mono HBa.out.size)))).mono ?_); rintro e w1 ⟨rfl, hb⟩; have HB1 := Lib.hid (HBa.out.trans (hb.mono HBa.out.size)); have HK1 := Lib.hid (HK0.out.below hb); clear hb; have z0 := HK1.out.c0; have z1 := HK1.out.c1; have z2 := HK1.out.c2; have z3 := HK1.out.c3; have z4 := HK1.out.c4; have f0 := HK1.out.fr 0; have f1 := HK1.out.fr 1; have f2 := HK1.out.fr 2; have f3 := HK1.out.fr 3; have f4 := HK1.out.fr 4))
  have t := HK1.out.set 8 x v 0 0
  have t0 := t.c0
  have t1 := t.c1
  have t2 := t.c2
  have t3 := t.c3
  have t4 := t.c4
  refine bodyPost_ret (v := .agg #[.int .i64 8, .int .i64 x, .int .i64 v, .int .i64 0, .int .u32 0]) (by simp [results, Tryz.results16, go_sem, t0, t1, t2, t3, t4]) rfl ⟨rfl, ?_⟩
  exact ((((HB1.out.setCell HKl.out _).setCell HKl.out _).setCell HKl.out _).setCell HKl.out _).setCell HKl.out _
end
end Go.Proofs.YtncopdhhchmpeaaGreatDoor
namespace Go.Proofs.YtncopdhhchmpeaaGreatDoor
open Go.ChangeShapes Go.WideShapes Go.ChangeAt Go.RowKit
set_option linter.unusedVariables false
theorem own_sl {w : World} {B E s n : Nat} {v : Value} {xs : List Value} (h : w.ownsRow B E s v n xs) (hn : 0 < n) : ∃ g c, v = .slice (some ⟨g, 0, none⟩) n c := by
  rcases h.2 with ⟨_, h0⟩ | ⟨g, cap, cur, rfl, _⟩
  · omega
  · exact ⟨g, cap, rfl⟩
set_option maxRecDepth 100000 in
theorem mmake_zero {base P p B G n c : Nat} {th : Nat → Bool} {vr pr tk : Nat → Int} (tkx : Int) (t0 : 0 ≤ tkx) (t1 : tkx ≤ 1000) (hn0 : 0 < n) (hyes : Hid (freeB th vr 0 = true)) (v : Int) (hv : Hid (vr 0 = v)) (w : World) (h : MtAt w base P p B G n c th vr pr tk) :
    Calls Tryz.prog 19 #[.pointer (some ⟨P, 0, none⟩), .int .i64 (-1), .int .i64 tkx] w fun e w' => e = .returned (.tuple #[.int .i64 0, .int .i64 v, .nilIface]) ∧ MtAt w' base P p B G n c (upd th 0 true) vr (upd pr 0 (-1)) (upd tk 0 tkx) ∧ PBelow w w' B G := by
  have H := Lib.hid h
  have f0 := h.f0
  have hn := h.ar.le
  have d1 : decide (tkx < 0) = false := decide_eq_false (by omega)
  have d2 : decide (2147483647 < tkx) = false := decide_eq_false (by omega)
  clear h
  go_enter Tryz.func19, Tryz.ntmps19
  go_wp2_with (first
    | (go_at_call 64; (with_reducible refine (chain_none _ H.out).mono ?_); rintro e w1 ⟨rfl, rfl⟩)
    | (go_at_call 65; (with_reducible refine (atake_at 0 _ H.out.ar 0 (Lib.hid rfl) hn0 hyes (Lib.hid (by intro i hi; omega)) v hv).mono ?_); rintro e w2 ⟨rfl, hA, hg⟩; have H2 := Lib.hid (H.out.turn hA hg); have HB2 := Lib.hid (PBelow.of (G := G) hg (.inl rfl)); have f1 := H2.out.f1; have c0 := H2.out.at0 0 hn0; have c1 := H2.out.at1 0 hn0; have z0 := H2.out.row.frozenAt 0; have z1 := H2.out.row.frozenAt 1; have H3 := Lib.hid (H2.out.put0 0 hn0 (-1)); have H4 := Lib.hid (H3.out.1.put1 0 hn0 tkx); clear hA hg f0))
  go_ret3
  exact ⟨rfl, H4.out.1, (HB2.out.trans (PBelow.of H3.out.2 (.inr rfl))).trans (PBelow.of H4.out.2 (.inr rfl))⟩
/-- q of the chain charged. -/
def decq (tk : Nat → Int) (j q : Nat) : Nat → Int := fun i => if j < i + q ∧ i ≤ j then tk i - 1 else tk i
end Go.Proofs.YtncopdhhchmpeaaGreatDoor
namespace Go.Proofs.YtncopdhhchmpeaaGreatDoor
open Go.ChangeShapes Go.WideShapes Go.ChangeAt Go.RowKit
set_option linter.unusedVariables false
set_option linter.unusedSimpArgs false
theorem own_same {w w' : World} {b T s n g c : Nat} {l : List Value} (h : w.ownsRow b T s (.slice (some ⟨g, 0, none⟩) n c) n l) (hb : w'.heap[g]? = w.heap[g]?) : w'.ownsRow b T s (.slice (some ⟨g, 0, none⟩) n c) n l := by
  refine ⟨h.1, ?_⟩
  rcases h.2 with hn | ⟨g1, cap, cur, hv, hB, hg, rest⟩
  · exact .inl hn
  · refine .inr ⟨g1, cap, cur, hv, hB, ?_, rest⟩
    have : g1 = g := by injection hv with e1 _ _; injection e1 with e1; injection e1 with e1; exact e1.symm
    rw [this] at hg ⊢
    rw [hb]
    exact hg
theorem MtAt.low {w w' : World} {N base P p B G n c : Nat} {th : Nat → Bool} {vr pr tk : Nat → Int} (h : MtAt w base P p B G n c th vr pr tk) (hb : Below N w w') (h1 : P < N) (h2 : p < N) (h3 : B < N) (h4 : G < N) : MtAt w' base P p B G n c th vr pr tk :=
  ⟨Nat.lt_of_lt_of_le h.pl hb.size, h.pb, (World.cell?_of_block (a := ⟨P, 0, none⟩) (hb.block P h1)).trans h.f0, (World.cell?_of_block (a := ⟨P, 1, none⟩) (hb.block P h1)).trans h.f1, h.ar.same2 hb.size (hb.block p h2) (hb.block B h3), own_same h.row (hb.block G h4), h.n1, h.n2, h.n3, h.n4⟩
/-- A system whose meters are those. -/
structure MS (w : World) (L : BLoc) (X : SLoc) (th : Nat → Bool) (vr pr tk : Nat → Int) : Prop where
  b : SyB w X.s L.mb L.dP X.tP L.P X.fP X.q 0
  t : MtAt w X.tB X.tP X.tp X.tR X.tG X.tn X.tn th vr pr tk
  ne : X.s ≠ X.tR ∧ X.s ≠ X.tG
  n8 : X.tn = 8
theorem SysNew.ms {w0 w : World} {L : BLoc} {X : SLoc} (h : SysNew w0 w L X) (h8 : X.tn = 8) : MS w L X (fun _ => false) (fun _ => 0) (fun _ => 0) (fun _ => 0) := by
  refine ⟨h.b, h.t, ⟨fun e => ?_, fun e => ?_⟩, h8⟩
  · have h1 := h.t.ar.at0 0 (by omega)
    rw [← e] at h1
    have h2 := h.b.c0
    rw [Nat.zero_mul, h2] at h1
    simp at h1
  · have h1 := h.t.at0 0 (by omega)
    rw [← e] at h1
    have h2 := h.b.c0
    rw [Nat.zero_mul, h2] at h1
    simp at h1
section
variable {w w' : World} {L : BLoc} {X : SLoc} {th th' : Nat → Bool} {vr vr' pr pr' tk tk' : Nat → Int}
/-- Every block that it reaches lies below N. -/
structure MLt (N : Nat) (X : SLoc) : Prop where
  s : X.s < N
  P : X.tP < N
  p : X.tp < N
  R : X.tR < N
  G : X.tG < N
theorem MS.lts (h : MS w L X th vr pr tk) : MLt w.heap.size X := ⟨h.b.lt, h.t.pl, h.t.ar.pl, h.t.ar.lt.2, (h.t.row.lt X.tG rfl).2⟩
theorem MLt.mono {N M : Nat} (h : MLt N X) (hl : N ≤ M) : MLt M X := ⟨Nat.lt_of_lt_of_le h.s hl, Nat.lt_of_lt_of_le h.P hl, Nat.lt_of_lt_of_le h.p hl, Nat.lt_of_lt_of_le h.R hl, Nat.lt_of_lt_of_le h.G hl⟩
theorem MS.below (h : MS w L X th vr pr tk) (hb : Below w.heap.size w w') : MS w' L X th vr pr tk := ⟨h.b.below hb, h.t.below hb, h.ne, h.n8⟩
theorem MS.low {N : Nat} (h : MS w L X th vr pr tk) (hb : Below N w w') (hl : MLt N X) : MS w' L X th vr pr tk := ⟨h.b.same hb.size (hb.block X.s hl.s), h.t.low hb hl.P hl.p hl.R hl.G, h.ne, h.n8⟩
theorem MS.turn (h : MS w L X th vr pr tk) (ht : MtAt w' X.tB X.tP X.tp X.tR X.tG X.tn X.tn th' vr' pr' tk') (hb : PBelow w w' X.tR X.tG) : MS w' L X th' vr' pr' tk' := ⟨h.b.same hb.2.2.2.1 (hb.2.2.2.2 X.s h.b.lt h.ne.1 h.ne.2), ht, h.ne, h.n8⟩
end
/-- q of the chain charged. -/
def decx (z : Int) (tk : Nat → Int) (j q : Nat) : Nat → Int := fun i => if j < i + q ∧ i ≤ j then tk i - z else tk i
end Go.Proofs.YtncopdhhchmpeaaGreatDoor
namespace Go.Proofs.YtncopdhhchmpeaaGreatDoor
open Go.ChangeShapes Go.WideShapes Go.ChangeAt Go.RowKit
set_option linter.unusedVariables false
set_option linter.unusedSimpArgs false
theorem UpT.low {N M : Nat} {w w1 w2 : World} (h : UpT N w w1) (h2 : Below M w1 w2) (hM : w.heap.size ≤ M) : UpT N w w2 := ⟨Nat.le_trans h.1 h2.size, fun k h3 h4 => (h2.block k (Nat.lt_of_lt_of_le h4 hM)).trans (h.2 k h3 h4)⟩
end Go.Proofs.YtncopdhhchmpeaaGreatDoor
namespace Go.Proofs.YtncopdhhchmpeaaGreatDoor
open Go.ChangeShapes Go.WideShapes Go.ChangeAt Go.RowKit
set_option linter.unusedVariables false
set_option linter.unusedSimpArgs false
section
variable {L : BLoc} {X : SLoc} {th : Nat → Bool} {vr pr tk : Nat → Int} {cs : List Value} {id v0 o x : Int}
end
end Go.Proofs.YtncopdhhchmpeaaGreatDoor
namespace Go.Proofs.YtncopdhhchmpeaaGreatDoor
open Go.ChangeShapes Go.WideShapes Go.ChangeAt Go.RowKit
set_option linter.unusedVariables false
set_option linter.unusedSimpArgs false
section
variable {cs nt : List Value} {s N : Nat} {k1 k2 k3 k4 o x : Int} {Q : World → Prop}
end
end Go.Proofs.YtncopdhhchmpeaaGreatDoor
namespace Go.Proofs.YtncopdhhchmpeaaGreatDoor
open Go.ChangeShapes Go.WideShapes Go.ChangeAt Go.RowKit
set_option linter.unusedVariables false
set_option linter.unusedSimpArgs false
/-- A domain of such a state, such a wait. -/
def fX (s wt : Int) (j : Nat) : Value := if j = 9 then .int .i64 s else if j = 106 then .int .i64 wt else zd1 j
end Go.Proofs.YtncopdhhchmpeaaGreatDoor
