/-
  Mg, Ms as one.
-/
import Derived.Test.YtedidopkemjgeaaDoorP10
import Derived.Test.YtedidopkemjgeaaDoorP9
namespace Go.Proofs.YtedidopkemjgeaaDoor
open Go.ChangeShapes Go.WideShapes Go.ChangeAt Go.RowKit
set_option linter.unusedVariables false
set_option linter.unusedSimpArgs false
theorem CacheAt.cleared {w : World} {N cb : Nat} {size hits : Int} {v : Value} {E : List EW} (h : CacheAt w N cb size hits v E) : CacheAt (w.setCell ⟨cb, 2, none⟩ (.slice none 0 0)) N cb size hits (.slice none 0 0) [] := by
  refine ⟨h.nb, by simpa using h.cl, ?_, ?_, World.cell?_setCell_same _ _ _ h.c2, fun j => by simpa using h.fr j, World.ownsRow_nil _ _ _ _, by simp [Value.ownBlock], fun e he => by cases he⟩
  · rw [World.cell?_setCell_other _ _ _ _ (by simp)]; exact h.c0
  · rw [World.cell?_setCell_other _ _ _ _ (by simp)]; exact h.c1
theorem mgiven_ok (mb cb : Nat) (v : Value) (w : World) (m1 : w.cell? ⟨mb, 1, none⟩ = some (.pointer (some ⟨cb, 0, none⟩))) (c2 : w.cell? ⟨cb, 2, none⟩ = some v) (fr : w.frozen? ⟨cb, 2, none⟩ = false) :
    Calls Tryd.prog 68 #[.pointer (some ⟨mb, 0, none⟩), .nilIface] w fun e w' => e = .returned .nilIface ∧ w' = w.setCell ⟨cb, 2, none⟩ (.slice none 0 0) := by
  have hcl : Calls Tryd.prog 21 #[.pointer (some ⟨cb, 0, none⟩)] w fun e w' => e = .returned (.tuple #[]) ∧ w' = w.setCell ⟨cb, 2, none⟩ (.slice none 0 0) := by
    go_enter Tryd.func21, Tryd.ntmps21
    go_wp2_with fail
    go_end0
    exact ⟨rfl, rfl⟩
  have HCl := Lib.hid hcl
  clear hcl c2 fr
  go_enter Tryd.func68, Tryd.ntmps68
  go_wp2_with (first
    | (go_at_call 21; (with_reducible refine (HCl.out).mono ?_); rintro e w1 ⟨rfl, hw⟩; have HW := Lib.hid hw; clear hw))
  go_ret
  exact ⟨rfl, HW.out⟩
section
variable {w w1 : World}
theorem MemAt.nodeC {w0 : World} {mb S : Nat} {a b : Shp} {N cb : Nat} {size : Int} {th : Nat → Bool} {vr_ : Nat → Int} {W : Nat → Nat → Value} {th2 : Nat → Bool} {vr2 : Nat → Int} {W2 : Nat → Nat → Int} {hits : Int} {v : Value} {E : List EW} (h : (MemAt w0 w mb S a b N cb size th vr_ W th2 vr2 W2 hits v E)) {th' : Nat → Bool} {vr' : Nat → Int} {W' : Nat → Nat → Value} (hN : NdAt w1 a.b a.P a.p a.B a.G a.n a.c th' vr' W') (hb : PBelow w w1 a.B a.G) : MemAt w0 (w1.setCell ⟨cb, 2, none⟩ (.slice none 0 0)) mb S a b N cb size th' vr' W' th2 vr2 W2 hits (.slice none 0 0) [] ∧ KeepM w (w1.setCell ⟨cb, 2, none⟩ (.slice none 0 0)) N cb v := by
  have hl := h.lo.n
  have e := hb.2.2.2.2 mb h.ml (by have := h.mn; omega) (by have := h.mn; omega)
  have e2 := (set_heap w1 cb mb 2 (.slice none 0 0) h.mo.1).trans e
  have hs := hb.2.2.2.1
  exact ⟨⟨(h.sv.node hN hb).put1 h.lo cb 2 h.ca.nb h.n0 _, h.lo, h.n0, by have := h.nN; simp; omega, (World.cell?_of_block (a := ⟨mb, 0, none⟩) e2).trans h.m0, (World.cell?_of_block (a := ⟨mb, 1, none⟩) e2).trans h.m1, by have := h.ml; simp; omega, h.mn, ⟨h.mo.1, by simp [Value.ownBlock]⟩, (h.ca.same hs (fun k hk hks => hb.2.2.2.2 k hks (by omega) (by omega))).cleared, ways_nil⟩, ⟨by simpa using hs, fun k hkN hk hkc _ => by rw [set_heap _ _ _ _ _ hkc]; exact hb.2.2.2.2 k hk (by omega) (by omega)⟩⟩
theorem MemAt.pageC {w0 : World} {mb S : Nat} {a b : Shp} {N cb : Nat} {size : Int} {th : Nat → Bool} {vr_ : Nat → Int} {W : Nat → Nat → Value} {th2 : Nat → Bool} {vr2 : Nat → Int} {W2 : Nat → Nat → Int} {hits : Int} {v : Value} {E : List EW} (h : (MemAt w0 w mb S a b N cb size th vr_ W th2 vr2 W2 hits v E)) {th2' : Nat → Bool} {vr2' : Nat → Int} {W2' : Nat → Nat → Int} (hP : PgAt w1 b.b b.P b.p b.B b.G b.n b.c th2' vr2' W2') (hb : PBelow w w1 b.B b.G) : MemAt w0 (w1.setCell ⟨cb, 2, none⟩ (.slice none 0 0)) mb S a b N cb size th vr_ W th2' vr2' W2' hits (.slice none 0 0) [] ∧ KeepM w (w1.setCell ⟨cb, 2, none⟩ (.slice none 0 0)) N cb v := by
  have hl := h.lo.p
  have e := hb.2.2.2.2 mb h.ml (by have := h.mn; omega) (by have := h.mn; omega)
  have e2 := (set_heap w1 cb mb 2 (.slice none 0 0) h.mo.1).trans e
  have hs := hb.2.2.2.1
  exact ⟨⟨(h.sv.page hP hb).put1 h.lo cb 2 h.ca.nb h.n0 _, h.lo, h.n0, by have := h.nN; simp; omega, (World.cell?_of_block (a := ⟨mb, 0, none⟩) e2).trans h.m0, (World.cell?_of_block (a := ⟨mb, 1, none⟩) e2).trans h.m1, by have := h.ml; simp; omega, h.mn, ⟨h.mo.1, by simp [Value.ownBlock]⟩, (h.ca.same hs (fun k hk hks => hb.2.2.2.2 k hks (by omega) (by omega))).cleared, ways_nil⟩, ⟨by simpa using hs, fun k hkN hk hkc _ => by rw [set_heap _ _ _ _ _ hkc]; exact hb.2.2.2.2 k hk (by omega) (by omega)⟩⟩
end
set_option maxRecDepth 100000 in
theorem mgivenode_ok {w0 : World} {mb S : Nat} {a b : Shp} {N cb : Nat} {size : Int} {th : Nat → Bool} {vr_ : Nat → Int} {W : Nat → Nat → Value} {th2 : Nat → Bool} {vr2 : Nat → Int} {W2 : Nat → Nat → Int} {hits : Int} {v : Value} {E : List EW} (hn : Hid (0 < a.n)) (ht : Hid (th 0 = true)) (hv : Hid (vr_ 0 = 0)) (w : World) (h : (MemAt w0 w mb S a b N cb size th vr_ W th2 vr2 W2 hits v E)) :
    Calls Tryd.prog 37 #[.pointer (some ⟨mb, 0, none⟩), .int .i64 0] w fun e w' => e = .returned .nilIface ∧ MemAt w0 w' mb S a b N cb size (upd th 0 false) (upd vr_ 0 1) W th2 vr2 W2 hits (.slice none 0 0) [] ∧ KeepM w w' N cb v := by
  have H := Lib.hid h
  have m0 := h.m0
  have s0 := h.sv.st.s0
  have f0 := h.sv.st.nd.f0
  clear h
  go_enter Tryd.func37, Tryd.ntmps37
  go_wp2_with (first
    | (go_at_call 30; (with_reducible refine (agive_at 0 _ H.out.sv.st.nd.ar 0 (Lib.hid rfl) hn.out ht 0 1 hv (by decide) (by decide) (Lib.hid rfl)).mono ?_); rintro e w1 ⟨rfl, hA, hg⟩; have hb := PBelow.of (B := a.B) (G := a.G) hg (.inl rfl); have HF := Lib.hid (H.out.nodeC (H.out.sv.st.nd.turn hA hg) hb); have hmb := hb.2.2.2.2 mb H.out.ml (by have := H.out.mn; have := H.out.lo.n; omega) (by have := H.out.mn; have := H.out.lo.n; omega); have hcb := hb.2.2.2.2 cb H.out.ca.cl (by have := H.out.ca.nb; have := H.out.lo.n; omega) (by have := H.out.ca.nb; have := H.out.lo.n; omega); have HMB := Lib.hid hmb; have HCB := Lib.hid hcb; clear hA hg hb hmb hcb m0 s0 f0)
    | (go_at_call 68; (with_reducible refine (mgiven_ok mb cb v _ ((World.cell?_of_block (a := ⟨mb, 1, none⟩) HMB.out).trans H.out.m1) ((World.cell?_of_block (a := ⟨cb, 2, none⟩) HCB.out).trans H.out.ca.c2) ((World.frozen?_of_block (a := ⟨cb, 2, none⟩) HCB.out).trans (H.out.ca.fr 2))).mono ?_); rintro e w2 ⟨rfl, hw⟩; have HW := Lib.hid hw; clear hw))
  go_ret
  exact ⟨rfl, by rw [HW.out]; exact HF.out.1, by rw [HW.out]; exact HF.out.2⟩
set_option maxRecDepth 100000 in
theorem mgivepage_ok {w0 : World} {mb S : Nat} {a b : Shp} {N cb : Nat} {size : Int} {th : Nat → Bool} {vr_ : Nat → Int} {W : Nat → Nat → Value} {th2 : Nat → Bool} {vr2 : Nat → Int} {W2 : Nat → Nat → Int} {hits : Int} {v : Value} {E : List EW} (hn : Hid (0 < b.n)) (ht : Hid (th2 0 = true)) (hv : Hid (vr2 0 = 0)) (w : World) (h : (MemAt w0 w mb S a b N cb size th vr_ W th2 vr2 W2 hits v E)) :
    Calls Tryd.prog 38 #[.pointer (some ⟨mb, 0, none⟩), .int .i64 0] w fun e w' => e = .returned .nilIface ∧ MemAt w0 w' mb S a b N cb size th vr_ W (upd th2 0 false) (upd vr2 0 1) W2 hits (.slice none 0 0) [] ∧ KeepM w w' N cb v := by
  have H := Lib.hid h
  have m0 := h.m0
  have s0 := h.sv.st.s1
  have f0 := h.sv.st.pg.f0
  clear h
  go_enter Tryd.func38, Tryd.ntmps38
  go_wp2_with (first
    | (go_at_call 30; (with_reducible refine (agive_at 0 _ H.out.sv.st.pg.ar 0 (Lib.hid rfl) hn.out ht 0 1 hv (by decide) (by decide) (Lib.hid rfl)).mono ?_); rintro e w1 ⟨rfl, hA, hg⟩; have hb := PBelow.of (B := b.B) (G := b.G) hg (.inl rfl); have HF := Lib.hid (H.out.pageC (H.out.sv.st.pg.turn hA hg) hb); have hmb := hb.2.2.2.2 mb H.out.ml (by have := H.out.mn; have := H.out.lo.p; omega) (by have := H.out.mn; have := H.out.lo.p; omega); have hcb := hb.2.2.2.2 cb H.out.ca.cl (by have := H.out.ca.nb; have := H.out.lo.p; omega) (by have := H.out.ca.nb; have := H.out.lo.p; omega); have HMB := Lib.hid hmb; have HCB := Lib.hid hcb; clear hA hg hb hmb hcb m0 s0 f0)
    | (go_at_call 68; (with_reducible refine (mgiven_ok mb cb v _ ((World.cell?_of_block (a := ⟨mb, 1, none⟩) HMB.out).trans H.out.m1) ((World.cell?_of_block (a := ⟨cb, 2, none⟩) HCB.out).trans H.out.ca.c2) ((World.frozen?_of_block (a := ⟨cb, 2, none⟩) HCB.out).trans (H.out.ca.fr 2))).mono ?_); rintro e w2 ⟨rfl, hw⟩; have HW := Lib.hid hw; clear hw))
  go_ret
  exact ⟨rfl, by rw [HW.out]; exact HF.out.1, by rw [HW.out]; exact HF.out.2⟩
end Go.Proofs.YtedidopkemjgeaaDoor
namespace Go.Proofs.YtedidopkemjgeaaDoor
open Go.ChangeShapes Go.WideShapes Go.ChangeAt Go.RowKit
set_option linter.unusedVariables false
set_option linter.unusedSimpArgs false
theorem srcu_none (w : World) (B G : Nat) : SrcU w none [] B G := ⟨fun j hj => by simp at hj⟩
theorem way_void {a b : Shp} {th : Nat → Bool} {vr_ : Nat → Int} {th2 : Nat → Bool} {vr2 : Nat → Int} {k0 k1 k2 k3 k4 f below : Int} (W : Nat → Nat → Value) (addr : Int) (ro : Bool) (h0 : 0 ≤ k4) (hz : entP (szP k0 k4) (szB k0 k4) (liveB a b th vr_ th2 vr2 k0 k1 k2) k0 k4 below addr = (0, f)) (hf : (f != 0) = true) : Way a b th vr_ W th2 vr2 k0 k1 k2 k3 k4 below addr ro [] 0 0 false f :=
  .fault _ _ _ f h0 ⟨rfl, rfl⟩ rfl hz hf
set_option maxRecDepth 100000 in
set_option maxHeartbeats 8000000 in
theorem mstale_walk (a0 a1 : Int) (a2 : Bool) (x : Nat) (hx32 : x < 32) (C0 : Hid (∀ w, Calls Tryd.prog 13 #[.int .i64 a0, .int .i64 32] w fun e w' => e = .returned (.int .i64 (x : Int)) ∧ w = w')) (w : World) (vs vr : Value) (hE : ErrsAt vs vr w) :
    Calls Tryd.prog 10 #[.int .i64 a0, .int .u32 a1, .bool a2] w fun e w' => e = .returned (.bool true) ∧ Below w.heap.size w w' := by
  have HE := Lib.hid hE
  clear hE
  have HX := Lib.hid hx32
  clear hx32
  have x0 : (0 : Int) ≤ x := by omega
  have x1 : (x : Int) < 4294967296 := by have := HX.out; omega
  go_enter Tryd.func10, Tryd.ntmps10
  go_upto_region 9 with (first
    | (go_at_call 31; refine (mfirst11_is _).mono ?_; rintro e w1 ⟨rfl, hb1⟩; have HB1 := Lib.hid hb1; clear hb1)
    | (go_at_call 13; (with_reducible refine (C0.out _).mono ?_); rintro e w9 ⟨rfl, rfl⟩)
    | (go_at_call 32; (with_reducible refine (mnew_ok 2 2 4 2 2 (Lib.hid rfl) (Lib.hid rfl) (by decide) (by decide) (by decide) (by decide) (by decide) (by decide) _).mono ?_); rintro e w2 ⟨mb, S, a, b, N, cb, rfl, hm, hn⟩; have HN := Lib.hid hn.out; have H2 := Lib.hid (hm.over HB1.out); have m0 := H2.out.m0; have s1 := H2.out.sv.st.s1; clear hm hn)
    | (go_at_call 26; (with_reducible refine (pmake_at 0 none 0 0 [] (Lib.hid rfl) (by decide) 0 (Lib.hid rfl) (by have := HN.out; omega) (Lib.hid (by decide)) (Lib.hid (by intro i hi; omega)) 0 (Lib.hid rfl) _ H2.out.sv.st.pg (srcu_none _ _ _)).mono ?_); rintro e w3 ⟨rfl, hP, hb⟩; have H3 := Lib.hid (H2.out.page hP hb ways_nil); clear hP hb m0 s1))
  obtain ⟨W2, hW2⟩ : ∃ W2, W2 = fresh (fun _ _ => 0) 0 [] := ⟨_, rfl⟩
  rw [← hW2] at H3
  have HAB : Hid (0 < a.n ∧ 0 < b.n) := Lib.hid (by have := HN.out; omega)
  have HTA : Hid ((upd (fun _ => false) 0 true) 0 = true) := Lib.hid rfl
  clear hW2 H2 HB1
  have HSS : Hid (∀ w', Below w3.heap.size w3 w' → (World.cell? w' ⟨mb, 0, none⟩ = some (.pointer (some ⟨S, 0, none⟩)) ∧ World.cell? w' ⟨S, 0, none⟩ = some (.pointer (some ⟨a.P, 0, none⟩)))) := Lib.hid (fun w' hb => ⟨(H3.out.below hb).m0, (H3.out.below hb).sv.st.s0⟩)
  refine wp_region_noPanic ?_
  refine wp_region_held_drew (S := fun w' => (World.cell? w' ⟨mb, 0, none⟩ = some (.pointer (some ⟨S, 0, none⟩)) ∧ World.cell? w' ⟨S, 0, none⟩ = some (.pointer (some ⟨a.P, 0, none⟩)))) (by kernel_rfl) (HSS.out _ (Below.refl w3.heap.size w3).drew) (fun hHeld => ?_)
  refine wpAnyH_take (i := 0) (v := ?_) (by rfl) (by kernel_rfl) (by kernel_rfl) (by kernel_rfl) (fun _ _ _ h => h) (Or.inl ⟨by kernel_rfl, ?_⟩) (by assumption) ?_; rotate_left 1; (focus (intro w hSw; (try dsimp only at hSw); simp only [List.getElem_toArray, List.getElem_cons_succ, List.getElem_cons_zero]; all_goals go_simp; all_goals (try with_reducible rfl))); (try simp only [Act.put, List.getElem_toArray, List.getElem_cons_succ, List.getElem_cons_zero, List.setIfInBounds_toArray, List.set_cons_zero, List.set_cons_succ])
  refine wpAnyH_take (i := 1) (v := ?_) (by rfl) (by kernel_rfl) (by kernel_rfl) (by kernel_rfl) (fun _ _ _ h => h) (Or.inl ⟨by kernel_rfl, ?_⟩) (by assumption) ?_; rotate_left 1; (focus (intro w hSw; (try dsimp only at hSw); simp only [List.getElem_toArray, List.getElem_cons_succ, List.getElem_cons_zero]; all_goals go_simp; all_goals (try with_reducible rfl))); (try simp only [Act.put, List.getElem_toArray, List.getElem_cons_succ, List.getElem_cons_zero, List.setIfInBounds_toArray, List.set_cons_zero, List.set_cons_succ])
  refine wpAnyH_take (i := 2) (v := ?_) (by rfl) (by kernel_rfl) (by kernel_rfl) (by kernel_rfl) (fun _ _ _ h => h) (Or.inl ⟨by kernel_rfl, ?_⟩) (by assumption) ?_; rotate_left 1; (focus (intro w hSw; (try dsimp only at hSw); simp only [List.getElem_toArray, List.getElem_cons_succ, List.getElem_cons_zero]; all_goals go_simp; all_goals (try with_reducible rfl))); (try simp only [Act.put, List.getElem_toArray, List.getElem_cons_succ, List.getElem_cons_zero, List.setIfInBounds_toArray, List.set_cons_zero, List.set_cons_succ])
  refine wpAnyH_take (i := 3) (v := ?_) (by rfl) (by kernel_rfl) (by kernel_rfl) (by kernel_rfl) (fun _ _ _ h => h) (Or.inl ⟨by kernel_rfl, ?_⟩) (by assumption) ?_; rotate_left 1; (focus (intro w hSw; (try dsimp only at hSw); simp only [List.getElem_toArray, List.getElem_cons_succ, List.getElem_cons_zero]; all_goals go_simp; all_goals (try with_reducible rfl))); (try simp only [Act.put, List.getElem_toArray, List.getElem_cons_succ, List.getElem_cons_zero, List.setIfInBounds_toArray, List.set_cons_zero, List.set_cons_succ])
  refine wpAnyH_take (i := 4) (v := ?_) (by rfl) (by kernel_rfl) (by kernel_rfl) (by kernel_rfl) (fun _ _ _ h => h) (Or.inl ⟨by kernel_rfl, ?_⟩) (by assumption) ?_; rotate_left 1; (focus (intro w hSw; (try dsimp only at hSw); simp only [List.getElem_toArray, List.getElem_cons_succ, List.getElem_cons_zero]; all_goals go_simp; all_goals (try with_reducible rfl))); (try simp only [Act.put, List.getElem_toArray, List.getElem_cons_succ, List.getElem_cons_zero, List.setIfInBounds_toArray, List.set_cons_zero, List.set_cons_succ])
  refine wpAnyH_take (i := 5) (v := ?_) (by rfl) (by kernel_rfl) (by kernel_rfl) (by kernel_rfl) (fun _ _ _ h => h) (Or.inl ⟨by kernel_rfl, ?_⟩) (by assumption) ?_; rotate_left 1; (focus (intro w hSw; (try dsimp only at hSw); simp only [List.getElem_toArray, List.getElem_cons_succ, List.getElem_cons_zero]; all_goals go_simp; all_goals (try with_reducible rfl))); (try simp only [Act.put, List.getElem_toArray, List.getElem_cons_succ, List.getElem_cons_zero, List.setIfInBounds_toArray, List.set_cons_zero, List.set_cons_succ])
  refine wpAnyH_take (i := 6) (v := ?_) (by rfl) (by kernel_rfl) (by kernel_rfl) (by kernel_rfl) (fun _ _ _ h => h) (Or.inl ⟨by kernel_rfl, ?_⟩) (by assumption) ?_; rotate_left 1; (focus (intro w hSw; (try dsimp only at hSw); simp only [List.getElem_toArray, List.getElem_cons_succ, List.getElem_cons_zero]; all_goals go_simp; all_goals (try with_reducible rfl))); (try simp only [Act.put, List.getElem_toArray, List.getElem_cons_succ, List.getElem_cons_zero, List.setIfInBounds_toArray, List.set_cons_zero, List.set_cons_succ])
  refine wpAnyH_take (i := 7) (v := ?_) (by rfl) (by kernel_rfl) (by kernel_rfl) (by kernel_rfl) (fun _ _ _ h => h) (Or.inl ⟨by kernel_rfl, ?_⟩) (by assumption) ?_; rotate_left 1; (focus (intro w hSw; (try dsimp only at hSw); simp only [List.getElem_toArray, List.getElem_cons_succ, List.getElem_cons_zero]; all_goals go_simp; all_goals (try with_reducible rfl))); (try simp only [Act.put, List.getElem_toArray, List.getElem_cons_succ, List.getElem_cons_zero, List.setIfInBounds_toArray, List.set_cons_zero, List.set_cons_succ])
  refine wpAnyH_take (i := 8) (v := ?_) (by rfl) (by kernel_rfl) (by kernel_rfl) (by kernel_rfl) (fun _ _ _ h => h) (Or.inl ⟨by kernel_rfl, ?_⟩) (by assumption) ?_; rotate_left 1; (focus (intro w hSw; (try dsimp only at hSw); simp only [List.getElem_toArray, List.getElem_cons_succ, List.getElem_cons_zero]; all_goals go_simp; all_goals (try with_reducible rfl))); (try simp only [Act.put, List.getElem_toArray, List.getElem_cons_succ, List.getElem_cons_zero, List.setIfInBounds_toArray, List.set_cons_zero, List.set_cons_succ])
  refine wpAnyH_take (i := 9) (v := ?_) (by rfl) (by kernel_rfl) (by kernel_rfl) (by kernel_rfl) (fun _ _ _ h => h) (Or.inl ⟨by kernel_rfl, ?_⟩) (by assumption) ?_; rotate_left 1; (focus (intro w hSw; (try dsimp only at hSw); simp only [List.getElem_toArray, List.getElem_cons_succ, List.getElem_cons_zero]; all_goals go_simp; all_goals (try with_reducible rfl))); (try simp only [Act.put, List.getElem_toArray, List.getElem_cons_succ, List.getElem_cons_zero, List.setIfInBounds_toArray, List.set_cons_zero, List.set_cons_succ])
  refine wpAnyH_take (i := 10) (v := ?_) (by rfl) (by kernel_rfl) (by kernel_rfl) (by kernel_rfl) (fun _ _ _ h => h) (Or.inl ⟨by kernel_rfl, ?_⟩) (by assumption) ?_; rotate_left 1; (focus (intro w hSw; (try dsimp only at hSw); simp only [List.getElem_toArray, List.getElem_cons_succ, List.getElem_cons_zero]; all_goals go_simp; all_goals (try with_reducible rfl))); (try simp only [Act.put, List.getElem_toArray, List.getElem_cons_succ, List.getElem_cons_zero, List.setIfInBounds_toArray, List.set_cons_zero, List.set_cons_succ])
  refine wpAnyH_ready (rs := [11]) (by kernel_rfl) (by simp) ?_; refine AllReadyH.cons (by rfl) (fun K hK => ?_) AllReadyH.nil; rw [if_pos (by kernel_rfl)]; simp only [List.getElem_toArray, List.getElem_cons_succ, List.getElem_cons_zero]
  have HD := Lib.hid (H3.out.below (Below.refl w3.heap.size w3).drew)
  go_wp2_with (first
    | (go_at_call 27; (with_reducible refine (spagekey_in 0 0 (Lib.hid rfl) HAB.out.2 HTA 0 (Lib.hid rfl) _ HD.out.sv.st).mono ?_); rintro e w4 ⟨rfl, hb⟩; have H4 := Lib.hid (HD.out.below hb); clear hb))
  refine hK.out _ _ ⟨H4.out.m0, H4.out.sv.st.s0⟩ (fun hHeld => ?_)
  clear hK K
  (try simp only [Act.put, List.getElem_toArray, List.getElem_cons_succ, List.getElem_cons_zero, List.setIfInBounds_toArray, List.set_cons_zero, List.set_cons_succ])
  refine wpAnyH_ready (rs := [12]) (by kernel_rfl) (by simp) ?_; refine AllReadyH.cons (by rfl) (fun K hK => ?_) AllReadyH.nil; rw [if_pos (by kernel_rfl)]; simp only [List.getElem_toArray, List.getElem_cons_succ, List.getElem_cons_zero]
  go_wp2_with fail
  have H4a := Lib.hid (H4.out.below ((Below.refl _ _).alloc (Nat.le_refl _) _ : Below w4.heap.size w4 (w4.alloc (.cells #[.int .i64 3, .int .i64 0, .int .i64 0, .int .i64 0, .int .u32 0] 29 (0, 0)))))
  have HSrc := Lib.hid (srcK1 w4 3 0 0 0 0 29 a.B a.G H4.out.sv.st.lo.n.2.2.1 H4.out.sv.st.lo.n.2.2.2)
  have HKRi : Hid (∀ x, x < 1 → KRight (kkOf 3 0 0 0 0) x) := Lib.hid (fun x _ => by show rightB 3 0 0 0 0 = true; decide)
  refine hK.out _ _ ⟨H4a.out.m0, H4a.out.sv.st.s0⟩ (fun hHeld => ?_)
  clear hK K
  (try simp only [Act.put, List.getElem_toArray, List.getElem_cons_succ, List.getElem_cons_zero, List.setIfInBounds_toArray, List.set_cons_zero, List.set_cons_succ])
  refine wpAnyH_ready (rs := [13]) (by kernel_rfl) (by simp) ?_; refine AllReadyH.cons (by rfl) (fun K hK => ?_) AllReadyH.nil; rw [if_pos (by kernel_rfl)]; simp only [List.getElem_toArray, List.getElem_cons_succ, List.getElem_cons_zero]
  go_wp2_with (first
    | (go_at_call 25; (with_reducible refine (nmake_at 0 vs vr (some ⟨w4.heap.size, 0, none⟩) 1 1 (kkOf 3 0 0 0 0) (by decide) HKRi 0 (Lib.hid rfl) HAB.out.1 (Lib.hid (by decide)) (Lib.hid (by intro i hi; omega)) 0 (Lib.hid rfl) _ (HE.out.below H4a.out.sv.bel) H4a.out.sv.st.nd HSrc.out).mono ?_); rintro e w6 ⟨rfl, hM, hb⟩; have H6 := Lib.hid (H4a.out.node hM hb ways_nil); clear hM hb))
  refine hK.out _ _ ⟨H6.out.m0, H6.out.sv.st.s0⟩ (fun hHeld => ?_)
  clear hK K
  (try simp only [Act.put, List.getElem_toArray, List.getElem_cons_succ, List.getElem_cons_zero, List.setIfInBounds_toArray, List.set_cons_zero, List.set_cons_succ])
  refine wpAnyH_done (by kernel_rfl) ?_ _
  refine NoPanic.normal ?_
  have m0 := H6.out.m0
  go_upto_region 11 with (first
    | (go_at_call 28; (with_reducible refine (snodekey_in 0 1 0 (Lib.hid rfl) (by decide) (by decide) HAB.out.1 HTA 0 (Lib.hid rfl) _ H6.out.sv.st).mono ?_); rintro e w7 ⟨rfl, hb⟩; have H7 := Lib.hid (H6.out.below hb); clear hb m0))
  obtain ⟨w8, hw8⟩ : ∃ w8, w8 = w7.alloc (.cells #[.int .i64 2, .int .i64 0, .int .i64 0, .int .i64 0, .int .u32 1] 29 (0, 0)) := ⟨_, rfl⟩
  rw [← hw8]
  obtain ⟨W, hW⟩ : ∃ W, W = freshV (fun _ b => zc b) 0 (kcs (kkOf 3 0 0 0 0) 1) := ⟨_, rfl⟩
  have HKW : Hid (KAt (W 0) 0 3 0 0 0 0) := Lib.hid (by rw [hW]; exact freshV_key _ 0 (kkOf 3 0 0 0 0) 1 0 (by decide))
  rw [← hW] at H7
  have H8 : Hid (MemAt w w8 mb S a b N cb 4 (upd (fun _ => false) 0 true) (fun _ => 0) W (upd (fun _ => false) 0 true) (fun _ => 0) W2 0 (.slice none 0 0) []) := Lib.hid (by rw [hw8]; exact H7.out.below ((Below.refl _ _).alloc (Nat.le_refl _) _))
  have HK8 : Hid (KeyC w8 w7.heap.size 2 0 0 0 1) := Lib.hid (by rw [hw8]; exact KeyC.new _ _ _ _ _ _ _)
  obtain ⟨kb, hkb⟩ : ∃ kb, Hid (w7.heap.size = kb) := ⟨_, Lib.hid rfl⟩
  have HO : Hid (N ≤ kb ∧ cb ≠ kb ∧ mb ≠ kb) := Lib.hid (by rw [← hkb.out]; have h1 := H7.out.nN; have h2 := H7.out.ca.cl; have h3 := H7.out.ml; omega)
  rw [hkb.out] at HK8 ⊢
  have HOC : Hid (OutC cb (.slice none 0 0) kb) := Lib.hid ⟨fun e => HO.out.2.1 e.symm, by simp [Value.ownBlock]⟩
  have HWY : Hid (Way a b (upd (fun _ => false) 0 true) (fun _ => 0) W (upd (fun _ => false) 0 true) (fun _ => 0) 2 0 0 0 1 5 x false [0] ((0 : Nat) : Int) x false 0) := Lib.hid (way_r0 (way_at 1 0 0 x 3 0 0 0 0 rfl (by decide) (by decide) (by simp) (by decide) rfl HAB.out.1 rfl rfl (by decide) (by have := HX.out; omega) HKW.out (.page (by decide) (by omega) (by simp [liveB, thereB, upd, HAB.out.2]) (by have := HX.out; omega))) (by decide))
  clear hw8 hW hkb H3 HD H4 H4a H6 H7 HSrc HKRi HSS
  have q0 := HK8.out.c0
  have q1 := HK8.out.c1
  have q2 := HK8.out.c2
  have q3 := HK8.out.c3
  have q4 := HK8.out.c4
  go_upto_region 13 with (first
    | (go_at_call 34; (refine (msave_ok 2 0 0 0 1 x (by omega) [0] 0 x HAB.out.2 HX.out HTA a1 (Lib.hid (by decide)) (Lib.hid (by decide)) HWY _ H8.out).mono ?_); rintro e w9 ⟨rfl, h9, v9, E9, hm, g1, g2, g3, hk, hv⟩; have H9 := Lib.hid hm; have HK9 := Lib.hid (HK8.out.keep hk HO.out.1 HOC.out); have HC9 := Lib.hid (HOC.out.next HK8.out.lt hv); have HG9 := Lib.hid (And.intro g1 (And.intro g2 g3)); clear hm g1 g2 g3 hk hv q0 q1 q2 q3 q4))
  obtain ⟨W2', hW2'⟩ : ∃ W2', W2' = updA W2 0 x a1 := ⟨_, rfl⟩
  rw [← hW2'] at H9
  have HH9 : Hid (0 ≤ h9 ∧ h9 ≤ 1000000) := Lib.hid (by have := HG9.out; omega)
  clear hW2' HWY H8 HK8 HOC
  cases a2 with
  | true =>
    go_upto_region 16 with (first
      | (go_at_call 37; (with_reducible refine (mgivenode_ok (Lib.hid HAB.out.1) HTA (Lib.hid rfl) _ H9.out).mono ?_); rintro e w10 ⟨rfl, hm, hk⟩; have H10 := Lib.hid hm; have HK10 := Lib.hid (HK9.out.keep hk HO.out.1 HC9.out); clear hm hk))
    have m0 := H10.out.m0
    have s0 := H10.out.sv.st.s0
    go_upto_region 20 with (first
      | (go_at_call 25; (with_reducible refine (nmake_at 0 vs vr none 0 0 (fun _ _ => 0) (by decide) (Lib.hid (by intro i hi; omega)) 0 (Lib.hid rfl) HAB.out.1 (Lib.hid (by decide)) (Lib.hid (by intro i hi; omega)) 1 (Lib.hid (by decide)) _ (HE.out.below H10.out.sv.bel) H10.out.sv.st.nd (srcK_none _ _ _ _)).mono ?_); rintro e w11 ⟨rfl, hM, hb⟩; have H11 := Lib.hid (H10.out.node hM hb ways_nil); have HK11 := Lib.hid (HK10.out.pbelow hb (by have := H10.out.lo.n; have := HO.out; omega) (by have := H10.out.lo.n; have := HO.out; omega)); clear hM hb m0 s0))
    have HOC : Hid (OutC cb (.slice none 0 0) kb) := Lib.hid ⟨fun e => HO.out.2.1 e.symm, by simp [Value.ownBlock]⟩
    have HWF : Hid (Way a b (upd (upd (upd (fun _ => false) 0 true) 0 false) 0 true) (upd (fun _ => 0) 0 1) (freshV W 0 (kcs (fun _ _ => 0) 0)) (upd (fun _ => false) 0 true) (fun _ => 0) 2 0 0 0 1 5 x false [] 0 0 false 2) := Lib.hid (way_void _ _ _ (by decide) (by simp [entP, szB, liveB, thereB, upd]) rfl)
    have q0 := HK11.out.c0
    have q1 := HK11.out.c1
    have q2 := HK11.out.c2
    have q3 := HK11.out.c3
    have q4 := HK11.out.c4
    go_upto_region 22 with (first
      | (go_at_call 35; (refine (mload_fault 2 0 0 0 1 x (by omega) [] 0 0 false 2 rfl (Lib.hid (by decide)) HH9 HWF _ H11.out).mono ?_); rintro e w12 ⟨rfl, h12, v12, E12, hm, g1, g2, g3, hk, hv⟩; have H12 := Lib.hid hm; have HK12 := Lib.hid (HK11.out.keep hk HO.out.1 HOC.out); have HG12 := Lib.hid (And.intro g1 (And.intro g2 g3)); clear hm g1 g2 g3 hk hv q0 q1 q2 q3 q4; have q0 := HK12.out.c0; have q1 := HK12.out.c1; have q2 := HK12.out.c2; have q3 := HK12.out.c3; have q4 := HK12.out.c4)
      | (go_at_call 34; (refine (msave_fault 2 0 0 0 1 x (by omega) [] 0 0 false 2 rfl _ (Lib.hid (by have h1 := HG12.out.1; simp at h1; constructor <;> omega)) (Lib.hid (by have h1 := HG12.out; have h2 := HG9.out; omega)) HWF _ H12.out).mono ?_); rintro e w13 ⟨rfl, h13, v13, E13, hm, g1, g2, g3, hk, hv⟩; have H13 := Lib.hid hm; clear hm g1 g2 g3 hk hv q0 q1 q2 q3 q4))
    have m0 := H13.out.m0
    have s1 := H13.out.sv.st.s1
    obtain ⟨z, hz⟩ : ∃ z, Hid (W2' 0 0 = z) := ⟨_, Lib.hid rfl⟩
    go_wp2_with (first
      | (go_at_call 36; (with_reducible refine (pread_at 0 0 0 0 (Lib.hid rfl) (Lib.hid rfl) HAB.out.2 (by decide) HTA z hz _ H13.out.sv.st.pg).mono ?_); rintro e w14 ⟨rfl, rfl⟩))
    go_ret
    exact ⟨by simp, H13.out.sv.bel⟩
  | false =>
    go_upto_region 19 with (first
      | (go_at_call 38; (with_reducible refine (mgivepage_ok (Lib.hid HAB.out.2) HTA (Lib.hid rfl) _ H9.out).mono ?_); rintro e w10 ⟨rfl, hm, hk⟩; have H10 := Lib.hid hm; have HK10 := Lib.hid (HK9.out.keep hk HO.out.1 HC9.out); clear hm hk))
    have m0 := H10.out.m0
    have s0 := H10.out.sv.st.s1
    go_upto_region 20 with (first
      | (go_at_call 26; (with_reducible refine (pmake_at 0 (some ⟨w10.heap.size, 0, none⟩) 1 1 [7] (Lib.hid rfl) (by decide) 0 (Lib.hid rfl) HAB.out.2 (Lib.hid (by decide)) (Lib.hid (by intro i hi; omega)) 1 (Lib.hid (by decide)) _ (H10.out.sv.st.pg.below ((Below.refl _ _).alloc (Nat.le_refl _) _)) (srcu1 w10 7 _ b.B b.G H10.out.sv.st.pg.ar.lt.2 (H10.out.sv.st.pg.row.lt b.G rfl).2)).mono ?_); rintro e w11 ⟨rfl, hP, hb⟩; have H11 := Lib.hid ((H10.out.below ((Below.refl _ _).alloc (Nat.le_refl _) _)).page hP hb ways_nil); have HK11 := Lib.hid ((HK10.out.below ((Below.refl _ _).alloc (Nat.le_refl _) _)).pbelow hb (by have := H10.out.lo.p; have := HO.out; omega) (by have := H10.out.lo.p; have := HO.out; omega)); clear hP hb m0 s0))
    have HOC : Hid (OutC cb (.slice none 0 0) kb) := Lib.hid ⟨fun e => HO.out.2.1 e.symm, by simp [Value.ownBlock]⟩
    have HWF : Hid (Way a b (upd (fun _ => false) 0 true) (fun _ => 0) W (upd (upd (upd (fun _ => false) 0 true) 0 false) 0 true) (upd (fun _ => 0) 0 1) 2 0 0 0 1 5 x false [0] 0 0 false 2) := Lib.hid (way_at 1 0 0 x 3 0 0 0 0 rfl (by decide) (by decide) (by simp) (by decide) rfl HAB.out.1 rfl rfl (by decide) (by have := HX.out; omega) HKW.out (way_void _ _ _ (by decide) (by simp [entP, szB, liveB, thereB, upd]) rfl))
    have q0 := HK11.out.c0
    have q1 := HK11.out.c1
    have q2 := HK11.out.c2
    have q3 := HK11.out.c3
    have q4 := HK11.out.c4
    go_upto_region 22 with (first
      | (go_at_call 35; (refine (mload_fault 2 0 0 0 1 x (by omega) [0] 0 0 false 2 rfl (Lib.hid (by decide)) HH9 HWF _ H11.out).mono ?_); rintro e w12 ⟨rfl, h12, v12, E12, hm, g1, g2, g3, hk, hv⟩; have H12 := Lib.hid hm; have HK12 := Lib.hid (HK11.out.keep hk HO.out.1 HOC.out); have HG12 := Lib.hid (And.intro g1 (And.intro g2 g3)); clear hm g1 g2 g3 hk hv q0 q1 q2 q3 q4; have q0 := HK12.out.c0; have q1 := HK12.out.c1; have q2 := HK12.out.c2; have q3 := HK12.out.c3; have q4 := HK12.out.c4)
      | (go_at_call 34; (refine (msave_fault 2 0 0 0 1 x (by omega) [0] 0 0 false 2 rfl _ (Lib.hid (by have h1 := HG12.out.1; simp at h1; constructor <;> omega)) (Lib.hid (by have h1 := HG12.out; have h2 := HG9.out; omega)) HWF _ H12.out).mono ?_); rintro e w13 ⟨rfl, h13, v13, E13, hm, g1, g2, g3, hk, hv⟩; have H13 := Lib.hid hm; clear hm g1 g2 g3 hk hv q0 q1 q2 q3 q4))
    have m0 := H13.out.m0
    have s1 := H13.out.sv.st.s1
    have HZ : Hid (fresh W2' 0 [7] 0 0 = 7) := Lib.hid (by rw [fresh_at _ _ _ _ (by decide)]; rfl)
    go_wp2_with (first
      | (go_at_call 36; (with_reducible refine (pread_at 0 0 0 0 (Lib.hid rfl) (Lib.hid rfl) HAB.out.2 (by decide) (Lib.hid rfl) 7 HZ _ H13.out.sv.st.pg).mono ?_); rintro e w14 ⟨rfl, rfl⟩))
    go_ret
    exact ⟨by simp, H13.out.sv.bel⟩
theorem walk_MemStale (a0 : Int) (a1 : Int) (a2 : Bool) (w : World) (w0 : (Lit.int .i64 a0).wf = true) (w1 : (Lit.int .u32 a1).wf = true) (hL : laidMetH Tryd.prog Rows.memStaleRow.laid w) :
    Calls Tryd.prog 10 #[.int .i64 a0, .int .u32 a1, .bool a2] w fun e w' => e = .returned (.bool true) ∧ Below w.heap.size w w' := by
  obtain ⟨vs, vr, hE⟩ := (errs2 hL ⟨_, by repeat (first | exact List.Mem.head _ | apply List.Mem.tail)⟩ ⟨_, by repeat (first | exact List.Mem.head _ | apply List.Mem.tail)⟩)
  obtain ⟨x, hx, C0⟩ := number_nat a0 32 32 rfl (by decide) (by decide) (fit64 w0).1 (fit64 w0).2
  exact mstale_walk a0 a1 a2 x hx (Lib.hid C0) w vs vr hE
end Go.Proofs.YtedidopkemjgeaaDoor
