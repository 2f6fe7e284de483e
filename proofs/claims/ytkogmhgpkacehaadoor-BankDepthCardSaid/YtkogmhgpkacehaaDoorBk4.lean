/-
  package bank: New; banks over a memory and domains.
-/
import Derived.Test.YtkogmhgpkacehaaDoorBk3
import Derived.Test.YtkogmhgpkacehaaDoorP9
namespace Go.Proofs.YtkogmhgpkacehaaDoor
open Go.ChangeShapes Go.WideShapes Go.ChangeAt Go.RowKit
set_option linter.unusedVariables false
set_option linter.unusedSimpArgs false
theorem RowS.base {w : World} {b b' : Nat} {T : TypeId} {s G n : Nat} {W : Nat → Nat → Value} (h : RowS w b T s G n W) (hb : b' ≤ b) : RowS w b' T s G n W := by
  refine ⟨h.1, ?_⟩
  rcases h.2 with hn | ⟨g', cap, cur, e', hB, hg, rest⟩
  · exact .inl hn
  · exact .inr ⟨g', cap, cur, e', Nat.le_trans hb hB, hg, rest⟩
/-- Banks being made. -/
structure B0 (B : Nat) (w1 w : World) (n : Nat) (oA : Option Nat) (g : List Nat) : Prop where
  bel : Below w1.heap.size w1 w
  a : ∀ A, oA = some A → w1.heap.size ≤ A ∧ RowS w B 231 3 A n (acS (fun _ => 0) (fun _ => 0) (fun _ => 0))
  t : ∀ G, G ∈ g → w1.heap.size ≤ G ∧ RowS w B 238 2 G 256 (tiS (fun _ => -1) (fun _ => 0))
  nd : (oA.toList ++ g).Nodup
theorem infoAcc : (Tryd.prog.info? 231).map (fun i => (i.zero, i.size, i.bytes)) = some (some (.agg #[.int .i64 0, .int .i64 0, .int .i64 0]), 3, 24) := by kernel_rfl
theorem B0.mk_ {B : Nat} {w1 w w' : World} {n : Nat} {g : List Nat} (h : B0 B w1 w n none g) (A : Nat) (hA : w.heap.size = A) (hown : w'.ownsRow B 231 3 (.slice (some ⟨A, 0, none⟩) n n) n (madeCells #[Value.int .i64 0, .int .i64 0, .int .i64 0] (n * 3)).toList) (hgrow : w.grownBy w' none) : B0 B w1 w' n (some A) g := by
  have hb : Below w.heap.size w w' := (Below.refl _ _).grown hgrow (Nat.le_refl _) (fun k hk => by cases hk)
  refine ⟨h.bel.trans (hb.mono h.bel.size), fun A' e => ?_, fun G hG => ⟨(h.t G hG).1, (h.t G hG).2.same (hb.block G (h.t G hG).2.lt.2)⟩, ?_⟩
  · injection e with e
    subst e
    refine ⟨by rw [← hA]; exact h.bel.size, ?_⟩
    have h2 := flatS_made [Value.int .i64 0, .int .i64 0, .int .i64 0] n (by decide)
    rw [show [Value.int .i64 0, .int .i64 0, .int .i64 0].length = 3 from rfl] at h2
    unfold RowS
    rw [flatS_congr 3 _ (fun _ b => [Value.int .i64 0, .int .i64 0, .int .i64 0].getD b (.int .i64 0)) n (by decide) (fun i j _ hj => by rcases (show j = 0 ∨ j = 1 ∨ j = 2 by omega) with rfl | rfl | rfl <;> simp [acS]), ← h2]
    exact hown
  · have hn := h.nd
    simp only [Option.toList_none, List.nil_append] at hn
    simp only [Option.toList_some, List.singleton_append, List.nodup_cons]
    exact ⟨fun hm => by have := (h.t A hm).2.lt.2; omega, hn⟩
theorem B0.own {B : Nat} {w1 w w' : World} {n : Nat} {oA : Option Nat} {g : List Nat} (h : B0 B w1 w n oA g) (hB : B ≤ w1.heap.size) (G : Nat) (hr : TiR w' w.heap.size G 256) (hb : Below w.heap.size w w') : B0 B w1 w' n oA (g ++ [G]) := by
  have hlt := RowS.lt hr
  refine ⟨h.bel.trans (hb.mono h.bel.size), fun A e => ⟨(h.a A e).1, (h.a A e).2.same (hb.block A (h.a A e).2.lt.2)⟩, fun G' hG => ?_, ?_⟩
  · rcases List.mem_append.1 hG with hG | hG
    · exact ⟨(h.t G' hG).1, (h.t G' hG).2.same (hb.block G' (h.t G' hG).2.lt.2)⟩
    · simp at hG
      subst hG
      refine ⟨Nat.le_trans h.bel.size hlt.1, (RowS.congr hr (by decide) (fun i j hi _ => ?_)).base (Nat.le_trans hB h.bel.size)⟩
      simp [tiS, loB, hi]
  · rw [← List.append_assoc, List.nodup_append]
    refine ⟨h.nd, by simp, fun x hx y hy => ?_⟩
    simp at hy
    subst hy
    rcases List.mem_append.1 hx with hx | hx
    · have := (h.a x (by simpa using hx)).2.lt.2
      omega
    · have := (h.t x hx).2.lt.2
      omega
theorem B0.done {w0 w1 w w2 : World} {n p B A G1 G2 G3 mb db : Nat} (hA : ArAt w1 w0.heap.size p B n n (fun _ => false) (fun _ => 0)) (hb : Below w0.heap.size w0 w1) (h : B0 w0.heap.size w1 w n (some A) [G1, G2, G3]) (T : TypeId) (h2 : w2 = w.alloc (.cells #[.pointer (some ⟨p, 0, none⟩), .pointer (some ⟨mb, 0, none⟩), .pointer (some ⟨db, 0, none⟩), .slice (some ⟨A, 0, none⟩) n n, .slice (some ⟨G1, 0, none⟩) 256 256, .slice (some ⟨G2, 0, none⟩) 256 256, .slice (some ⟨G3, 0, none⟩) 256 256] T (0, 0))) : BkAt w2 w0.heap.size w.heap.size p B A G1 G2 G3 n n mb db (fun _ => false) (fun _ => 0) (fun _ => 0) (fun _ => 0) (fun _ => 0) (fun _ => -1) (fun _ => 0) (fun _ => -1) (fun _ => 0) (fun _ => -1) (fun _ => 0) ∧ Below w0.heap.size w0 w2 := by
  subst h2
  have hp := hA.pl
  have hB := hA.lt
  have hAa := h.a A rfl
  have t1 := h.t G1 (by simp)
  have t2 := h.t G2 (by simp)
  have t3 := h.t G3 (by simp)
  have l1 := t1.2.lt
  have l2 := t2.2.lt
  have l3 := t3.2.lt
  have lA := hAa.2.lt
  have hnd := h.nd
  simp at hnd
  have hs := h.bel.size
  have hs1 := hb.size
  have h2' : ∀ o, Below w.heap.size w (w.alloc o) := fun o => (Below.refl _ _).alloc (Nat.le_refl _) o
  have sm : ∀ {T : TypeId} {s G m : Nat} {W : Nat → Nat → Value} (o : Obj), RowS w w0.heap.size T s G m W → RowS (w.alloc o) w0.heap.size T s G m W := fun o hr => hr.same ((h2' o).block _ hr.lt.2)
  obtain ⟨⟨a1, a2, a3⟩, ⟨b1, b2⟩, c1⟩ := hnd
  exact ⟨⟨by simp, by omega, by simp, by simp, by simp, by simp, by simp, by simp, by simp, (hA.below h.bel).below (h2' _), sm _ hAa.2, sm _ t1.2, sm _ t2.2, sm _ t3.2, ⟨by omega, by omega, by omega, by omega, by omega, by omega, by omega, by omega, by omega, by omega, a1, a2, a3, by omega, by omega, by omega, b1, b2, c1⟩⟩, (hb.trans (h.bel.mono hs1)).alloc (by omega) _⟩
set_option maxRecDepth 100000 in
set_option maxHeartbeats 2000000 in
theorem bknew_ok (x : Int) (n mb db : Nat) (hx : Hid (x = n)) (h1 : 1 ≤ n) (h2 : n ≤ 256) (w : World) :
    Calls Tryd.prog 144 #[.int .i64 x, .pointer (some ⟨mb, 0, none⟩), .pointer (some ⟨db, 0, none⟩)] w fun e w' => ∃ P p B A G1 G2 G3, e = .returned (.tuple #[.pointer (some ⟨P, 0, none⟩), .nilIface]) ∧ BkAt w' w.heap.size P p B A G1 G2 G3 n n mb db (fun _ => false) (fun _ => 0) (fun _ => 0) (fun _ => 0) (fun _ => 0) (fun _ => -1) (fun _ => 0) (fun _ => -1) (fun _ => 0) (fun _ => -1) (fun _ => 0) ∧ Below w.heap.size w w' := by
  rw [hx.out]
  obtain ⟨i0, hi, hz0, hz1, hz2⟩ := info_parts infoAcc
  have HI := Lib.hid (⟨hi, hz0, hz1, hz2⟩ : Tryd.prog.info? 231 = some i0 ∧ i0.zero = some (.agg #[.int .i64 0, .int .i64 0, .int .i64 0]) ∧ i0.size = 3 ∧ i0.bytes = 24)
  clear hi hz0 hz1 hz2 hx
  go_enter Tryd.func144, Tryd.ntmps144
  go_upto_region 4 with (first
    | (go_at_call 103; (with_reducible refine (anew_at _ n (Lib.hid rfl) h1 h2 _).mono ?_); rintro e w1 ⟨p, B, rfl, hA, hb⟩; have HA := Lib.hid hA; have HB := Lib.hid hb; clear hA hb))
  obtain ⟨wD, hwD⟩ : ∃ wD, wD = w1.drew := ⟨_, rfl⟩
  have HD : Hid (B0 w.heap.size w1 wD n none []) := Lib.hid (by rw [hwD]; exact ⟨(Below.refl _ _).drew, fun _ e => (by cases e), fun _ e => (by cases e), by simp⟩)
  refine wp_region_noPanic ?_
  refine wp_region_held_drew (S := fun w' => True) (by kernel_rfl) trivial (fun hHeld => ?_)
  rw [← hwD]
  clear hwD
  refine wpAnyH_take (i := 0) (v := ?_) (by rfl) (by kernel_rfl) (by kernel_rfl) (by kernel_rfl) (fun _ _ _ h => h) (Or.inl ⟨by kernel_rfl, ?_⟩) (by assumption) ?_; rotate_left 1; (focus (intro w hSw; (try dsimp only at hSw); simp only [List.getElem_toArray, List.getElem_cons_succ, List.getElem_cons_zero]; all_goals go_simp; all_goals (try with_reducible rfl))); (try simp only [Act.put, List.getElem_toArray, List.getElem_cons_succ, List.getElem_cons_zero, List.setIfInBounds_toArray, List.set_cons_zero, List.set_cons_succ])
  refine wpAnyH_take (i := 1) (v := ?_) (by rfl) (by kernel_rfl) (by kernel_rfl) (by kernel_rfl) (fun _ _ _ h => h) (Or.inl ⟨by kernel_rfl, ?_⟩) (by assumption) ?_; rotate_left 1; (focus (intro w hSw; (try dsimp only at hSw); simp only [List.getElem_toArray, List.getElem_cons_succ, List.getElem_cons_zero]; all_goals go_simp; all_goals (try with_reducible rfl))); (try simp only [Act.put, List.getElem_toArray, List.getElem_cons_succ, List.getElem_cons_zero, List.setIfInBounds_toArray, List.set_cons_zero, List.set_cons_succ])
  refine wpAnyH_take (i := 2) (v := ?_) (by rfl) (by kernel_rfl) (by kernel_rfl) (by kernel_rfl) (fun _ _ _ h => h) (Or.inl ⟨by kernel_rfl, ?_⟩) (by assumption) ?_; rotate_left 1; (focus (intro w hSw; (try dsimp only at hSw); simp only [List.getElem_toArray, List.getElem_cons_succ, List.getElem_cons_zero]; all_goals go_simp; all_goals (try with_reducible rfl))); (try simp only [Act.put, List.getElem_toArray, List.getElem_cons_succ, List.getElem_cons_zero, List.setIfInBounds_toArray, List.set_cons_zero, List.set_cons_succ])
  refine wpAnyH_take (i := 3) (v := ?_) (by rfl) (by kernel_rfl) (by kernel_rfl) (by kernel_rfl) (fun _ _ _ h => h) (Or.inl ⟨by kernel_rfl, ?_⟩) (by assumption) ?_; rotate_left 1; (focus (intro w hSw; (try dsimp only at hSw); simp only [List.getElem_toArray, List.getElem_cons_succ, List.getElem_cons_zero]; all_goals go_simp; all_goals (try with_reducible rfl))); (try simp only [Act.put, List.getElem_toArray, List.getElem_cons_succ, List.getElem_cons_zero, List.setIfInBounds_toArray, List.set_cons_zero, List.set_cons_succ])
  refine wpAnyH_ready (rs := [4, 5]) (by kernel_rfl) (by simp) ?_
  refine AllReadyH.cons (by rfl) (fun K' hK => ?_) (AllReadyH.cons (by rfl) (fun K' hK => ?_) AllReadyH.nil)
  · rw [if_pos (by kernel_rfl)]; simp only [List.getElem_toArray, List.getElem_cons_succ, List.getElem_cons_zero]
    obtain ⟨wA, hrun, hown, hgrow⟩ := run_make_full (P := Tryd.prog) wD w.heap.size 156 231 i0 (.agg #[.int .i64 0, .int .i64 0, .int .i64 0]) 3 Tryd.underlying156 HI.out.1 HI.out.2.1 HI.out.2.2.1 .i64 .i64 n (by rw [HI.out.2.2.2]; omega) (by unfold maxLen; omega) (Nat.le_trans HB.out.size HD.out.bel.size); obtain ⟨A, hA⟩ : ∃ A, wD.heap.size = A := ⟨_, rfl⟩; rw [hA] at hown hrun; have HwA := Lib.hid (HD.out.mk_ A hA hown hgrow); clear hown hgrow hA; go_wp2_with fail; clear hrun
    refine hK.out _ _ trivial (fun hHeld => ?_); clear hK; (try simp only [Act.put, List.getElem_toArray, List.getElem_cons_succ, List.getElem_cons_zero, List.setIfInBounds_toArray, List.set_cons_zero, List.set_cons_succ])
    refine wpAnyH_ready (rs := [5]) (by kernel_rfl) (by simp) ?_; refine AllReadyH.cons (by rfl) (fun K hK => ?_) AllReadyH.nil; rw [if_pos (by kernel_rfl)]; simp only [List.getElem_toArray, List.getElem_cons_succ, List.getElem_cons_zero]
    go_wp2_with (first | (go_at_call 185; (with_reducible refine (unowned_is _).mono ?_); rintro e wX ⟨G, rfl, hr, hb⟩; have HwX := Lib.hid (HwA.out.own HB.out.size G hr hb); clear hr hb))
    refine hK.out _ _ trivial (fun hHeld => ?_); clear hK; (try simp only [Act.put, List.getElem_toArray, List.getElem_cons_succ, List.getElem_cons_zero, List.setIfInBounds_toArray, List.set_cons_zero, List.set_cons_succ])
    refine wpAnyH_ready (rs := [6]) (by kernel_rfl) (by simp) ?_; refine AllReadyH.cons (by rfl) (fun K hK => ?_) AllReadyH.nil; rw [if_pos (by kernel_rfl)]; simp only [List.getElem_toArray, List.getElem_cons_succ, List.getElem_cons_zero]
    go_wp2_with (first | (go_at_call 185; (with_reducible refine (unowned_is _).mono ?_); rintro e wY ⟨G, rfl, hr, hb⟩; have HwY := Lib.hid (HwX.out.own HB.out.size G hr hb); clear hr hb))
    refine hK.out _ _ trivial (fun hHeld => ?_); clear hK; (try simp only [Act.put, List.getElem_toArray, List.getElem_cons_succ, List.getElem_cons_zero, List.setIfInBounds_toArray, List.set_cons_zero, List.set_cons_succ])
    refine wpAnyH_ready (rs := [7]) (by kernel_rfl) (by simp) ?_; refine AllReadyH.cons (by rfl) (fun K hK => ?_) AllReadyH.nil; rw [if_pos (by kernel_rfl)]; simp only [List.getElem_toArray, List.getElem_cons_succ, List.getElem_cons_zero]
    go_wp2_with (first | (go_at_call 185; (with_reducible refine (unowned_is _).mono ?_); rintro e wZ ⟨G, rfl, hr, hb⟩; have HwZ := Lib.hid (HwY.out.own HB.out.size G hr hb); clear hr hb))
    refine hK.out _ _ trivial (fun hHeld => ?_); clear hK; (try simp only [Act.put, List.getElem_toArray, List.getElem_cons_succ, List.getElem_cons_zero, List.setIfInBounds_toArray, List.set_cons_zero, List.set_cons_succ])
    refine wpAnyH_take (i := 8) (v := ?_) (by rfl) (by kernel_rfl) (by kernel_rfl) (by kernel_rfl) (fun _ _ _ h => h) (Or.inl ⟨by kernel_rfl, ?_⟩) (by assumption) ?_; rotate_left 1; (focus (intro w hSw; (try dsimp only at hSw); simp only [List.getElem_toArray, List.getElem_cons_succ, List.getElem_cons_zero]; all_goals go_simp; all_goals (try with_reducible rfl))); (try simp only [Act.put, List.getElem_toArray, List.getElem_cons_succ, List.getElem_cons_zero, List.setIfInBounds_toArray, List.set_cons_zero, List.set_cons_succ]); refine wpAnyH_ready (rs := [9]) (by kernel_rfl) (by simp) ?_; refine AllReadyH.cons (by rfl) (fun K hK => ?_) AllReadyH.nil; rw [if_pos (by kernel_rfl)]; simp only [List.getElem_toArray, List.getElem_cons_succ, List.getElem_cons_zero]; go_wp2_with fail; refine hK.out _ _ trivial (fun hHeld => ?_); clear hK; (try simp only [Act.put, List.getElem_toArray, List.getElem_cons_succ, List.getElem_cons_zero, List.setIfInBounds_toArray, List.set_cons_zero, List.set_cons_succ]); (try refine wpAnyH_take (i := 10) (v := ?_) (by rfl) (by kernel_rfl) (by kernel_rfl) (by kernel_rfl) (fun _ _ _ h => h) (Or.inl ⟨by kernel_rfl, ?_⟩) (by assumption) ?_; rotate_left 1; (focus (intro w hSw; (try dsimp only at hSw); simp only [List.getElem_toArray, List.getElem_cons_succ, List.getElem_cons_zero]; all_goals go_simp; all_goals (try with_reducible rfl))); (try simp only [Act.put, List.getElem_toArray, List.getElem_cons_succ, List.getElem_cons_zero, List.setIfInBounds_toArray, List.set_cons_zero, List.set_cons_succ])); (try refine wpAnyH_take (i := 11) (v := ?_) (by rfl) (by kernel_rfl) (by kernel_rfl) (by kernel_rfl) (fun _ _ _ h => h) (Or.inl ⟨by kernel_rfl, ?_⟩) (by assumption) ?_; rotate_left 1; (focus (intro w hSw; (try dsimp only at hSw); simp only [List.getElem_toArray, List.getElem_cons_succ, List.getElem_cons_zero]; all_goals go_simp; all_goals (try with_reducible rfl))); (try simp only [Act.put, List.getElem_toArray, List.getElem_cons_succ, List.getElem_cons_zero, List.setIfInBounds_toArray, List.set_cons_zero, List.set_cons_succ])); refine wpAnyH_done (by kernel_rfl) ?_ _; refine NoPanic.normal ?_; go_wp2_with fail; go_ret2; have hD := B0.done (mb := mb) (db := db) HA.out HB.out HwZ.out 159 rfl; exact ⟨_, _, _, _, _, _, _, rfl, hD.1, hD.2⟩
  · rw [if_pos (by kernel_rfl)]; simp only [List.getElem_toArray, List.getElem_cons_succ, List.getElem_cons_zero]
    go_wp2_with (first | (go_at_call 185; (with_reducible refine (unowned_is _).mono ?_); rintro e wX ⟨G, rfl, hr, hb⟩; have HwX := Lib.hid (HD.out.own HB.out.size G hr hb); clear hr hb))
    refine hK.out _ _ trivial (fun hHeld => ?_); clear hK; (try simp only [Act.put, List.getElem_toArray, List.getElem_cons_succ, List.getElem_cons_zero, List.setIfInBounds_toArray, List.set_cons_zero, List.set_cons_succ])
    refine wpAnyH_ready (rs := [4, 6]) (by kernel_rfl) (by simp) ?_
    refine AllReadyH.cons (by rfl) (fun K'' hK => ?_) (AllReadyH.cons (by rfl) (fun K'' hK => ?_) AllReadyH.nil)
    · rw [if_pos (by kernel_rfl)]; simp only [List.getElem_toArray, List.getElem_cons_succ, List.getElem_cons_zero]
      obtain ⟨wA, hrun, hown, hgrow⟩ := run_make_full (P := Tryd.prog) wX w.heap.size 156 231 i0 (.agg #[.int .i64 0, .int .i64 0, .int .i64 0]) 3 Tryd.underlying156 HI.out.1 HI.out.2.1 HI.out.2.2.1 .i64 .i64 n (by rw [HI.out.2.2.2]; omega) (by unfold maxLen; omega) (Nat.le_trans HB.out.size HwX.out.bel.size); obtain ⟨A, hA⟩ : ∃ A, wX.heap.size = A := ⟨_, rfl⟩; rw [hA] at hown hrun; have HwA := Lib.hid (HwX.out.mk_ A hA hown hgrow); clear hown hgrow hA; go_wp2_with fail; clear hrun
      refine hK.out _ _ trivial (fun hHeld => ?_); clear hK; (try simp only [Act.put, List.getElem_toArray, List.getElem_cons_succ, List.getElem_cons_zero, List.setIfInBounds_toArray, List.set_cons_zero, List.set_cons_succ])
      refine wpAnyH_ready (rs := [6]) (by kernel_rfl) (by simp) ?_; refine AllReadyH.cons (by rfl) (fun K hK => ?_) AllReadyH.nil; rw [if_pos (by kernel_rfl)]; simp only [List.getElem_toArray, List.getElem_cons_succ, List.getElem_cons_zero]
      go_wp2_with (first | (go_at_call 185; (with_reducible refine (unowned_is _).mono ?_); rintro e wY ⟨G, rfl, hr, hb⟩; have HwY := Lib.hid (HwA.out.own HB.out.size G hr hb); clear hr hb))
      refine hK.out _ _ trivial (fun hHeld => ?_); clear hK; (try simp only [Act.put, List.getElem_toArray, List.getElem_cons_succ, List.getElem_cons_zero, List.setIfInBounds_toArray, List.set_cons_zero, List.set_cons_succ])
      refine wpAnyH_ready (rs := [7]) (by kernel_rfl) (by simp) ?_; refine AllReadyH.cons (by rfl) (fun K hK => ?_) AllReadyH.nil; rw [if_pos (by kernel_rfl)]; simp only [List.getElem_toArray, List.getElem_cons_succ, List.getElem_cons_zero]
      go_wp2_with (first | (go_at_call 185; (with_reducible refine (unowned_is _).mono ?_); rintro e wZ ⟨G, rfl, hr, hb⟩; have HwZ := Lib.hid (HwY.out.own HB.out.size G hr hb); clear hr hb))
      refine hK.out _ _ trivial (fun hHeld => ?_); clear hK; (try simp only [Act.put, List.getElem_toArray, List.getElem_cons_succ, List.getElem_cons_zero, List.setIfInBounds_toArray, List.set_cons_zero, List.set_cons_succ])
      refine wpAnyH_take (i := 8) (v := ?_) (by rfl) (by kernel_rfl) (by kernel_rfl) (by kernel_rfl) (fun _ _ _ h => h) (Or.inl ⟨by kernel_rfl, ?_⟩) (by assumption) ?_; rotate_left 1; (focus (intro w hSw; (try dsimp only at hSw); simp only [List.getElem_toArray, List.getElem_cons_succ, List.getElem_cons_zero]; all_goals go_simp; all_goals (try with_reducible rfl))); (try simp only [Act.put, List.getElem_toArray, List.getElem_cons_succ, List.getElem_cons_zero, List.setIfInBounds_toArray, List.set_cons_zero, List.set_cons_succ]); refine wpAnyH_ready (rs := [9]) (by kernel_rfl) (by simp) ?_; refine AllReadyH.cons (by rfl) (fun K hK => ?_) AllReadyH.nil; rw [if_pos (by kernel_rfl)]; simp only [List.getElem_toArray, List.getElem_cons_succ, List.getElem_cons_zero]; go_wp2_with fail; refine hK.out _ _ trivial (fun hHeld => ?_); clear hK; (try simp only [Act.put, List.getElem_toArray, List.getElem_cons_succ, List.getElem_cons_zero, List.setIfInBounds_toArray, List.set_cons_zero, List.set_cons_succ]); (try refine wpAnyH_take (i := 10) (v := ?_) (by rfl) (by kernel_rfl) (by kernel_rfl) (by kernel_rfl) (fun _ _ _ h => h) (Or.inl ⟨by kernel_rfl, ?_⟩) (by assumption) ?_; rotate_left 1; (focus (intro w hSw; (try dsimp only at hSw); simp only [List.getElem_toArray, List.getElem_cons_succ, List.getElem_cons_zero]; all_goals go_simp; all_goals (try with_reducible rfl))); (try simp only [Act.put, List.getElem_toArray, List.getElem_cons_succ, List.getElem_cons_zero, List.setIfInBounds_toArray, List.set_cons_zero, List.set_cons_succ])); (try refine wpAnyH_take (i := 11) (v := ?_) (by rfl) (by kernel_rfl) (by kernel_rfl) (by kernel_rfl) (fun _ _ _ h => h) (Or.inl ⟨by kernel_rfl, ?_⟩) (by assumption) ?_; rotate_left 1; (focus (intro w hSw; (try dsimp only at hSw); simp only [List.getElem_toArray, List.getElem_cons_succ, List.getElem_cons_zero]; all_goals go_simp; all_goals (try with_reducible rfl))); (try simp only [Act.put, List.getElem_toArray, List.getElem_cons_succ, List.getElem_cons_zero, List.setIfInBounds_toArray, List.set_cons_zero, List.set_cons_succ])); refine wpAnyH_done (by kernel_rfl) ?_ _; refine NoPanic.normal ?_; go_wp2_with fail; go_ret2; have hD := B0.done (mb := mb) (db := db) HA.out HB.out HwZ.out 159 rfl; exact ⟨_, _, _, _, _, _, _, rfl, hD.1, hD.2⟩
    · rw [if_pos (by kernel_rfl)]; simp only [List.getElem_toArray, List.getElem_cons_succ, List.getElem_cons_zero]
      go_wp2_with (first | (go_at_call 185; (with_reducible refine (unowned_is _).mono ?_); rintro e wY ⟨G, rfl, hr, hb⟩; have HwY := Lib.hid (HwX.out.own HB.out.size G hr hb); clear hr hb))
      refine hK.out _ _ trivial (fun hHeld => ?_); clear hK; (try simp only [Act.put, List.getElem_toArray, List.getElem_cons_succ, List.getElem_cons_zero, List.setIfInBounds_toArray, List.set_cons_zero, List.set_cons_succ])
      refine wpAnyH_ready (rs := [4, 7]) (by kernel_rfl) (by simp) ?_
      refine AllReadyH.cons (by rfl) (fun K3 hK => ?_) (AllReadyH.cons (by rfl) (fun K3 hK => ?_) AllReadyH.nil)
      · rw [if_pos (by kernel_rfl)]; simp only [List.getElem_toArray, List.getElem_cons_succ, List.getElem_cons_zero]
        obtain ⟨wA, hrun, hown, hgrow⟩ := run_make_full (P := Tryd.prog) wY w.heap.size 156 231 i0 (.agg #[.int .i64 0, .int .i64 0, .int .i64 0]) 3 Tryd.underlying156 HI.out.1 HI.out.2.1 HI.out.2.2.1 .i64 .i64 n (by rw [HI.out.2.2.2]; omega) (by unfold maxLen; omega) (Nat.le_trans HB.out.size HwY.out.bel.size); obtain ⟨A, hA⟩ : ∃ A, wY.heap.size = A := ⟨_, rfl⟩; rw [hA] at hown hrun; have HwA := Lib.hid (HwY.out.mk_ A hA hown hgrow); clear hown hgrow hA; go_wp2_with fail; clear hrun
        refine hK.out _ _ trivial (fun hHeld => ?_); clear hK; (try simp only [Act.put, List.getElem_toArray, List.getElem_cons_succ, List.getElem_cons_zero, List.setIfInBounds_toArray, List.set_cons_zero, List.set_cons_succ])
        refine wpAnyH_ready (rs := [7]) (by kernel_rfl) (by simp) ?_; refine AllReadyH.cons (by rfl) (fun K hK => ?_) AllReadyH.nil; rw [if_pos (by kernel_rfl)]; simp only [List.getElem_toArray, List.getElem_cons_succ, List.getElem_cons_zero]
        go_wp2_with (first | (go_at_call 185; (with_reducible refine (unowned_is _).mono ?_); rintro e wZ ⟨G, rfl, hr, hb⟩; have HwZ := Lib.hid (HwA.out.own HB.out.size G hr hb); clear hr hb))
        refine hK.out _ _ trivial (fun hHeld => ?_); clear hK; (try simp only [Act.put, List.getElem_toArray, List.getElem_cons_succ, List.getElem_cons_zero, List.setIfInBounds_toArray, List.set_cons_zero, List.set_cons_succ])
        refine wpAnyH_take (i := 8) (v := ?_) (by rfl) (by kernel_rfl) (by kernel_rfl) (by kernel_rfl) (fun _ _ _ h => h) (Or.inl ⟨by kernel_rfl, ?_⟩) (by assumption) ?_; rotate_left 1; (focus (intro w hSw; (try dsimp only at hSw); simp only [List.getElem_toArray, List.getElem_cons_succ, List.getElem_cons_zero]; all_goals go_simp; all_goals (try with_reducible rfl))); (try simp only [Act.put, List.getElem_toArray, List.getElem_cons_succ, List.getElem_cons_zero, List.setIfInBounds_toArray, List.set_cons_zero, List.set_cons_succ]); refine wpAnyH_ready (rs := [9]) (by kernel_rfl) (by simp) ?_; refine AllReadyH.cons (by rfl) (fun K hK => ?_) AllReadyH.nil; rw [if_pos (by kernel_rfl)]; simp only [List.getElem_toArray, List.getElem_cons_succ, List.getElem_cons_zero]; go_wp2_with fail; refine hK.out _ _ trivial (fun hHeld => ?_); clear hK; (try simp only [Act.put, List.getElem_toArray, List.getElem_cons_succ, List.getElem_cons_zero, List.setIfInBounds_toArray, List.set_cons_zero, List.set_cons_succ]); (try refine wpAnyH_take (i := 10) (v := ?_) (by rfl) (by kernel_rfl) (by kernel_rfl) (by kernel_rfl) (fun _ _ _ h => h) (Or.inl ⟨by kernel_rfl, ?_⟩) (by assumption) ?_; rotate_left 1; (focus (intro w hSw; (try dsimp only at hSw); simp only [List.getElem_toArray, List.getElem_cons_succ, List.getElem_cons_zero]; all_goals go_simp; all_goals (try with_reducible rfl))); (try simp only [Act.put, List.getElem_toArray, List.getElem_cons_succ, List.getElem_cons_zero, List.setIfInBounds_toArray, List.set_cons_zero, List.set_cons_succ])); (try refine wpAnyH_take (i := 11) (v := ?_) (by rfl) (by kernel_rfl) (by kernel_rfl) (by kernel_rfl) (fun _ _ _ h => h) (Or.inl ⟨by kernel_rfl, ?_⟩) (by assumption) ?_; rotate_left 1; (focus (intro w hSw; (try dsimp only at hSw); simp only [List.getElem_toArray, List.getElem_cons_succ, List.getElem_cons_zero]; all_goals go_simp; all_goals (try with_reducible rfl))); (try simp only [Act.put, List.getElem_toArray, List.getElem_cons_succ, List.getElem_cons_zero, List.setIfInBounds_toArray, List.set_cons_zero, List.set_cons_succ])); refine wpAnyH_done (by kernel_rfl) ?_ _; refine NoPanic.normal ?_; go_wp2_with fail; go_ret2; have hD := B0.done (mb := mb) (db := db) HA.out HB.out HwZ.out 159 rfl; exact ⟨_, _, _, _, _, _, _, rfl, hD.1, hD.2⟩
      · rw [if_pos (by kernel_rfl)]; simp only [List.getElem_toArray, List.getElem_cons_succ, List.getElem_cons_zero]
        go_wp2_with (first | (go_at_call 185; (with_reducible refine (unowned_is _).mono ?_); rintro e wZ ⟨G, rfl, hr, hb⟩; have HwZ := Lib.hid (HwY.out.own HB.out.size G hr hb); clear hr hb))
        refine hK.out _ _ trivial (fun hHeld => ?_); clear hK; (try simp only [Act.put, List.getElem_toArray, List.getElem_cons_succ, List.getElem_cons_zero, List.setIfInBounds_toArray, List.set_cons_zero, List.set_cons_succ])
        refine wpAnyH_ready (rs := [4]) (by kernel_rfl) (by simp) ?_; refine AllReadyH.cons (by rfl) (fun K hK => ?_) AllReadyH.nil; rw [if_pos (by kernel_rfl)]; simp only [List.getElem_toArray, List.getElem_cons_succ, List.getElem_cons_zero]
        obtain ⟨wA, hrun, hown, hgrow⟩ := run_make_full (P := Tryd.prog) wZ w.heap.size 156 231 i0 (.agg #[.int .i64 0, .int .i64 0, .int .i64 0]) 3 Tryd.underlying156 HI.out.1 HI.out.2.1 HI.out.2.2.1 .i64 .i64 n (by rw [HI.out.2.2.2]; omega) (by unfold maxLen; omega) (Nat.le_trans HB.out.size HwZ.out.bel.size); obtain ⟨A, hA⟩ : ∃ A, wZ.heap.size = A := ⟨_, rfl⟩; rw [hA] at hown hrun; have HwA := Lib.hid (HwZ.out.mk_ A hA hown hgrow); clear hown hgrow hA; go_wp2_with fail; clear hrun
        refine hK.out _ _ trivial (fun hHeld => ?_); clear hK; (try simp only [Act.put, List.getElem_toArray, List.getElem_cons_succ, List.getElem_cons_zero, List.setIfInBounds_toArray, List.set_cons_zero, List.set_cons_succ])
        refine wpAnyH_take (i := 8) (v := ?_) (by rfl) (by kernel_rfl) (by kernel_rfl) (by kernel_rfl) (fun _ _ _ h => h) (Or.inl ⟨by kernel_rfl, ?_⟩) (by assumption) ?_; rotate_left 1; (focus (intro w hSw; (try dsimp only at hSw); simp only [List.getElem_toArray, List.getElem_cons_succ, List.getElem_cons_zero]; all_goals go_simp; all_goals (try with_reducible rfl))); (try simp only [Act.put, List.getElem_toArray, List.getElem_cons_succ, List.getElem_cons_zero, List.setIfInBounds_toArray, List.set_cons_zero, List.set_cons_succ]); refine wpAnyH_ready (rs := [9]) (by kernel_rfl) (by simp) ?_; refine AllReadyH.cons (by rfl) (fun K hK => ?_) AllReadyH.nil; rw [if_pos (by kernel_rfl)]; simp only [List.getElem_toArray, List.getElem_cons_succ, List.getElem_cons_zero]; go_wp2_with fail; refine hK.out _ _ trivial (fun hHeld => ?_); clear hK; (try simp only [Act.put, List.getElem_toArray, List.getElem_cons_succ, List.getElem_cons_zero, List.setIfInBounds_toArray, List.set_cons_zero, List.set_cons_succ]); (try refine wpAnyH_take (i := 10) (v := ?_) (by rfl) (by kernel_rfl) (by kernel_rfl) (by kernel_rfl) (fun _ _ _ h => h) (Or.inl ⟨by kernel_rfl, ?_⟩) (by assumption) ?_; rotate_left 1; (focus (intro w hSw; (try dsimp only at hSw); simp only [List.getElem_toArray, List.getElem_cons_succ, List.getElem_cons_zero]; all_goals go_simp; all_goals (try with_reducible rfl))); (try simp only [Act.put, List.getElem_toArray, List.getElem_cons_succ, List.getElem_cons_zero, List.setIfInBounds_toArray, List.set_cons_zero, List.set_cons_succ])); (try refine wpAnyH_take (i := 11) (v := ?_) (by rfl) (by kernel_rfl) (by kernel_rfl) (by kernel_rfl) (fun _ _ _ h => h) (Or.inl ⟨by kernel_rfl, ?_⟩) (by assumption) ?_; rotate_left 1; (focus (intro w hSw; (try dsimp only at hSw); simp only [List.getElem_toArray, List.getElem_cons_succ, List.getElem_cons_zero]; all_goals go_simp; all_goals (try with_reducible rfl))); (try simp only [Act.put, List.getElem_toArray, List.getElem_cons_succ, List.getElem_cons_zero, List.setIfInBounds_toArray, List.set_cons_zero, List.set_cons_succ])); refine wpAnyH_done (by kernel_rfl) ?_ _; refine NoPanic.normal ?_; go_wp2_with fail; go_ret2; have hD := B0.done (mb := mb) (db := db) HA.out HB.out HwA.out 159 rfl; exact ⟨_, _, _, _, _, _, _, rfl, hD.1, hD.2⟩
end Go.Proofs.YtkogmhgpkacehaaDoor
