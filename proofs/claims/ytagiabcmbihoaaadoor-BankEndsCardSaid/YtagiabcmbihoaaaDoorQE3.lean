/-
  BkQ, BkS, BkZ, BkG, Ea, Eb, Ec, BkN, BkO: what BankEnds reaches of them.
-/
import Derived.Test.YtagiabcmbihoaaaDoorQE2
namespace Go.Proofs.YtagiabcmbihoaaaDoor
open Go.ChangeShapes Go.WideShapes Go.ChangeAt Go.RowKit
set_option linter.unusedVariables false
set_option linter.unusedSimpArgs false
/-- The keys' cells of these places. -/
def okc (k0 : Int) (V : Nat → Int) (ids : List Nat) : List Value := ids.flatMap (fun (i : Nat) => [.int .i64 k0, .int .i64 (i : Int), .int .i64 (V i), .int .i64 0, .int .u32 0])
/-- The places below n that are there and whose title names q. -/
def oks (T : Nat → Bool) (o : Nat → Int) (q : Nat) (n : Nat) : List Nat := (List.range n).filter (fun i => T i && (o i == (q : Int)))
theorem oks_zero (T : Nat → Bool) (o : Nat → Int) (q : Nat) : oks T o q 0 = [] := rfl
theorem oks_yes (T : Nat → Bool) (o : Nat → Int) (q n : Nat) (h : T n = true) (h2 : o n = (q : Int)) : oks T o q (n + 1) = oks T o q n ++ [n] := by
  unfold oks; rw [List.range_succ, List.filter_append]; simp [h, h2]
theorem oks_dead (T : Nat → Bool) (o : Nat → Int) (q n : Nat) (h : T n = false) : oks T o q (n + 1) = oks T o q n := by
  unfold oks; rw [List.range_succ, List.filter_append]; simp [h]
theorem oks_no (T : Nat → Bool) (o : Nat → Int) (q n : Nat) (h2 : ¬ o n = (q : Int)) : oks T o q (n + 1) = oks T o q n := by
  unfold oks; rw [List.range_succ, List.filter_append]; simp [h2]
theorem oks_len (T : Nat → Bool) (o : Nat → Int) (q n : Nat) : (oks T o q n).length ≤ n := by
  have := List.length_filter_le (fun i => T i && (o i == (q : Int))) (List.range n)
  simpa [oks] using this
theorem okc_snoc (k0 : Int) (V : Nat → Int) (l : List Nat) (i : Nat) : okc k0 V (l ++ [i]) = okc k0 V l ++ [.int .i64 k0, .int .i64 (i : Int), .int .i64 (V i), .int .i64 0, .int .u32 0] := by
  simp [okc]
theorem ok5_at {w : World} {T : TypeId} {y0 y1 y2 y3 y4 : Int} : ∀ j u, [Value.int .i64 y0, .int .i64 y1, .int .i64 y2, .int .i64 y3, .int .u32 y4][j]? = some u → (w.alloc (.cells #[.int .i64 y0, .int .i64 y1, .int .i64 y2, .int .i64 y3, .int .u32 y4] T (0, 0))).cell? (Addr.add ⟨w.heap.size, 0, none⟩ j) = some u := by
  intro j u hj
  have e : Addr.add ⟨w.heap.size, 0, none⟩ j = ⟨w.heap.size, j, none⟩ := by unfold Addr.add; split <;> simp_all
  rw [e]
  match j, hj with
  | 0, hj | 1, hj | 2, hj | 3, hj | 4, hj => simp at hj; subst hj; simp
  | j + 5, hj => simp at hj
theorem ok5_one (y0 y1 y2 y3 y4 : Int) : ∀ u ∈ [Value.int .i64 y0, .int .i64 y1, .int .i64 y2, .int .i64 y3, .int .u32 y4], u.oneCell' = true := by
  intro u hu
  simp only [List.mem_cons, List.not_mem_nil, or_false] at hu
  rcases hu with rfl | rfl | rfl | rfl | rfl <;> rfl
/-- Owned at work: its boxes, and the row behind them. -/
structure OwS (M w : World) (P bb ib ob : Nat) (q : Nat) (v : Value) (m : Nat) (xs : List Value) : Prop where
  bel : Below M.heap.size M w
  nb : M.heap.size ≤ bb ∧ M.heap.size ≤ ib ∧ M.heap.size ≤ ob ∧ bb < ob ∧ ib < ob
  lt : ob < w.heap.size
  b0 : w.cell? ⟨bb, 0, none⟩ = some (.pointer (some ⟨P, 0, none⟩))
  i0 : w.cell? ⟨ib, 0, none⟩ = some (.int .i64 (q : Int))
  o0 : w.cell? ⟨ob, 0, none⟩ = some v
  fr : w.frozen? ⟨ob, 0, none⟩ = false
  row : w.ownsRow (ob + 1) 38 5 v m xs
section
variable {M w w' : World} {P bb ib ob q m : Nat} {v : Value} {xs : List Value}
theorem OwS.below (h : OwS M w P bb ib ob q v m xs) (hb : Below w.heap.size w w') : OwS M w' P bb ib ob q v m xs :=
  ⟨h.bel.trans (hb.mono h.bel.size), h.nb, Nat.lt_of_lt_of_le h.lt hb.size, (hb.cell (p := ⟨bb, 0, none⟩) (Nat.lt_trans h.nb.2.2.2.1 h.lt)).trans h.b0, (hb.cell (p := ⟨ib, 0, none⟩) (Nat.lt_trans h.nb.2.2.2.2 h.lt)).trans h.i0, (hb.cell (p := ⟨ob, 0, none⟩) h.lt).trans h.o0, (World.frozen?_of_block (a := ⟨ob, 0, none⟩) (hb.block ob h.lt)).trans h.fr,
    row_same' h.row (fun g hg => hb.block g (h.row.lt g hg).2)⟩
/-- Grown by one row, but not yet stored. -/
structure OwG (M w : World) (P bb ib ob : Nat) (q : Nat) (v : Value) (m : Nat) (xs : List Value) (u : Value) : Prop where
  bel : Below M.heap.size M w
  nb : M.heap.size ≤ bb ∧ M.heap.size ≤ ib ∧ M.heap.size ≤ ob ∧ bb < ob ∧ ib < ob
  lt : ob < w.heap.size
  b0 : w.cell? ⟨bb, 0, none⟩ = some (.pointer (some ⟨P, 0, none⟩))
  i0 : w.cell? ⟨ib, 0, none⟩ = some (.int .i64 (q : Int))
  o0 : w.cell? ⟨ob, 0, none⟩ = some u
  fr : w.frozen? ⟨ob, 0, none⟩ = false
  row : w.ownsRow (ob + 1) 38 5 v m xs
theorem OwS.grown {v' : Value} {m' : Nat} {xs' : List Value} (h : OwS M w P bb ib ob q v m xs) (hg : w.grownBy w' v.ownBlock) (hr : w'.ownsRow (ob + 1) 38 5 v' m' xs') : OwG M w' P bb ib ob q v' m' xs' v := by
  have hn : ∀ k, k ≤ ob → some k ≠ v.ownBlock := fun k hk e => by have := (h.row.lt k e.symm).1; omega
  have hk : ∀ k, k ≤ ob → w'.heap[k]? = w.heap[k]? := fun k hk => hg.block k (Nat.lt_of_le_of_lt hk h.lt) (hn k hk)
  have hnb := h.nb
  refine ⟨h.bel.grown hg h.bel.size (fun g hg' => by have := (h.row.lt g hg').1; omega), h.nb, Nat.lt_of_lt_of_le h.lt hg.size, ?_, ?_, ?_, ?_, hr⟩
  · exact (World.cell?_of_block (a := ⟨bb, 0, none⟩) (hk bb (by omega))).trans h.b0
  · exact (World.cell?_of_block (a := ⟨ib, 0, none⟩) (hk ib (by omega))).trans h.i0
  · exact (World.cell?_of_block (a := ⟨ob, 0, none⟩) (hk ob (by omega))).trans h.o0
  · exact (World.frozen?_of_block (a := ⟨ob, 0, none⟩) (hk ob (by omega))).trans h.fr
theorem OwG.put {u : Value} (h : OwG M w P bb ib ob q v m xs u) : OwS M (w.setCell ⟨ob, 0, none⟩ v) P bb ib ob q v m xs := by
  have hnb := h.nb
  refine ⟨h.bel.setCell (by show M.heap.size ≤ ob; omega) _, h.nb, by simpa using h.lt, ?_, ?_, ?_, ?_, ?_⟩
  · rw [World.cell?_setCell_far _ _ _ _ (by show ob ≠ bb; omega)]; exact h.b0
  · rw [World.cell?_setCell_far _ _ _ _ (by show ob ≠ ib; omega)]; exact h.i0
  · exact World.cell?_setCell_same _ _ _ h.o0
  · rw [World.frozen?_setCell]; exact h.fr
  · exact row_same' h.row (fun g hg => Below.heap_setCell _ _ _ _ (by have := (h.row.lt g hg).1; show g ≠ ob; omega))
end
theorem infoKeyO : (Tryd.prog.info? 38).map (fun i => (i.zero, i.size, i.bytes)) = some (some (.agg #[.int .i64 0, .int .i64 0, .int .i64 0, .int .i64 0, .int .u32 0]), 5, 40) := by kernel_rfl

set_option maxRecDepth 100000 in
set_option maxHeartbeats 2000000 in
theorem badd_page {w0 : World} {L : BLoc} {D : BSt} (M : World) (bb ib ob q n m0 : Nat) (xs0 : List Value) (o vv : Nat → Int) (T : Nat → Bool) (V : Nat → Int) (hn : n ≤ 256) (hm0 : m0 ≤ 1000)
    (hlive : Hid (∀ i, i < n → T i = true → liveK L D 3 (i : Int) (V i) = true))
    (htit : Hid (∀ W, BW w0 W L D → ∀ i, i < n → TiAt W L 3 L.G2 i (o i) (vv i)))
    (how : Hid (∀ i, i < n → T i = true → ∃ q' : Nat, q' < D.nb ∧ o i = (q' : Int) ∧ vv i = V i))
    (hyes : Hid (∀ i, i < n → T i = true → ∀ W, BW w0 W L D → True → Calls Tryd.prog 40 #[.pointer (some ⟨L.S, 0, none⟩), .int .i64 (i : Int)] W fun e w' => e = .returned (.agg #[.int .i64 3, .int .i64 (i : Int), .int .i64 (V i), .int .i64 0, .int .u32 0]) ∧ Below W.heap.size W w'))
    (hno : Hid (∀ i, i < n → T i = false → ∀ W, BW w0 W L D → True → Calls Tryd.prog 40 #[.pointer (some ⟨L.S, 0, none⟩), .int .i64 (i : Int)] W fun e w' => e = .returned (Value.agg #[.int .i64 0, .int .i64 0, .int .i64 0, .int .i64 0, .int .u32 0]) ∧ Below W.heap.size W w'))
    (hM : BW w0 M L D) (w : World) (v0 : Value) (h : OwS M w L.P bb ib ob q v0 m0 xs0) :
    Calls Tryd.prog 36 #[.int .i64 (n : Int), .func (.func 40) #[.pointer (some ⟨L.S, 0, none⟩)] #[], .pointer (some ⟨bb, 0, none⟩), .pointer (some ⟨ib, 0, none⟩), .pointer (some ⟨ob, 0, none⟩)] w fun e w' => e = .returned (.tuple #[]) ∧ ∃ v, OwS M w' L.P bb ib ob q v (m0 + (oks T o q n).length) (xs0 ++ okc 3 V (oks T o q n)) := by
  have H := Lib.hid h
  have HM := Lib.hid hM
  obtain ⟨i0, hi, hz0, hz1, hz2⟩ := info_parts infoKeyO
  have HI := Lib.hid (⟨hi, hz0, hz1, hz2⟩ : Tryd.prog.info? 38 = some i0 ∧ i0.zero = some (.agg #[.int .i64 0, .int .i64 0, .int .i64 0, .int .i64 0, .int .u32 0]) ∧ i0.size = 5 ∧ i0.bytes = 40)
  clear h hM hi hz0 hz1 hz2
  go_enter Tryd.func36, Tryd.ntmps36
  go_wp2_with fail
  go_loopw [10] (fun x wr => ∃ (i : Nat) (v : Value), i ≤ n ∧ x = .int .i64 (i : Int) ∧ OwS M wr L.P bb ib ob q v (m0 + (oks T o q i).length) (xs0 ++ okc 3 V (oks T o q i))) (fun x _ => n - (intOf x).toNat)
  case atStart => exact ⟨0, v0, Nat.zero_le _, rfl, by simpa [oks_zero, okc] using H.out⟩
  case round =>
    obtain ⟨i, v, hin, rfl, hO⟩ := hrel
    have HO := Lib.hid hO
    have HW := Lib.hid (HM.out.below hO.bel)
    clear hO
    have g0 : (0 : Int) ≤ i := by omega
    have hle := oks_len T o q i
    obtain ⟨m, hm⟩ : ∃ m, Hid (m = m0 + (oks T o q i).length) := ⟨_, Lib.hid rfl⟩
    obtain ⟨xs, hxs⟩ : ∃ xs, Hid (xs = xs0 ++ okc 3 V (oks T o q i)) := ⟨_, Lib.hid rfl⟩
    rw [← hm.out, ← hxs.out] at HO
    have hmb : m ≤ 1256 := by have := hm.out; omega
    clear hle
    by_cases hlt : i < n
    · by_cases hT : T i = true
      · obtain ⟨q', hq', ho', hv'⟩ := how.out i hlt hT
        have HLv := Lib.hid (hlive.out i hlt hT)
        have HC := Lib.hid (hyes.out i hlt hT)
        obtain ⟨vi, hvi⟩ : ∃ vi, Hid (V i = vi) := ⟨_, Lib.hid rfl⟩
        have HTt := Lib.hid (fun W hW => by have := htit.out W hW i hlt; rw [ho', hv', hvi.out] at this; exact this)
        rw [hvi.out] at HLv HC
        have HT := Lib.hid hT
        have Ho := Lib.hid ho'
        have i256 : i < 256 := by omega
        clear hT ho' hv'
        go_upto_region 4 with (first
          | (go_at_call 40; (with_reducible refine (HC.out _ HW.out trivial).mono ?_); rintro e w1 ⟨rfl, hb⟩; have HB1 := Lib.hid hb; clear hb))
        obtain ⟨kb, hkb⟩ : ∃ kb, kb = w1.heap.size := ⟨_, rfl⟩
        generalize hw2 : World.alloc w1 _ = w2
        have HB2 : Hid (Below w1.heap.size w1 w2) := Lib.hid (by rw [← hw2]; exact (Below.refl _ _).alloc (Nat.le_refl _) _)
        have HK2 : Hid (KeyC w2 kb 3 (i : Int) vi 0 0) := Lib.hid (by rw [← hw2, hkb]; exact KeyC.new w1 3 (i : Int) vi 0 0 _)
        rw [← hkb]
        clear hw2 hkb
        obtain ⟨wD, hwD⟩ : ∃ wD, wD = w2.drew := ⟨_, rfl⟩
        have HBD : Hid (Below wr.heap.size wr wD) := Lib.hid (by rw [hwD]; exact (HB1.out.trans (HB2.out.mono HB1.out.size)).drew)
        have HKD : Hid (KeyC wD kb 3 (i : Int) vi 0 0) := Lib.hid (by rw [hwD]; exact HK2.out.below (Below.refl _ _).drew)
        have HOD := Lib.hid (HO.out.below HBD.out)
        have HWD := Lib.hid (HW.out.below HBD.out)
        have HS : Hid (∀ W, Below wD.heap.size wD W → ((World.cell? W ⟨kb, 0, none⟩ = some (.int .i64 3) ∧ World.cell? W ⟨kb, 1, none⟩ = some (.int .i64 (i : Int)) ∧ World.cell? W ⟨kb, 2, none⟩ = some (.int .i64 vi) ∧ World.cell? W ⟨kb, 3, none⟩ = some (.int .i64 0) ∧ World.cell? W ⟨kb, 4, none⟩ = some (.int .u32 0)) ∧ World.cell? W ⟨bb, 0, none⟩ = some (.pointer (some ⟨L.P, 0, none⟩)) ∧ World.cell? W ⟨ib, 0, none⟩ = some (.int .i64 (q : Int)))) := Lib.hid (fun W hb => ⟨(HKD.out.below hb).k5, (HOD.out.below hb).b0, (HOD.out.below hb).i0⟩)
        refine wp_region_noPanic ?_
        refine wp_region_held_drew (S := fun w' => ((World.cell? w' ⟨kb, 0, none⟩ = some (.int .i64 3) ∧ World.cell? w' ⟨kb, 1, none⟩ = some (.int .i64 (i : Int)) ∧ World.cell? w' ⟨kb, 2, none⟩ = some (.int .i64 vi) ∧ World.cell? w' ⟨kb, 3, none⟩ = some (.int .i64 0) ∧ World.cell? w' ⟨kb, 4, none⟩ = some (.int .u32 0)) ∧ World.cell? w' ⟨bb, 0, none⟩ = some (.pointer (some ⟨L.P, 0, none⟩)) ∧ World.cell? w' ⟨ib, 0, none⟩ = some (.int .i64 (q : Int)))) (by kernel_rfl) (by rw [← hwD]; exact HS.out _ (Below.refl _ _)) (fun hHeld => ?_)
        rw [← hwD] at hHeld ⊢
        clear hwD
        refine wpAnyH_take (i := 0) (v := ?_) (by rfl) (by kernel_rfl) (by kernel_rfl) (by kernel_rfl) (fun _ _ _ h => h) (Or.inl ⟨by kernel_rfl, ?_⟩) (by assumption) ?_; rotate_left 1; (focus (intro w hSw; (try dsimp only at hSw); simp only [List.getElem_toArray, List.getElem_cons_succ, List.getElem_cons_zero]; all_goals go_simp; all_goals (try with_reducible rfl))); (try simp only [Act.put, List.getElem_toArray, List.getElem_cons_succ, List.getElem_cons_zero, List.setIfInBounds_toArray, List.set_cons_zero, List.set_cons_succ])
        refine wpAnyH_take (i := 1) (v := ?_) (by rfl) (by kernel_rfl) (by kernel_rfl) (by kernel_rfl) (fun _ _ _ h => h) (Or.inl ⟨by kernel_rfl, ?_⟩) (by assumption) ?_; rotate_left 1; (focus (intro w hSw; (try dsimp only at hSw); simp only [List.getElem_toArray, List.getElem_cons_succ, List.getElem_cons_zero]; all_goals go_simp; all_goals (try with_reducible rfl))); (try simp only [Act.put, List.getElem_toArray, List.getElem_cons_succ, List.getElem_cons_zero, List.setIfInBounds_toArray, List.set_cons_zero, List.set_cons_succ])
        refine wpAnyH_take (i := 2) (v := ?_) (by rfl) (by kernel_rfl) (by kernel_rfl) (by kernel_rfl) (fun _ _ _ h => h) (Or.inl ⟨by kernel_rfl, ?_⟩) (by assumption) ?_; rotate_left 1; (focus (intro w hSw; (try dsimp only at hSw); simp only [List.getElem_toArray, List.getElem_cons_succ, List.getElem_cons_zero]; all_goals go_simp; all_goals (try with_reducible rfl))); (try simp only [Act.put, List.getElem_toArray, List.getElem_cons_succ, List.getElem_cons_zero, List.setIfInBounds_toArray, List.set_cons_zero, List.set_cons_succ])
        refine wpAnyH_take (i := 3) (v := ?_) (by rfl) (by kernel_rfl) (by kernel_rfl) (by kernel_rfl) (fun _ _ _ h => h) (Or.inl ⟨by kernel_rfl, ?_⟩) (by assumption) ?_; rotate_left 1; (focus (intro w hSw; (try dsimp only at hSw); simp only [List.getElem_toArray, List.getElem_cons_succ, List.getElem_cons_zero]; all_goals go_simp; all_goals (try with_reducible rfl))); (try simp only [Act.put, List.getElem_toArray, List.getElem_cons_succ, List.getElem_cons_zero, List.setIfInBounds_toArray, List.set_cons_zero, List.set_cons_succ])
        refine wpAnyH_take (i := 4) (v := ?_) (by rfl) (by kernel_rfl) (by kernel_rfl) (by kernel_rfl) (fun _ _ _ h => h) (Or.inl ⟨by kernel_rfl, ?_⟩) (by assumption) ?_; rotate_left 1; (focus (intro w hSw; (try dsimp only at hSw); simp only [List.getElem_toArray, List.getElem_cons_succ, List.getElem_cons_zero]; all_goals go_simp; all_goals (try with_reducible rfl))); (try simp only [Act.put, List.getElem_toArray, List.getElem_cons_succ, List.getElem_cons_zero, List.setIfInBounds_toArray, List.set_cons_zero, List.set_cons_succ])
        refine wpAnyH_take (i := 5) (v := ?_) (by rfl) (by kernel_rfl) (by kernel_rfl) (by kernel_rfl) (fun _ _ _ h => h) (Or.inl ⟨by kernel_rfl, ?_⟩) (by assumption) ?_; rotate_left 1; (focus (intro w hSw; (try dsimp only at hSw); simp only [List.getElem_toArray, List.getElem_cons_succ, List.getElem_cons_zero]; all_goals go_simp; all_goals (try with_reducible rfl))); (try simp only [Act.put, List.getElem_toArray, List.getElem_cons_succ, List.getElem_cons_zero, List.setIfInBounds_toArray, List.set_cons_zero, List.set_cons_succ])
        refine wpAnyH_take (i := 7) (v := ?_) (by rfl) (by kernel_rfl) (by kernel_rfl) (by kernel_rfl) (fun _ _ _ h => h) (Or.inl ⟨by kernel_rfl, ?_⟩) (by assumption) ?_; rotate_left 1; (focus (intro w hSw; (try dsimp only at hSw); simp only [List.getElem_toArray, List.getElem_cons_succ, List.getElem_cons_zero]; all_goals go_simp; all_goals (try with_reducible rfl))); (try simp only [Act.put, List.getElem_toArray, List.getElem_cons_succ, List.getElem_cons_zero, List.setIfInBounds_toArray, List.set_cons_zero, List.set_cons_succ])
        refine wpAnyH_ready (rs := [6]) (by kernel_rfl) (by simp) ?_; refine AllReadyH.cons (by rfl) (fun K hK => ?_) AllReadyH.nil; rw [if_pos (by kernel_rfl)]; simp only [List.getElem_toArray, List.getElem_cons_succ, List.getElem_cons_zero]
        go_wp2_with (first
          | (go_at_call 20; (with_reducible refine (bowner_live 3 i vi 0 0 L.G2 q' i256 hq' HLv _ HWD.out (HTt.out _ HWD.out)).mono ?_); rintro e w3 ⟨rfl, hb⟩; have HB3 := Lib.hid hb; clear hb))
        refine hK.out _ _ (HS.out _ HB3.out) (fun hHeld => ?_)
        clear hK K
        (try simp only [Act.put, List.getElem_toArray, List.getElem_cons_succ, List.getElem_cons_zero, List.setIfInBounds_toArray, List.set_cons_zero, List.set_cons_succ])
        have HO3 := Lib.hid (HOD.out.below HB3.out)
        have HK3 := Lib.hid (HKD.out.below HB3.out)
        have r0 := HK3.out.c0
        have r1 := HK3.out.c1
        have r2 := HK3.out.c2
        have r3 := HK3.out.c3
        have r4 := HK3.out.c4
        have z0 := HO3.out.o0
        have zf := HO3.out.fr
        by_cases heq : (q' : Int) = (q : Int)
        · have te : ((q' : Int) == (q : Int)) = true := by simpa using heq
          have HE := Lib.hid heq
          clear heq
          refine wpAnyH_take (i := 8) (v := ?_) (by rfl) (by kernel_rfl) (by kernel_rfl) (by kernel_rfl) (fun _ _ _ h => h) (Or.inl ⟨by kernel_rfl, ?_⟩) (by assumption) ?_; rotate_left 1; (focus (intro w hSw; (try dsimp only at hSw); simp only [List.getElem_toArray, List.getElem_cons_succ, List.getElem_cons_zero]; all_goals go_simp; all_goals (try with_reducible rfl))); (try simp only [Act.put, List.getElem_toArray, List.getElem_cons_succ, List.getElem_cons_zero, List.setIfInBounds_toArray, List.set_cons_zero, List.set_cons_succ])
          refine wpAnyH_take (i := 9) (v := ?_) (by rfl) (by kernel_rfl) (by kernel_rfl) (by kernel_rfl) (fun _ _ _ h => h) (Or.inl ⟨by kernel_rfl, ?_⟩) (by assumption) ?_; rotate_left 1; (focus (intro w hSw; (try dsimp only at hSw); simp only [List.getElem_toArray, List.getElem_cons_succ, List.getElem_cons_zero]; all_goals go_simp; all_goals (try with_reducible rfl))); (try simp only [Act.put, List.getElem_toArray, List.getElem_cons_succ, List.getElem_cons_zero, List.setIfInBounds_toArray, List.set_cons_zero, List.set_cons_succ])
          refine wpAnyH_done (by kernel_rfl) ?_ _
          refine NoPanic.normal ?_
          clear hHeld
          obtain ⟨va, vc, hva⟩ := own_shape' HO3.out.row
          subst hva
          have HO4 := Lib.hid (fun X => HO3.out.below ((Below.refl _ _).alloc (Nat.le_refl _) _ : Below w3.heap.size w3 (w3.alloc X)))
          go_wp2_with (first
            | (at_builtin; refine wpList_append_own _ rfl _ _ 40 rfl (ob + 1) 38 i0 (.agg #[.int .i64 0, .int .i64 0, .int .i64 0, .int .i64 0, .int .u32 0]) 5 40 Tryd.underlying40 HI.out.1 HI.out.2.1 HI.out.2.2.1 HI.out.2.2.2 rfl (by decide) _ _ _ rfl (HO4.out _).row ⟨w3.heap.size, 0, none⟩ 1 1 [.int .i64 3, .int .i64 (i : Int), .int .i64 vi, .int .i64 0, .int .u32 0] rfl rfl ok5_at (ok5_one _ _ _ _ _) (by unfold maxLen; omega) (by omega) (by have := HO3.out.lt; simp; omega) ?_; intro v' w5 hown hgrow _; obtain ⟨vb, vd, hvb⟩ := own_shape' hown; subst hvb; have HG5 := Lib.hid ((HO4.out _).grown hgrow hown); clear hown hgrow; have y0 := HG5.out.o0; have yf := HG5.out.fr))
          have HS5 := Lib.hid HG5.out.put
          go_roundw
          case rel => exact ⟨i + 1, _, by omega, by go_num, by rw [oks_yes T o q i HT.out (by rw [Ho.out, HE.out]), okc_snoc, ← List.append_assoc, ← hxs.out, List.length_append, ← Nat.add_assoc, ← hm.out, hvi.out]; exact HS5.out⟩
          case measure => simp [intOf]; omega
        · have te : ((q' : Int) == (q : Int)) = false := by simpa using heq
          have HE := Lib.hid heq
          clear heq
          refine wpAnyH_take (i := 8) (v := ?_) (by rfl) (by kernel_rfl) (by kernel_rfl) (by kernel_rfl) (fun _ _ _ h => h) (Or.inl ⟨by kernel_rfl, ?_⟩) (by assumption) ?_; rotate_left 1; (focus (intro w hSw; (try dsimp only at hSw); simp only [List.getElem_toArray, List.getElem_cons_succ, List.getElem_cons_zero]; all_goals go_simp; all_goals (try with_reducible rfl))); (try simp only [Act.put, List.getElem_toArray, List.getElem_cons_succ, List.getElem_cons_zero, List.setIfInBounds_toArray, List.set_cons_zero, List.set_cons_succ])
          refine wpAnyH_take (i := 9) (v := ?_) (by rfl) (by kernel_rfl) (by kernel_rfl) (by kernel_rfl) (fun _ _ _ h => h) (Or.inl ⟨by kernel_rfl, ?_⟩) (by assumption) ?_; rotate_left 1; (focus (intro w hSw; (try dsimp only at hSw); simp only [List.getElem_toArray, List.getElem_cons_succ, List.getElem_cons_zero]; all_goals go_simp; all_goals (try with_reducible rfl))); (try simp only [Act.put, List.getElem_toArray, List.getElem_cons_succ, List.getElem_cons_zero, List.setIfInBounds_toArray, List.set_cons_zero, List.set_cons_succ])
          refine wpAnyH_done (by kernel_rfl) ?_ _
          refine NoPanic.normal ?_
          clear hHeld
          go_wp2_with fail
          go_roundw
          case rel => exact ⟨i + 1, v, by omega, by go_num, by rw [oks_no T o q i (by rw [Ho.out]; exact HE.out), ← hm.out, ← hxs.out]; exact HO3.out⟩
          case measure => simp [intOf]; omega
      · have hT' : T i = false := by simpa using hT
        have HC := Lib.hid (hno.out i hlt hT')
        have HT := Lib.hid hT'
        clear hT hT'
        go_upto_region 4 with (first
          | (go_at_call 40; (with_reducible refine (HC.out _ HW.out trivial).mono ?_); rintro e w1 ⟨rfl, hb⟩; have HB1 := Lib.hid hb; clear hb))
        obtain ⟨kb, hkb⟩ : ∃ kb, kb = w1.heap.size := ⟨_, rfl⟩
        generalize hw2 : World.alloc w1 _ = w2
        have HB2 : Hid (Below w1.heap.size w1 w2) := Lib.hid (by rw [← hw2]; exact (Below.refl _ _).alloc (Nat.le_refl _) _)
        have HK2 : Hid (KeyC w2 kb 0 0 0 0 0) := Lib.hid (by rw [← hw2, hkb]; exact KeyC.new w1 0 0 0 0 0 _)
        rw [← hkb]
        clear hw2 hkb
        obtain ⟨wD, hwD⟩ : ∃ wD, wD = w2.drew := ⟨_, rfl⟩
        have HBD : Hid (Below wr.heap.size wr wD) := Lib.hid (by rw [hwD]; exact (HB1.out.trans (HB2.out.mono HB1.out.size)).drew)
        have HKD : Hid (KeyC wD kb 0 0 0 0 0) := Lib.hid (by rw [hwD]; exact HK2.out.below (Below.refl _ _).drew)
        have HOD := Lib.hid (HO.out.below HBD.out)
        refine wp_region_noPanic ?_
        refine wp_region_held_drew (S := fun w' => World.cell? w' ⟨kb, 0, none⟩ = some (.int .i64 0)) (by kernel_rfl) (by rw [← hwD]; exact HKD.out.c0) (fun hHeld => ?_)
        rw [← hwD] at hHeld ⊢
        clear hwD
        refine wpAnyH_take (i := 0) (v := ?_) (by rfl) (by kernel_rfl) (by kernel_rfl) (by kernel_rfl) (fun _ _ _ h => h) (Or.inl ⟨by kernel_rfl, ?_⟩) (by assumption) ?_; rotate_left 1; (focus (intro w hSw; (try dsimp only at hSw); simp only [List.getElem_toArray, List.getElem_cons_succ, List.getElem_cons_zero]; all_goals go_simp; all_goals (try with_reducible rfl))); (try simp only [Act.put, List.getElem_toArray, List.getElem_cons_succ, List.getElem_cons_zero, List.setIfInBounds_toArray, List.set_cons_zero, List.set_cons_succ])
        refine wpAnyH_take (i := 1) (v := ?_) (by rfl) (by kernel_rfl) (by kernel_rfl) (by kernel_rfl) (fun _ _ _ h => h) (Or.inl ⟨by kernel_rfl, ?_⟩) (by assumption) ?_; rotate_left 1; (focus (intro w hSw; (try dsimp only at hSw); simp only [List.getElem_toArray, List.getElem_cons_succ, List.getElem_cons_zero]; all_goals go_simp; all_goals (try with_reducible rfl))); (try simp only [Act.put, List.getElem_toArray, List.getElem_cons_succ, List.getElem_cons_zero, List.setIfInBounds_toArray, List.set_cons_zero, List.set_cons_succ])
        refine wpAnyH_take (i := 2) (v := ?_) (by rfl) (by kernel_rfl) (by kernel_rfl) (by kernel_rfl) (fun _ _ _ h => h) (Or.inl ⟨by kernel_rfl, ?_⟩) (by assumption) ?_; rotate_left 1; (focus (intro w hSw; (try dsimp only at hSw); simp only [List.getElem_toArray, List.getElem_cons_succ, List.getElem_cons_zero]; all_goals go_simp; all_goals (try with_reducible rfl))); (try simp only [Act.put, List.getElem_toArray, List.getElem_cons_succ, List.getElem_cons_zero, List.setIfInBounds_toArray, List.set_cons_zero, List.set_cons_succ])
        refine wpAnyH_take (i := 3) (v := ?_) (by rfl) (by kernel_rfl) (by kernel_rfl) (by kernel_rfl) (fun _ _ _ h => h) (Or.inl ⟨by kernel_rfl, ?_⟩) (by assumption) ?_; rotate_left 1; (focus (intro w hSw; (try dsimp only at hSw); simp only [List.getElem_toArray, List.getElem_cons_succ, List.getElem_cons_zero]; all_goals go_simp; all_goals (try with_reducible rfl))); (try simp only [Act.put, List.getElem_toArray, List.getElem_cons_succ, List.getElem_cons_zero, List.setIfInBounds_toArray, List.set_cons_zero, List.set_cons_succ])
        refine wpAnyH_take (i := 4) (v := undef) (by rfl) (by kernel_rfl) (by kernel_rfl) (by kernel_rfl) (fun _ _ _ h => h) (Or.inr ⟨by kernel_rfl, rfl⟩) (by assumption) ?_; (try simp only [Act.put, List.getElem_toArray, List.getElem_cons_succ, List.getElem_cons_zero, List.setIfInBounds_toArray, List.set_cons_zero, List.set_cons_succ])
        refine wpAnyH_take (i := 5) (v := undef) (by rfl) (by kernel_rfl) (by kernel_rfl) (by kernel_rfl) (fun _ _ _ h => h) (Or.inr ⟨by kernel_rfl, rfl⟩) (by assumption) ?_; (try simp only [Act.put, List.getElem_toArray, List.getElem_cons_succ, List.getElem_cons_zero, List.setIfInBounds_toArray, List.set_cons_zero, List.set_cons_succ])
        refine wpAnyH_take (i := 6) (v := undef) (by rfl) (by kernel_rfl) (by kernel_rfl) (by kernel_rfl) (fun _ _ _ h => h) (Or.inr ⟨by kernel_rfl, rfl⟩) (by assumption) ?_; (try simp only [Act.put, List.getElem_toArray, List.getElem_cons_succ, List.getElem_cons_zero, List.setIfInBounds_toArray, List.set_cons_zero, List.set_cons_succ])
        refine wpAnyH_take (i := 7) (v := undef) (by rfl) (by kernel_rfl) (by kernel_rfl) (by kernel_rfl) (fun _ _ _ h => h) (Or.inr ⟨by kernel_rfl, rfl⟩) (by assumption) ?_; (try simp only [Act.put, List.getElem_toArray, List.getElem_cons_succ, List.getElem_cons_zero, List.setIfInBounds_toArray, List.set_cons_zero, List.set_cons_succ])
        refine wpAnyH_take (i := 8) (v := undef) (by rfl) (by kernel_rfl) (by kernel_rfl) (by kernel_rfl) (fun _ _ _ h => h) (Or.inr ⟨by kernel_rfl, rfl⟩) (by assumption) ?_; (try simp only [Act.put, List.getElem_toArray, List.getElem_cons_succ, List.getElem_cons_zero, List.setIfInBounds_toArray, List.set_cons_zero, List.set_cons_succ])
        refine wpAnyH_take (i := 9) (v := ?_) (by rfl) (by kernel_rfl) (by kernel_rfl) (by kernel_rfl) (fun _ _ _ h => h) (Or.inl ⟨by kernel_rfl, ?_⟩) (by assumption) ?_; rotate_left 1; (focus (intro w hSw; (try dsimp only at hSw); simp only [List.getElem_toArray, List.getElem_cons_succ, List.getElem_cons_zero]; all_goals go_simp; all_goals (try with_reducible rfl))); (try simp only [Act.put, List.getElem_toArray, List.getElem_cons_succ, List.getElem_cons_zero, List.setIfInBounds_toArray, List.set_cons_zero, List.set_cons_succ])
        refine wpAnyH_done (by kernel_rfl) ?_ _
        refine NoPanic.normal ?_
        clear hHeld
        go_wp2_with fail
        go_roundw
        case rel => exact ⟨i + 1, v, by omega, by go_num, by rw [oks_dead T o q i HT.out, ← hm.out, ← hxs.out]; exact HOD.out⟩
        case measure => simp [intOf]; omega
    · obtain ⟨rfl⟩ : i = n := (by omega)
      go_wp2_with fail
      go_end0
      exact ⟨rfl, v, by rw [← hm.out, ← hxs.out]; exact HO.out⟩

set_option maxRecDepth 100000 in
set_option maxHeartbeats 2000000 in
theorem badd_node {w0 : World} {L : BLoc} {D : BSt} (M : World) (bb ib ob q n m0 : Nat) (xs0 : List Value) (o vv : Nat → Int) (T : Nat → Bool) (V : Nat → Int) (hn : n ≤ 256) (hm0 : m0 ≤ 1000)
    (hlive : Hid (∀ i, i < n → T i = true → liveK L D 2 (i : Int) (V i) = true))
    (htit : Hid (∀ W, BW w0 W L D → ∀ i, i < n → TiAt W L 2 L.G1 i (o i) (vv i)))
    (how : Hid (∀ i, i < n → T i = true → ∃ q' : Nat, q' < D.nb ∧ o i = (q' : Int) ∧ vv i = V i))
    (hyes : Hid (∀ i, i < n → T i = true → ∀ W, BW w0 W L D → (W.cell? ⟨bb, 0, none⟩ = some (.pointer (some ⟨L.P, 0, none⟩)) ∧ bb < W.heap.size) → Calls Tryd.prog 38 #[.int .i64 (i : Int), .pointer (some ⟨bb, 0, none⟩)] W fun e w' => e = .returned (.agg #[.int .i64 2, .int .i64 (i : Int), .int .i64 (V i), .int .i64 0, .int .u32 0]) ∧ Below W.heap.size W w'))
    (hno : Hid (∀ i, i < n → T i = false → ∀ W, BW w0 W L D → (W.cell? ⟨bb, 0, none⟩ = some (.pointer (some ⟨L.P, 0, none⟩)) ∧ bb < W.heap.size) → Calls Tryd.prog 38 #[.int .i64 (i : Int), .pointer (some ⟨bb, 0, none⟩)] W fun e w' => e = .returned (Value.agg #[.int .i64 0, .int .i64 0, .int .i64 0, .int .i64 0, .int .u32 0]) ∧ Below W.heap.size W w'))
    (hM : BW w0 M L D) (w : World) (v0 : Value) (h : OwS M w L.P bb ib ob q v0 m0 xs0) :
    Calls Tryd.prog 36 #[.int .i64 (n : Int), .func (.func 38) #[] #[.pointer (some ⟨bb, 0, none⟩)], .pointer (some ⟨bb, 0, none⟩), .pointer (some ⟨ib, 0, none⟩), .pointer (some ⟨ob, 0, none⟩)] w fun e w' => e = .returned (.tuple #[]) ∧ ∃ v, OwS M w' L.P bb ib ob q v (m0 + (oks T o q n).length) (xs0 ++ okc 2 V (oks T o q n)) := by
  have H := Lib.hid h
  have HM := Lib.hid hM
  obtain ⟨i0, hi, hz0, hz1, hz2⟩ := info_parts infoKeyO
  have HI := Lib.hid (⟨hi, hz0, hz1, hz2⟩ : Tryd.prog.info? 38 = some i0 ∧ i0.zero = some (.agg #[.int .i64 0, .int .i64 0, .int .i64 0, .int .i64 0, .int .u32 0]) ∧ i0.size = 5 ∧ i0.bytes = 40)
  clear h hM hi hz0 hz1 hz2
  go_enter Tryd.func36, Tryd.ntmps36
  go_wp2_with fail
  go_loopw [10] (fun x wr => ∃ (i : Nat) (v : Value), i ≤ n ∧ x = .int .i64 (i : Int) ∧ OwS M wr L.P bb ib ob q v (m0 + (oks T o q i).length) (xs0 ++ okc 2 V (oks T o q i))) (fun x _ => n - (intOf x).toNat)
  case atStart => exact ⟨0, v0, Nat.zero_le _, rfl, by simpa [oks_zero, okc] using H.out⟩
  case round =>
    obtain ⟨i, v, hin, rfl, hO⟩ := hrel
    have HO := Lib.hid hO
    have HW := Lib.hid (HM.out.below hO.bel)
    clear hO
    have g0 : (0 : Int) ≤ i := by omega
    have hle := oks_len T o q i
    obtain ⟨m, hm⟩ : ∃ m, Hid (m = m0 + (oks T o q i).length) := ⟨_, Lib.hid rfl⟩
    obtain ⟨xs, hxs⟩ : ∃ xs, Hid (xs = xs0 ++ okc 2 V (oks T o q i)) := ⟨_, Lib.hid rfl⟩
    rw [← hm.out, ← hxs.out] at HO
    have hmb : m ≤ 1256 := by have := hm.out; omega
    clear hle
    by_cases hlt : i < n
    · by_cases hT : T i = true
      · obtain ⟨q', hq', ho', hv'⟩ := how.out i hlt hT
        have HLv := Lib.hid (hlive.out i hlt hT)
        have HC := Lib.hid (hyes.out i hlt hT)
        obtain ⟨vi, hvi⟩ : ∃ vi, Hid (V i = vi) := ⟨_, Lib.hid rfl⟩
        have HTt := Lib.hid (fun W hW => by have := htit.out W hW i hlt; rw [ho', hv', hvi.out] at this; exact this)
        rw [hvi.out] at HLv HC
        have HT := Lib.hid hT
        have Ho := Lib.hid ho'
        have i256 : i < 256 := by omega
        clear hT ho' hv'
        go_upto_region 4 with (first
          | (go_at_call 38; (with_reducible refine (HC.out _ HW.out ⟨HO.out.b0, Nat.lt_trans HO.out.nb.2.2.2.1 HO.out.lt⟩).mono ?_); rintro e w1 ⟨rfl, hb⟩; have HB1 := Lib.hid hb; clear hb))
        obtain ⟨kb, hkb⟩ : ∃ kb, kb = w1.heap.size := ⟨_, rfl⟩
        generalize hw2 : World.alloc w1 _ = w2
        have HB2 : Hid (Below w1.heap.size w1 w2) := Lib.hid (by rw [← hw2]; exact (Below.refl _ _).alloc (Nat.le_refl _) _)
        have HK2 : Hid (KeyC w2 kb 2 (i : Int) vi 0 0) := Lib.hid (by rw [← hw2, hkb]; exact KeyC.new w1 2 (i : Int) vi 0 0 _)
        rw [← hkb]
        clear hw2 hkb
        obtain ⟨wD, hwD⟩ : ∃ wD, wD = w2.drew := ⟨_, rfl⟩
        have HBD : Hid (Below wr.heap.size wr wD) := Lib.hid (by rw [hwD]; exact (HB1.out.trans (HB2.out.mono HB1.out.size)).drew)
        have HKD : Hid (KeyC wD kb 2 (i : Int) vi 0 0) := Lib.hid (by rw [hwD]; exact HK2.out.below (Below.refl _ _).drew)
        have HOD := Lib.hid (HO.out.below HBD.out)
        have HWD := Lib.hid (HW.out.below HBD.out)
        have HS : Hid (∀ W, Below wD.heap.size wD W → ((World.cell? W ⟨kb, 0, none⟩ = some (.int .i64 2) ∧ World.cell? W ⟨kb, 1, none⟩ = some (.int .i64 (i : Int)) ∧ World.cell? W ⟨kb, 2, none⟩ = some (.int .i64 vi) ∧ World.cell? W ⟨kb, 3, none⟩ = some (.int .i64 0) ∧ World.cell? W ⟨kb, 4, none⟩ = some (.int .u32 0)) ∧ World.cell? W ⟨bb, 0, none⟩ = some (.pointer (some ⟨L.P, 0, none⟩)) ∧ World.cell? W ⟨ib, 0, none⟩ = some (.int .i64 (q : Int)))) := Lib.hid (fun W hb => ⟨(HKD.out.below hb).k5, (HOD.out.below hb).b0, (HOD.out.below hb).i0⟩)
        refine wp_region_noPanic ?_
        refine wp_region_held_drew (S := fun w' => ((World.cell? w' ⟨kb, 0, none⟩ = some (.int .i64 2) ∧ World.cell? w' ⟨kb, 1, none⟩ = some (.int .i64 (i : Int)) ∧ World.cell? w' ⟨kb, 2, none⟩ = some (.int .i64 vi) ∧ World.cell? w' ⟨kb, 3, none⟩ = some (.int .i64 0) ∧ World.cell? w' ⟨kb, 4, none⟩ = some (.int .u32 0)) ∧ World.cell? w' ⟨bb, 0, none⟩ = some (.pointer (some ⟨L.P, 0, none⟩)) ∧ World.cell? w' ⟨ib, 0, none⟩ = some (.int .i64 (q : Int)))) (by kernel_rfl) (by rw [← hwD]; exact HS.out _ (Below.refl _ _)) (fun hHeld => ?_)
        rw [← hwD] at hHeld ⊢
        clear hwD
        refine wpAnyH_take (i := 0) (v := ?_) (by rfl) (by kernel_rfl) (by kernel_rfl) (by kernel_rfl) (fun _ _ _ h => h) (Or.inl ⟨by kernel_rfl, ?_⟩) (by assumption) ?_; rotate_left 1; (focus (intro w hSw; (try dsimp only at hSw); simp only [List.getElem_toArray, List.getElem_cons_succ, List.getElem_cons_zero]; all_goals go_simp; all_goals (try with_reducible rfl))); (try simp only [Act.put, List.getElem_toArray, List.getElem_cons_succ, List.getElem_cons_zero, List.setIfInBounds_toArray, List.set_cons_zero, List.set_cons_succ])
        refine wpAnyH_take (i := 1) (v := ?_) (by rfl) (by kernel_rfl) (by kernel_rfl) (by kernel_rfl) (fun _ _ _ h => h) (Or.inl ⟨by kernel_rfl, ?_⟩) (by assumption) ?_; rotate_left 1; (focus (intro w hSw; (try dsimp only at hSw); simp only [List.getElem_toArray, List.getElem_cons_succ, List.getElem_cons_zero]; all_goals go_simp; all_goals (try with_reducible rfl))); (try simp only [Act.put, List.getElem_toArray, List.getElem_cons_succ, List.getElem_cons_zero, List.setIfInBounds_toArray, List.set_cons_zero, List.set_cons_succ])
        refine wpAnyH_take (i := 2) (v := ?_) (by rfl) (by kernel_rfl) (by kernel_rfl) (by kernel_rfl) (fun _ _ _ h => h) (Or.inl ⟨by kernel_rfl, ?_⟩) (by assumption) ?_; rotate_left 1; (focus (intro w hSw; (try dsimp only at hSw); simp only [List.getElem_toArray, List.getElem_cons_succ, List.getElem_cons_zero]; all_goals go_simp; all_goals (try with_reducible rfl))); (try simp only [Act.put, List.getElem_toArray, List.getElem_cons_succ, List.getElem_cons_zero, List.setIfInBounds_toArray, List.set_cons_zero, List.set_cons_succ])
        refine wpAnyH_take (i := 3) (v := ?_) (by rfl) (by kernel_rfl) (by kernel_rfl) (by kernel_rfl) (fun _ _ _ h => h) (Or.inl ⟨by kernel_rfl, ?_⟩) (by assumption) ?_; rotate_left 1; (focus (intro w hSw; (try dsimp only at hSw); simp only [List.getElem_toArray, List.getElem_cons_succ, List.getElem_cons_zero]; all_goals go_simp; all_goals (try with_reducible rfl))); (try simp only [Act.put, List.getElem_toArray, List.getElem_cons_succ, List.getElem_cons_zero, List.setIfInBounds_toArray, List.set_cons_zero, List.set_cons_succ])
        refine wpAnyH_take (i := 4) (v := ?_) (by rfl) (by kernel_rfl) (by kernel_rfl) (by kernel_rfl) (fun _ _ _ h => h) (Or.inl ⟨by kernel_rfl, ?_⟩) (by assumption) ?_; rotate_left 1; (focus (intro w hSw; (try dsimp only at hSw); simp only [List.getElem_toArray, List.getElem_cons_succ, List.getElem_cons_zero]; all_goals go_simp; all_goals (try with_reducible rfl))); (try simp only [Act.put, List.getElem_toArray, List.getElem_cons_succ, List.getElem_cons_zero, List.setIfInBounds_toArray, List.set_cons_zero, List.set_cons_succ])
        refine wpAnyH_take (i := 5) (v := ?_) (by rfl) (by kernel_rfl) (by kernel_rfl) (by kernel_rfl) (fun _ _ _ h => h) (Or.inl ⟨by kernel_rfl, ?_⟩) (by assumption) ?_; rotate_left 1; (focus (intro w hSw; (try dsimp only at hSw); simp only [List.getElem_toArray, List.getElem_cons_succ, List.getElem_cons_zero]; all_goals go_simp; all_goals (try with_reducible rfl))); (try simp only [Act.put, List.getElem_toArray, List.getElem_cons_succ, List.getElem_cons_zero, List.setIfInBounds_toArray, List.set_cons_zero, List.set_cons_succ])
        refine wpAnyH_take (i := 7) (v := ?_) (by rfl) (by kernel_rfl) (by kernel_rfl) (by kernel_rfl) (fun _ _ _ h => h) (Or.inl ⟨by kernel_rfl, ?_⟩) (by assumption) ?_; rotate_left 1; (focus (intro w hSw; (try dsimp only at hSw); simp only [List.getElem_toArray, List.getElem_cons_succ, List.getElem_cons_zero]; all_goals go_simp; all_goals (try with_reducible rfl))); (try simp only [Act.put, List.getElem_toArray, List.getElem_cons_succ, List.getElem_cons_zero, List.setIfInBounds_toArray, List.set_cons_zero, List.set_cons_succ])
        refine wpAnyH_ready (rs := [6]) (by kernel_rfl) (by simp) ?_; refine AllReadyH.cons (by rfl) (fun K hK => ?_) AllReadyH.nil; rw [if_pos (by kernel_rfl)]; simp only [List.getElem_toArray, List.getElem_cons_succ, List.getElem_cons_zero]
        go_wp2_with (first
          | (go_at_call 20; (with_reducible refine (bowner_live 2 i vi 0 0 L.G1 q' i256 hq' HLv _ HWD.out (HTt.out _ HWD.out)).mono ?_); rintro e w3 ⟨rfl, hb⟩; have HB3 := Lib.hid hb; clear hb))
        refine hK.out _ _ (HS.out _ HB3.out) (fun hHeld => ?_)
        clear hK K
        (try simp only [Act.put, List.getElem_toArray, List.getElem_cons_succ, List.getElem_cons_zero, List.setIfInBounds_toArray, List.set_cons_zero, List.set_cons_succ])
        have HO3 := Lib.hid (HOD.out.below HB3.out)
        have HK3 := Lib.hid (HKD.out.below HB3.out)
        have r0 := HK3.out.c0
        have r1 := HK3.out.c1
        have r2 := HK3.out.c2
        have r3 := HK3.out.c3
        have r4 := HK3.out.c4
        have z0 := HO3.out.o0
        have zf := HO3.out.fr
        by_cases heq : (q' : Int) = (q : Int)
        · have te : ((q' : Int) == (q : Int)) = true := by simpa using heq
          have HE := Lib.hid heq
          clear heq
          refine wpAnyH_take (i := 8) (v := ?_) (by rfl) (by kernel_rfl) (by kernel_rfl) (by kernel_rfl) (fun _ _ _ h => h) (Or.inl ⟨by kernel_rfl, ?_⟩) (by assumption) ?_; rotate_left 1; (focus (intro w hSw; (try dsimp only at hSw); simp only [List.getElem_toArray, List.getElem_cons_succ, List.getElem_cons_zero]; all_goals go_simp; all_goals (try with_reducible rfl))); (try simp only [Act.put, List.getElem_toArray, List.getElem_cons_succ, List.getElem_cons_zero, List.setIfInBounds_toArray, List.set_cons_zero, List.set_cons_succ])
          refine wpAnyH_take (i := 9) (v := ?_) (by rfl) (by kernel_rfl) (by kernel_rfl) (by kernel_rfl) (fun _ _ _ h => h) (Or.inl ⟨by kernel_rfl, ?_⟩) (by assumption) ?_; rotate_left 1; (focus (intro w hSw; (try dsimp only at hSw); simp only [List.getElem_toArray, List.getElem_cons_succ, List.getElem_cons_zero]; all_goals go_simp; all_goals (try with_reducible rfl))); (try simp only [Act.put, List.getElem_toArray, List.getElem_cons_succ, List.getElem_cons_zero, List.setIfInBounds_toArray, List.set_cons_zero, List.set_cons_succ])
          refine wpAnyH_done (by kernel_rfl) ?_ _
          refine NoPanic.normal ?_
          clear hHeld
          obtain ⟨va, vc, hva⟩ := own_shape' HO3.out.row
          subst hva
          have HO4 := Lib.hid (fun X => HO3.out.below ((Below.refl _ _).alloc (Nat.le_refl _) _ : Below w3.heap.size w3 (w3.alloc X)))
          go_wp2_with (first
            | (at_builtin; refine wpList_append_own _ rfl _ _ 40 rfl (ob + 1) 38 i0 (.agg #[.int .i64 0, .int .i64 0, .int .i64 0, .int .i64 0, .int .u32 0]) 5 40 Tryd.underlying40 HI.out.1 HI.out.2.1 HI.out.2.2.1 HI.out.2.2.2 rfl (by decide) _ _ _ rfl (HO4.out _).row ⟨w3.heap.size, 0, none⟩ 1 1 [.int .i64 2, .int .i64 (i : Int), .int .i64 vi, .int .i64 0, .int .u32 0] rfl rfl ok5_at (ok5_one _ _ _ _ _) (by unfold maxLen; omega) (by omega) (by have := HO3.out.lt; simp; omega) ?_; intro v' w5 hown hgrow _; obtain ⟨vb, vd, hvb⟩ := own_shape' hown; subst hvb; have HG5 := Lib.hid ((HO4.out _).grown hgrow hown); clear hown hgrow; have y0 := HG5.out.o0; have yf := HG5.out.fr))
          have HS5 := Lib.hid HG5.out.put
          go_roundw
          case rel => exact ⟨i + 1, _, by omega, by go_num, by rw [oks_yes T o q i HT.out (by rw [Ho.out, HE.out]), okc_snoc, ← List.append_assoc, ← hxs.out, List.length_append, ← Nat.add_assoc, ← hm.out, hvi.out]; exact HS5.out⟩
          case measure => simp [intOf]; omega
        · have te : ((q' : Int) == (q : Int)) = false := by simpa using heq
          have HE := Lib.hid heq
          clear heq
          refine wpAnyH_take (i := 8) (v := ?_) (by rfl) (by kernel_rfl) (by kernel_rfl) (by kernel_rfl) (fun _ _ _ h => h) (Or.inl ⟨by kernel_rfl, ?_⟩) (by assumption) ?_; rotate_left 1; (focus (intro w hSw; (try dsimp only at hSw); simp only [List.getElem_toArray, List.getElem_cons_succ, List.getElem_cons_zero]; all_goals go_simp; all_goals (try with_reducible rfl))); (try simp only [Act.put, List.getElem_toArray, List.getElem_cons_succ, List.getElem_cons_zero, List.setIfInBounds_toArray, List.set_cons_zero, List.set_cons_succ])
          refine wpAnyH_take (i := 9) (v := ?_) (by rfl) (by kernel_rfl) (by kernel_rfl) (by kernel_rfl) (fun _ _ _ h => h) (Or.inl ⟨by kernel_rfl, ?_⟩) (by assumption) ?_; rotate_left 1; (focus (intro w hSw; (try dsimp only at hSw); simp only [List.getElem_toArray, List.getElem_cons_succ, List.getElem_cons_zero]; all_goals go_simp; all_goals (try with_reducible rfl))); (try simp only [Act.put, List.getElem_toArray, List.getElem_cons_succ, List.getElem_cons_zero, List.setIfInBounds_toArray, List.set_cons_zero, List.set_cons_succ])
          refine wpAnyH_done (by kernel_rfl) ?_ _
          refine NoPanic.normal ?_
          clear hHeld
          go_wp2_with fail
          go_roundw
          case rel => exact ⟨i + 1, v, by omega, by go_num, by rw [oks_no T o q i (by rw [Ho.out]; exact HE.out), ← hm.out, ← hxs.out]; exact HO3.out⟩
          case measure => simp [intOf]; omega
      · have hT' : T i = false := by simpa using hT
        have HC := Lib.hid (hno.out i hlt hT')
        have HT := Lib.hid hT'
        clear hT hT'
        go_upto_region 4 with (first
          | (go_at_call 38; (with_reducible refine (HC.out _ HW.out ⟨HO.out.b0, Nat.lt_trans HO.out.nb.2.2.2.1 HO.out.lt⟩).mono ?_); rintro e w1 ⟨rfl, hb⟩; have HB1 := Lib.hid hb; clear hb))
        obtain ⟨kb, hkb⟩ : ∃ kb, kb = w1.heap.size := ⟨_, rfl⟩
        generalize hw2 : World.alloc w1 _ = w2
        have HB2 : Hid (Below w1.heap.size w1 w2) := Lib.hid (by rw [← hw2]; exact (Below.refl _ _).alloc (Nat.le_refl _) _)
        have HK2 : Hid (KeyC w2 kb 0 0 0 0 0) := Lib.hid (by rw [← hw2, hkb]; exact KeyC.new w1 0 0 0 0 0 _)
        rw [← hkb]
        clear hw2 hkb
        obtain ⟨wD, hwD⟩ : ∃ wD, wD = w2.drew := ⟨_, rfl⟩
        have HBD : Hid (Below wr.heap.size wr wD) := Lib.hid (by rw [hwD]; exact (HB1.out.trans (HB2.out.mono HB1.out.size)).drew)
        have HKD : Hid (KeyC wD kb 0 0 0 0 0) := Lib.hid (by rw [hwD]; exact HK2.out.below (Below.refl _ _).drew)
        have HOD := Lib.hid (HO.out.below HBD.out)
        refine wp_region_noPanic ?_
        refine wp_region_held_drew (S := fun w' => World.cell? w' ⟨kb, 0, none⟩ = some (.int .i64 0)) (by kernel_rfl) (by rw [← hwD]; exact HKD.out.c0) (fun hHeld => ?_)
        rw [← hwD] at hHeld ⊢
        clear hwD
        refine wpAnyH_take (i := 0) (v := ?_) (by rfl) (by kernel_rfl) (by kernel_rfl) (by kernel_rfl) (fun _ _ _ h => h) (Or.inl ⟨by kernel_rfl, ?_⟩) (by assumption) ?_; rotate_left 1; (focus (intro w hSw; (try dsimp only at hSw); simp only [List.getElem_toArray, List.getElem_cons_succ, List.getElem_cons_zero]; all_goals go_simp; all_goals (try with_reducible rfl))); (try simp only [Act.put, List.getElem_toArray, List.getElem_cons_succ, List.getElem_cons_zero, List.setIfInBounds_toArray, List.set_cons_zero, List.set_cons_succ])
        refine wpAnyH_take (i := 1) (v := ?_) (by rfl) (by kernel_rfl) (by kernel_rfl) (by kernel_rfl) (fun _ _ _ h => h) (Or.inl ⟨by kernel_rfl, ?_⟩) (by assumption) ?_; rotate_left 1; (focus (intro w hSw; (try dsimp only at hSw); simp only [List.getElem_toArray, List.getElem_cons_succ, List.getElem_cons_zero]; all_goals go_simp; all_goals (try with_reducible rfl))); (try simp only [Act.put, List.getElem_toArray, List.getElem_cons_succ, List.getElem_cons_zero, List.setIfInBounds_toArray, List.set_cons_zero, List.set_cons_succ])
        refine wpAnyH_take (i := 2) (v := ?_) (by rfl) (by kernel_rfl) (by kernel_rfl) (by kernel_rfl) (fun _ _ _ h => h) (Or.inl ⟨by kernel_rfl, ?_⟩) (by assumption) ?_; rotate_left 1; (focus (intro w hSw; (try dsimp only at hSw); simp only [List.getElem_toArray, List.getElem_cons_succ, List.getElem_cons_zero]; all_goals go_simp; all_goals (try with_reducible rfl))); (try simp only [Act.put, List.getElem_toArray, List.getElem_cons_succ, List.getElem_cons_zero, List.setIfInBounds_toArray, List.set_cons_zero, List.set_cons_succ])
        refine wpAnyH_take (i := 3) (v := ?_) (by rfl) (by kernel_rfl) (by kernel_rfl) (by kernel_rfl) (fun _ _ _ h => h) (Or.inl ⟨by kernel_rfl, ?_⟩) (by assumption) ?_; rotate_left 1; (focus (intro w hSw; (try dsimp only at hSw); simp only [List.getElem_toArray, List.getElem_cons_succ, List.getElem_cons_zero]; all_goals go_simp; all_goals (try with_reducible rfl))); (try simp only [Act.put, List.getElem_toArray, List.getElem_cons_succ, List.getElem_cons_zero, List.setIfInBounds_toArray, List.set_cons_zero, List.set_cons_succ])
        refine wpAnyH_take (i := 4) (v := undef) (by rfl) (by kernel_rfl) (by kernel_rfl) (by kernel_rfl) (fun _ _ _ h => h) (Or.inr ⟨by kernel_rfl, rfl⟩) (by assumption) ?_; (try simp only [Act.put, List.getElem_toArray, List.getElem_cons_succ, List.getElem_cons_zero, List.setIfInBounds_toArray, List.set_cons_zero, List.set_cons_succ])
        refine wpAnyH_take (i := 5) (v := undef) (by rfl) (by kernel_rfl) (by kernel_rfl) (by kernel_rfl) (fun _ _ _ h => h) (Or.inr ⟨by kernel_rfl, rfl⟩) (by assumption) ?_; (try simp only [Act.put, List.getElem_toArray, List.getElem_cons_succ, List.getElem_cons_zero, List.setIfInBounds_toArray, List.set_cons_zero, List.set_cons_succ])
        refine wpAnyH_take (i := 6) (v := undef) (by rfl) (by kernel_rfl) (by kernel_rfl) (by kernel_rfl) (fun _ _ _ h => h) (Or.inr ⟨by kernel_rfl, rfl⟩) (by assumption) ?_; (try simp only [Act.put, List.getElem_toArray, List.getElem_cons_succ, List.getElem_cons_zero, List.setIfInBounds_toArray, List.set_cons_zero, List.set_cons_succ])
        refine wpAnyH_take (i := 7) (v := undef) (by rfl) (by kernel_rfl) (by kernel_rfl) (by kernel_rfl) (fun _ _ _ h => h) (Or.inr ⟨by kernel_rfl, rfl⟩) (by assumption) ?_; (try simp only [Act.put, List.getElem_toArray, List.getElem_cons_succ, List.getElem_cons_zero, List.setIfInBounds_toArray, List.set_cons_zero, List.set_cons_succ])
        refine wpAnyH_take (i := 8) (v := undef) (by rfl) (by kernel_rfl) (by kernel_rfl) (by kernel_rfl) (fun _ _ _ h => h) (Or.inr ⟨by kernel_rfl, rfl⟩) (by assumption) ?_; (try simp only [Act.put, List.getElem_toArray, List.getElem_cons_succ, List.getElem_cons_zero, List.setIfInBounds_toArray, List.set_cons_zero, List.set_cons_succ])
        refine wpAnyH_take (i := 9) (v := ?_) (by rfl) (by kernel_rfl) (by kernel_rfl) (by kernel_rfl) (fun _ _ _ h => h) (Or.inl ⟨by kernel_rfl, ?_⟩) (by assumption) ?_; rotate_left 1; (focus (intro w hSw; (try dsimp only at hSw); simp only [List.getElem_toArray, List.getElem_cons_succ, List.getElem_cons_zero]; all_goals go_simp; all_goals (try with_reducible rfl))); (try simp only [Act.put, List.getElem_toArray, List.getElem_cons_succ, List.getElem_cons_zero, List.setIfInBounds_toArray, List.set_cons_zero, List.set_cons_succ])
        refine wpAnyH_done (by kernel_rfl) ?_ _
        refine NoPanic.normal ?_
        clear hHeld
        go_wp2_with fail
        go_roundw
        case rel => exact ⟨i + 1, v, by omega, by go_num, by rw [oks_dead T o q i HT.out, ← hm.out, ← hxs.out]; exact HOD.out⟩
        case measure => simp [intOf]; omega
    · obtain ⟨rfl⟩ : i = n := (by omega)
      go_wp2_with fail
      go_end0
      exact ⟨rfl, v, by rw [← hm.out, ← hxs.out]; exact HO.out⟩

set_option maxRecDepth 100000 in
set_option maxHeartbeats 2000000 in
theorem badd_dom {w0 : World} {L : BLoc} {D : BSt} (M : World) (bb ib ob q n m0 : Nat) (xs0 : List Value) (o vv : Nat → Int) (T : Nat → Bool) (V : Nat → Int) (hn : n ≤ 256) (hm0 : m0 ≤ 1000)
    (hlive : Hid (∀ i, i < n → T i = true → liveK L D 4 (i : Int) (V i) = true))
    (htit : Hid (∀ W, BW w0 W L D → ∀ i, i < n → TiAt W L 4 L.G3 i (o i) (vv i)))
    (how : Hid (∀ i, i < n → T i = true → ∃ q' : Nat, q' < D.nb ∧ o i = (q' : Int) ∧ vv i = V i))
    (hyes : Hid (∀ i, i < n → T i = true → ∀ W, BW w0 W L D → True → Calls Tryd.prog 41 #[.pointer (some ⟨L.dP, 0, none⟩), .int .i64 (i : Int)] W fun e w' => e = .returned (.agg #[.int .i64 4, .int .i64 (i : Int), .int .i64 (V i), .int .i64 0, .int .u32 0]) ∧ Below W.heap.size W w'))
    (hno : Hid (∀ i, i < n → T i = false → ∀ W, BW w0 W L D → True → Calls Tryd.prog 41 #[.pointer (some ⟨L.dP, 0, none⟩), .int .i64 (i : Int)] W fun e w' => e = .returned (Value.agg #[.int .i64 0, .int .i64 0, .int .i64 0, .int .i64 0, .int .u32 0]) ∧ Below W.heap.size W w'))
    (hM : BW w0 M L D) (w : World) (v0 : Value) (h : OwS M w L.P bb ib ob q v0 m0 xs0) :
    Calls Tryd.prog 36 #[.int .i64 (n : Int), .func (.func 41) #[.pointer (some ⟨L.dP, 0, none⟩)] #[], .pointer (some ⟨bb, 0, none⟩), .pointer (some ⟨ib, 0, none⟩), .pointer (some ⟨ob, 0, none⟩)] w fun e w' => e = .returned (.tuple #[]) ∧ ∃ v, OwS M w' L.P bb ib ob q v (m0 + (oks T o q n).length) (xs0 ++ okc 4 V (oks T o q n)) := by
  have H := Lib.hid h
  have HM := Lib.hid hM
  obtain ⟨i0, hi, hz0, hz1, hz2⟩ := info_parts infoKeyO
  have HI := Lib.hid (⟨hi, hz0, hz1, hz2⟩ : Tryd.prog.info? 38 = some i0 ∧ i0.zero = some (.agg #[.int .i64 0, .int .i64 0, .int .i64 0, .int .i64 0, .int .u32 0]) ∧ i0.size = 5 ∧ i0.bytes = 40)
  clear h hM hi hz0 hz1 hz2
  go_enter Tryd.func36, Tryd.ntmps36
  go_wp2_with fail
  go_loopw [10] (fun x wr => ∃ (i : Nat) (v : Value), i ≤ n ∧ x = .int .i64 (i : Int) ∧ OwS M wr L.P bb ib ob q v (m0 + (oks T o q i).length) (xs0 ++ okc 4 V (oks T o q i))) (fun x _ => n - (intOf x).toNat)
  case atStart => exact ⟨0, v0, Nat.zero_le _, rfl, by simpa [oks_zero, okc] using H.out⟩
  case round =>
    obtain ⟨i, v, hin, rfl, hO⟩ := hrel
    have HO := Lib.hid hO
    have HW := Lib.hid (HM.out.below hO.bel)
    clear hO
    have g0 : (0 : Int) ≤ i := by omega
    have hle := oks_len T o q i
    obtain ⟨m, hm⟩ : ∃ m, Hid (m = m0 + (oks T o q i).length) := ⟨_, Lib.hid rfl⟩
    obtain ⟨xs, hxs⟩ : ∃ xs, Hid (xs = xs0 ++ okc 4 V (oks T o q i)) := ⟨_, Lib.hid rfl⟩
    rw [← hm.out, ← hxs.out] at HO
    have hmb : m ≤ 1256 := by have := hm.out; omega
    clear hle
    by_cases hlt : i < n
    · by_cases hT : T i = true
      · obtain ⟨q', hq', ho', hv'⟩ := how.out i hlt hT
        have HLv := Lib.hid (hlive.out i hlt hT)
        have HC := Lib.hid (hyes.out i hlt hT)
        obtain ⟨vi, hvi⟩ : ∃ vi, Hid (V i = vi) := ⟨_, Lib.hid rfl⟩
        have HTt := Lib.hid (fun W hW => by have := htit.out W hW i hlt; rw [ho', hv', hvi.out] at this; exact this)
        rw [hvi.out] at HLv HC
        have HT := Lib.hid hT
        have Ho := Lib.hid ho'
        have i256 : i < 256 := by omega
        clear hT ho' hv'
        go_upto_region 4 with (first
          | (go_at_call 41; (with_reducible refine (HC.out _ HW.out trivial).mono ?_); rintro e w1 ⟨rfl, hb⟩; have HB1 := Lib.hid hb; clear hb))
        obtain ⟨kb, hkb⟩ : ∃ kb, kb = w1.heap.size := ⟨_, rfl⟩
        generalize hw2 : World.alloc w1 _ = w2
        have HB2 : Hid (Below w1.heap.size w1 w2) := Lib.hid (by rw [← hw2]; exact (Below.refl _ _).alloc (Nat.le_refl _) _)
        have HK2 : Hid (KeyC w2 kb 4 (i : Int) vi 0 0) := Lib.hid (by rw [← hw2, hkb]; exact KeyC.new w1 4 (i : Int) vi 0 0 _)
        rw [← hkb]
        clear hw2 hkb
        obtain ⟨wD, hwD⟩ : ∃ wD, wD = w2.drew := ⟨_, rfl⟩
        have HBD : Hid (Below wr.heap.size wr wD) := Lib.hid (by rw [hwD]; exact (HB1.out.trans (HB2.out.mono HB1.out.size)).drew)
        have HKD : Hid (KeyC wD kb 4 (i : Int) vi 0 0) := Lib.hid (by rw [hwD]; exact HK2.out.below (Below.refl _ _).drew)
        have HOD := Lib.hid (HO.out.below HBD.out)
        have HWD := Lib.hid (HW.out.below HBD.out)
        have HS : Hid (∀ W, Below wD.heap.size wD W → ((World.cell? W ⟨kb, 0, none⟩ = some (.int .i64 4) ∧ World.cell? W ⟨kb, 1, none⟩ = some (.int .i64 (i : Int)) ∧ World.cell? W ⟨kb, 2, none⟩ = some (.int .i64 vi) ∧ World.cell? W ⟨kb, 3, none⟩ = some (.int .i64 0) ∧ World.cell? W ⟨kb, 4, none⟩ = some (.int .u32 0)) ∧ World.cell? W ⟨bb, 0, none⟩ = some (.pointer (some ⟨L.P, 0, none⟩)) ∧ World.cell? W ⟨ib, 0, none⟩ = some (.int .i64 (q : Int)))) := Lib.hid (fun W hb => ⟨(HKD.out.below hb).k5, (HOD.out.below hb).b0, (HOD.out.below hb).i0⟩)
        refine wp_region_noPanic ?_
        refine wp_region_held_drew (S := fun w' => ((World.cell? w' ⟨kb, 0, none⟩ = some (.int .i64 4) ∧ World.cell? w' ⟨kb, 1, none⟩ = some (.int .i64 (i : Int)) ∧ World.cell? w' ⟨kb, 2, none⟩ = some (.int .i64 vi) ∧ World.cell? w' ⟨kb, 3, none⟩ = some (.int .i64 0) ∧ World.cell? w' ⟨kb, 4, none⟩ = some (.int .u32 0)) ∧ World.cell? w' ⟨bb, 0, none⟩ = some (.pointer (some ⟨L.P, 0, none⟩)) ∧ World.cell? w' ⟨ib, 0, none⟩ = some (.int .i64 (q : Int)))) (by kernel_rfl) (by rw [← hwD]; exact HS.out _ (Below.refl _ _)) (fun hHeld => ?_)
        rw [← hwD] at hHeld ⊢
        clear hwD
        refine wpAnyH_take (i := 0) (v := ?_) (by rfl) (by kernel_rfl) (by kernel_rfl) (by kernel_rfl) (fun _ _ _ h => h) (Or.inl ⟨by kernel_rfl, ?_⟩) (by assumption) ?_; rotate_left 1; (focus (intro w hSw; (try dsimp only at hSw); simp only [List.getElem_toArray, List.getElem_cons_succ, List.getElem_cons_zero]; all_goals go_simp; all_goals (try with_reducible rfl))); (try simp only [Act.put, List.getElem_toArray, List.getElem_cons_succ, List.getElem_cons_zero, List.setIfInBounds_toArray, List.set_cons_zero, List.set_cons_succ])
        refine wpAnyH_take (i := 1) (v := ?_) (by rfl) (by kernel_rfl) (by kernel_rfl) (by kernel_rfl) (fun _ _ _ h => h) (Or.inl ⟨by kernel_rfl, ?_⟩) (by assumption) ?_; rotate_left 1; (focus (intro w hSw; (try dsimp only at hSw); simp only [List.getElem_toArray, List.getElem_cons_succ, List.getElem_cons_zero]; all_goals go_simp; all_goals (try with_reducible rfl))); (try simp only [Act.put, List.getElem_toArray, List.getElem_cons_succ, List.getElem_cons_zero, List.setIfInBounds_toArray, List.set_cons_zero, List.set_cons_succ])
        refine wpAnyH_take (i := 2) (v := ?_) (by rfl) (by kernel_rfl) (by kernel_rfl) (by kernel_rfl) (fun _ _ _ h => h) (Or.inl ⟨by kernel_rfl, ?_⟩) (by assumption) ?_; rotate_left 1; (focus (intro w hSw; (try dsimp only at hSw); simp only [List.getElem_toArray, List.getElem_cons_succ, List.getElem_cons_zero]; all_goals go_simp; all_goals (try with_reducible rfl))); (try simp only [Act.put, List.getElem_toArray, List.getElem_cons_succ, List.getElem_cons_zero, List.setIfInBounds_toArray, List.set_cons_zero, List.set_cons_succ])
        refine wpAnyH_take (i := 3) (v := ?_) (by rfl) (by kernel_rfl) (by kernel_rfl) (by kernel_rfl) (fun _ _ _ h => h) (Or.inl ⟨by kernel_rfl, ?_⟩) (by assumption) ?_; rotate_left 1; (focus (intro w hSw; (try dsimp only at hSw); simp only [List.getElem_toArray, List.getElem_cons_succ, List.getElem_cons_zero]; all_goals go_simp; all_goals (try with_reducible rfl))); (try simp only [Act.put, List.getElem_toArray, List.getElem_cons_succ, List.getElem_cons_zero, List.setIfInBounds_toArray, List.set_cons_zero, List.set_cons_succ])
        refine wpAnyH_take (i := 4) (v := ?_) (by rfl) (by kernel_rfl) (by kernel_rfl) (by kernel_rfl) (fun _ _ _ h => h) (Or.inl ⟨by kernel_rfl, ?_⟩) (by assumption) ?_; rotate_left 1; (focus (intro w hSw; (try dsimp only at hSw); simp only [List.getElem_toArray, List.getElem_cons_succ, List.getElem_cons_zero]; all_goals go_simp; all_goals (try with_reducible rfl))); (try simp only [Act.put, List.getElem_toArray, List.getElem_cons_succ, List.getElem_cons_zero, List.setIfInBounds_toArray, List.set_cons_zero, List.set_cons_succ])
        refine wpAnyH_take (i := 5) (v := ?_) (by rfl) (by kernel_rfl) (by kernel_rfl) (by kernel_rfl) (fun _ _ _ h => h) (Or.inl ⟨by kernel_rfl, ?_⟩) (by assumption) ?_; rotate_left 1; (focus (intro w hSw; (try dsimp only at hSw); simp only [List.getElem_toArray, List.getElem_cons_succ, List.getElem_cons_zero]; all_goals go_simp; all_goals (try with_reducible rfl))); (try simp only [Act.put, List.getElem_toArray, List.getElem_cons_succ, List.getElem_cons_zero, List.setIfInBounds_toArray, List.set_cons_zero, List.set_cons_succ])
        refine wpAnyH_take (i := 7) (v := ?_) (by rfl) (by kernel_rfl) (by kernel_rfl) (by kernel_rfl) (fun _ _ _ h => h) (Or.inl ⟨by kernel_rfl, ?_⟩) (by assumption) ?_; rotate_left 1; (focus (intro w hSw; (try dsimp only at hSw); simp only [List.getElem_toArray, List.getElem_cons_succ, List.getElem_cons_zero]; all_goals go_simp; all_goals (try with_reducible rfl))); (try simp only [Act.put, List.getElem_toArray, List.getElem_cons_succ, List.getElem_cons_zero, List.setIfInBounds_toArray, List.set_cons_zero, List.set_cons_succ])
        refine wpAnyH_ready (rs := [6]) (by kernel_rfl) (by simp) ?_; refine AllReadyH.cons (by rfl) (fun K hK => ?_) AllReadyH.nil; rw [if_pos (by kernel_rfl)]; simp only [List.getElem_toArray, List.getElem_cons_succ, List.getElem_cons_zero]
        go_wp2_with (first
          | (go_at_call 20; (with_reducible refine (bowner_live 4 i vi 0 0 L.G3 q' i256 hq' HLv _ HWD.out (HTt.out _ HWD.out)).mono ?_); rintro e w3 ⟨rfl, hb⟩; have HB3 := Lib.hid hb; clear hb))
        refine hK.out _ _ (HS.out _ HB3.out) (fun hHeld => ?_)
        clear hK K
        (try simp only [Act.put, List.getElem_toArray, List.getElem_cons_succ, List.getElem_cons_zero, List.setIfInBounds_toArray, List.set_cons_zero, List.set_cons_succ])
        have HO3 := Lib.hid (HOD.out.below HB3.out)
        have HK3 := Lib.hid (HKD.out.below HB3.out)
        have r0 := HK3.out.c0
        have r1 := HK3.out.c1
        have r2 := HK3.out.c2
        have r3 := HK3.out.c3
        have r4 := HK3.out.c4
        have z0 := HO3.out.o0
        have zf := HO3.out.fr
        by_cases heq : (q' : Int) = (q : Int)
        · have te : ((q' : Int) == (q : Int)) = true := by simpa using heq
          have HE := Lib.hid heq
          clear heq
          refine wpAnyH_take (i := 8) (v := ?_) (by rfl) (by kernel_rfl) (by kernel_rfl) (by kernel_rfl) (fun _ _ _ h => h) (Or.inl ⟨by kernel_rfl, ?_⟩) (by assumption) ?_; rotate_left 1; (focus (intro w hSw; (try dsimp only at hSw); simp only [List.getElem_toArray, List.getElem_cons_succ, List.getElem_cons_zero]; all_goals go_simp; all_goals (try with_reducible rfl))); (try simp only [Act.put, List.getElem_toArray, List.getElem_cons_succ, List.getElem_cons_zero, List.setIfInBounds_toArray, List.set_cons_zero, List.set_cons_succ])
          refine wpAnyH_take (i := 9) (v := ?_) (by rfl) (by kernel_rfl) (by kernel_rfl) (by kernel_rfl) (fun _ _ _ h => h) (Or.inl ⟨by kernel_rfl, ?_⟩) (by assumption) ?_; rotate_left 1; (focus (intro w hSw; (try dsimp only at hSw); simp only [List.getElem_toArray, List.getElem_cons_succ, List.getElem_cons_zero]; all_goals go_simp; all_goals (try with_reducible rfl))); (try simp only [Act.put, List.getElem_toArray, List.getElem_cons_succ, List.getElem_cons_zero, List.setIfInBounds_toArray, List.set_cons_zero, List.set_cons_succ])
          refine wpAnyH_done (by kernel_rfl) ?_ _
          refine NoPanic.normal ?_
          clear hHeld
          obtain ⟨va, vc, hva⟩ := own_shape' HO3.out.row
          subst hva
          have HO4 := Lib.hid (fun X => HO3.out.below ((Below.refl _ _).alloc (Nat.le_refl _) _ : Below w3.heap.size w3 (w3.alloc X)))
          go_wp2_with (first
            | (at_builtin; refine wpList_append_own _ rfl _ _ 40 rfl (ob + 1) 38 i0 (.agg #[.int .i64 0, .int .i64 0, .int .i64 0, .int .i64 0, .int .u32 0]) 5 40 Tryd.underlying40 HI.out.1 HI.out.2.1 HI.out.2.2.1 HI.out.2.2.2 rfl (by decide) _ _ _ rfl (HO4.out _).row ⟨w3.heap.size, 0, none⟩ 1 1 [.int .i64 4, .int .i64 (i : Int), .int .i64 vi, .int .i64 0, .int .u32 0] rfl rfl ok5_at (ok5_one _ _ _ _ _) (by unfold maxLen; omega) (by omega) (by have := HO3.out.lt; simp; omega) ?_; intro v' w5 hown hgrow _; obtain ⟨vb, vd, hvb⟩ := own_shape' hown; subst hvb; have HG5 := Lib.hid ((HO4.out _).grown hgrow hown); clear hown hgrow; have y0 := HG5.out.o0; have yf := HG5.out.fr))
          have HS5 := Lib.hid HG5.out.put
          go_roundw
          case rel => exact ⟨i + 1, _, by omega, by go_num, by rw [oks_yes T o q i HT.out (by rw [Ho.out, HE.out]), okc_snoc, ← List.append_assoc, ← hxs.out, List.length_append, ← Nat.add_assoc, ← hm.out, hvi.out]; exact HS5.out⟩
          case measure => simp [intOf]; omega
        · have te : ((q' : Int) == (q : Int)) = false := by simpa using heq
          have HE := Lib.hid heq
          clear heq
          refine wpAnyH_take (i := 8) (v := ?_) (by rfl) (by kernel_rfl) (by kernel_rfl) (by kernel_rfl) (fun _ _ _ h => h) (Or.inl ⟨by kernel_rfl, ?_⟩) (by assumption) ?_; rotate_left 1; (focus (intro w hSw; (try dsimp only at hSw); simp only [List.getElem_toArray, List.getElem_cons_succ, List.getElem_cons_zero]; all_goals go_simp; all_goals (try with_reducible rfl))); (try simp only [Act.put, List.getElem_toArray, List.getElem_cons_succ, List.getElem_cons_zero, List.setIfInBounds_toArray, List.set_cons_zero, List.set_cons_succ])
          refine wpAnyH_take (i := 9) (v := ?_) (by rfl) (by kernel_rfl) (by kernel_rfl) (by kernel_rfl) (fun _ _ _ h => h) (Or.inl ⟨by kernel_rfl, ?_⟩) (by assumption) ?_; rotate_left 1; (focus (intro w hSw; (try dsimp only at hSw); simp only [List.getElem_toArray, List.getElem_cons_succ, List.getElem_cons_zero]; all_goals go_simp; all_goals (try with_reducible rfl))); (try simp only [Act.put, List.getElem_toArray, List.getElem_cons_succ, List.getElem_cons_zero, List.setIfInBounds_toArray, List.set_cons_zero, List.set_cons_succ])
          refine wpAnyH_done (by kernel_rfl) ?_ _
          refine NoPanic.normal ?_
          clear hHeld
          go_wp2_with fail
          go_roundw
          case rel => exact ⟨i + 1, v, by omega, by go_num, by rw [oks_no T o q i (by rw [Ho.out]; exact HE.out), ← hm.out, ← hxs.out]; exact HO3.out⟩
          case measure => simp [intOf]; omega
      · have hT' : T i = false := by simpa using hT
        have HC := Lib.hid (hno.out i hlt hT')
        have HT := Lib.hid hT'
        clear hT hT'
        go_upto_region 4 with (first
          | (go_at_call 41; (with_reducible refine (HC.out _ HW.out trivial).mono ?_); rintro e w1 ⟨rfl, hb⟩; have HB1 := Lib.hid hb; clear hb))
        obtain ⟨kb, hkb⟩ : ∃ kb, kb = w1.heap.size := ⟨_, rfl⟩
        generalize hw2 : World.alloc w1 _ = w2
        have HB2 : Hid (Below w1.heap.size w1 w2) := Lib.hid (by rw [← hw2]; exact (Below.refl _ _).alloc (Nat.le_refl _) _)
        have HK2 : Hid (KeyC w2 kb 0 0 0 0 0) := Lib.hid (by rw [← hw2, hkb]; exact KeyC.new w1 0 0 0 0 0 _)
        rw [← hkb]
        clear hw2 hkb
        obtain ⟨wD, hwD⟩ : ∃ wD, wD = w2.drew := ⟨_, rfl⟩
        have HBD : Hid (Below wr.heap.size wr wD) := Lib.hid (by rw [hwD]; exact (HB1.out.trans (HB2.out.mono HB1.out.size)).drew)
        have HKD : Hid (KeyC wD kb 0 0 0 0 0) := Lib.hid (by rw [hwD]; exact HK2.out.below (Below.refl _ _).drew)
        have HOD := Lib.hid (HO.out.below HBD.out)
        refine wp_region_noPanic ?_
        refine wp_region_held_drew (S := fun w' => World.cell? w' ⟨kb, 0, none⟩ = some (.int .i64 0)) (by kernel_rfl) (by rw [← hwD]; exact HKD.out.c0) (fun hHeld => ?_)
        rw [← hwD] at hHeld ⊢
        clear hwD
        refine wpAnyH_take (i := 0) (v := ?_) (by rfl) (by kernel_rfl) (by kernel_rfl) (by kernel_rfl) (fun _ _ _ h => h) (Or.inl ⟨by kernel_rfl, ?_⟩) (by assumption) ?_; rotate_left 1; (focus (intro w hSw; (try dsimp only at hSw); simp only [List.getElem_toArray, List.getElem_cons_succ, List.getElem_cons_zero]; all_goals go_simp; all_goals (try with_reducible rfl))); (try simp only [Act.put, List.getElem_toArray, List.getElem_cons_succ, List.getElem_cons_zero, List.setIfInBounds_toArray, List.set_cons_zero, List.set_cons_succ])
        refine wpAnyH_take (i := 1) (v := ?_) (by rfl) (by kernel_rfl) (by kernel_rfl) (by kernel_rfl) (fun _ _ _ h => h) (Or.inl ⟨by kernel_rfl, ?_⟩) (by assumption) ?_; rotate_left 1; (focus (intro w hSw; (try dsimp only at hSw); simp only [List.getElem_toArray, List.getElem_cons_succ, List.getElem_cons_zero]; all_goals go_simp; all_goals (try with_reducible rfl))); (try simp only [Act.put, List.getElem_toArray, List.getElem_cons_succ, List.getElem_cons_zero, List.setIfInBounds_toArray, List.set_cons_zero, List.set_cons_succ])
        refine wpAnyH_take (i := 2) (v := ?_) (by rfl) (by kernel_rfl) (by kernel_rfl) (by kernel_rfl) (fun _ _ _ h => h) (Or.inl ⟨by kernel_rfl, ?_⟩) (by assumption) ?_; rotate_left 1; (focus (intro w hSw; (try dsimp only at hSw); simp only [List.getElem_toArray, List.getElem_cons_succ, List.getElem_cons_zero]; all_goals go_simp; all_goals (try with_reducible rfl))); (try simp only [Act.put, List.getElem_toArray, List.getElem_cons_succ, List.getElem_cons_zero, List.setIfInBounds_toArray, List.set_cons_zero, List.set_cons_succ])
        refine wpAnyH_take (i := 3) (v := ?_) (by rfl) (by kernel_rfl) (by kernel_rfl) (by kernel_rfl) (fun _ _ _ h => h) (Or.inl ⟨by kernel_rfl, ?_⟩) (by assumption) ?_; rotate_left 1; (focus (intro w hSw; (try dsimp only at hSw); simp only [List.getElem_toArray, List.getElem_cons_succ, List.getElem_cons_zero]; all_goals go_simp; all_goals (try with_reducible rfl))); (try simp only [Act.put, List.getElem_toArray, List.getElem_cons_succ, List.getElem_cons_zero, List.setIfInBounds_toArray, List.set_cons_zero, List.set_cons_succ])
        refine wpAnyH_take (i := 4) (v := undef) (by rfl) (by kernel_rfl) (by kernel_rfl) (by kernel_rfl) (fun _ _ _ h => h) (Or.inr ⟨by kernel_rfl, rfl⟩) (by assumption) ?_; (try simp only [Act.put, List.getElem_toArray, List.getElem_cons_succ, List.getElem_cons_zero, List.setIfInBounds_toArray, List.set_cons_zero, List.set_cons_succ])
        refine wpAnyH_take (i := 5) (v := undef) (by rfl) (by kernel_rfl) (by kernel_rfl) (by kernel_rfl) (fun _ _ _ h => h) (Or.inr ⟨by kernel_rfl, rfl⟩) (by assumption) ?_; (try simp only [Act.put, List.getElem_toArray, List.getElem_cons_succ, List.getElem_cons_zero, List.setIfInBounds_toArray, List.set_cons_zero, List.set_cons_succ])
        refine wpAnyH_take (i := 6) (v := undef) (by rfl) (by kernel_rfl) (by kernel_rfl) (by kernel_rfl) (fun _ _ _ h => h) (Or.inr ⟨by kernel_rfl, rfl⟩) (by assumption) ?_; (try simp only [Act.put, List.getElem_toArray, List.getElem_cons_succ, List.getElem_cons_zero, List.setIfInBounds_toArray, List.set_cons_zero, List.set_cons_succ])
        refine wpAnyH_take (i := 7) (v := undef) (by rfl) (by kernel_rfl) (by kernel_rfl) (by kernel_rfl) (fun _ _ _ h => h) (Or.inr ⟨by kernel_rfl, rfl⟩) (by assumption) ?_; (try simp only [Act.put, List.getElem_toArray, List.getElem_cons_succ, List.getElem_cons_zero, List.setIfInBounds_toArray, List.set_cons_zero, List.set_cons_succ])
        refine wpAnyH_take (i := 8) (v := undef) (by rfl) (by kernel_rfl) (by kernel_rfl) (by kernel_rfl) (fun _ _ _ h => h) (Or.inr ⟨by kernel_rfl, rfl⟩) (by assumption) ?_; (try simp only [Act.put, List.getElem_toArray, List.getElem_cons_succ, List.getElem_cons_zero, List.setIfInBounds_toArray, List.set_cons_zero, List.set_cons_succ])
        refine wpAnyH_take (i := 9) (v := ?_) (by rfl) (by kernel_rfl) (by kernel_rfl) (by kernel_rfl) (fun _ _ _ h => h) (Or.inl ⟨by kernel_rfl, ?_⟩) (by assumption) ?_; rotate_left 1; (focus (intro w hSw; (try dsimp only at hSw); simp only [List.getElem_toArray, List.getElem_cons_succ, List.getElem_cons_zero]; all_goals go_simp; all_goals (try with_reducible rfl))); (try simp only [Act.put, List.getElem_toArray, List.getElem_cons_succ, List.getElem_cons_zero, List.setIfInBounds_toArray, List.set_cons_zero, List.set_cons_succ])
        refine wpAnyH_done (by kernel_rfl) ?_ _
        refine NoPanic.normal ?_
        clear hHeld
        go_wp2_with fail
        go_roundw
        case rel => exact ⟨i + 1, v, by omega, by go_num, by rw [oks_dead T o q i HT.out, ← hm.out, ← hxs.out]; exact HOD.out⟩
        case measure => simp [intOf]; omega
    · obtain ⟨rfl⟩ : i = n := (by omega)
      go_wp2_with fail
      go_end0
      exact ⟨rfl, v, by rw [← hm.out, ← hxs.out]; exact HO.out⟩
end Go.Proofs.YtagiabcmbihoaaaDoor
namespace Go.Proofs.YtagiabcmbihoaaaDoor
open Go.ChangeShapes Go.WideShapes Go.ChangeAt Go.RowKit
set_option linter.unusedVariables false
set_option linter.unusedSimpArgs false
/-- Each thing that is there is a bank's, by a title as it is now. -/
structure OwI (L : BLoc) (D : BSt) : Prop where
  n : ∀ i, i < L.a.n → D.nt i = true → ∃ q' : Nat, q' < D.nb ∧ D.o1 i = (q' : Int) ∧ D.v1 i = D.nv i
  p : ∀ i, i < L.b.n → D.pt i = true → ∃ q' : Nat, q' < D.nb ∧ D.o2 i = (q' : Int) ∧ D.v2 i = D.pv i
  d : ∀ i, i < L.dn → D.dt i = true → ∃ q' : Nat, q' < D.nb ∧ D.o3 i = (q' : Int) ∧ D.v3 i = D.dv i
/-- What is bank q's, in numbers, and its keys. -/
def ownN (L : BLoc) (D : BSt) (q : Nat) : Nat := (oks D.nt D.o1 q L.a.n).length + (oks D.pt D.o2 q L.b.n).length + (oks D.dt D.o3 q L.dn).length
def ownK (L : BLoc) (D : BSt) (q : Nat) : List Value := okc 2 D.nv (oks D.nt D.o1 q L.a.n) ++ okc 3 D.pv (oks D.pt D.o2 q L.b.n) ++ okc 4 D.dv (oks D.dt D.o3 q L.dn)
section
variable {w0 w w' : World} {L : BLoc} {D : BSt}
theorem BW.titl1 (h : BW w0 w L D) (j : Nat) (hj : j < 256) : TiAt w L 2 L.G1 j (D.o1 j) (D.v1 j) := ⟨.inl ⟨rfl, rfl⟩, h.kk.t1.lt.2, (h.kk.t1.ti j hj).1, (h.kk.t1.ti j hj).2⟩
theorem BW.titl2 (h : BW w0 w L D) (j : Nat) (hj : j < 256) : TiAt w L 3 L.G2 j (D.o2 j) (D.v2 j) := ⟨.inr (.inl ⟨rfl, rfl⟩), h.kk.t2.lt.2, (h.kk.t2.ti j hj).1, (h.kk.t2.ti j hj).2⟩
theorem BW.titl3 (h : BW w0 w L D) (j : Nat) (hj : j < 256) : TiAt w L 4 L.G3 j (D.o3 j) (D.v3 j) := ⟨.inr (.inr ⟨by decide, by decide, rfl⟩), h.kk.t3.lt.2, (h.kk.t3.ti j hj).1, (h.kk.t3.ti j hj).2⟩
theorem liveK2 (i : Nat) (hi : i < L.a.n) (ht : D.nt i = true) : liveK L D 2 (i : Int) (D.nv i) = true := by simp [liveK, thereB, hi, ht]
theorem liveK3 (i : Nat) (hi : i < L.b.n) (ht : D.pt i = true) : liveK L D 3 (i : Int) (D.pv i) = true := by simp [liveK, thereB, hi, ht]
theorem liveK4 (i : Nat) (hi : i < L.dn) (ht : D.dt i = true) : liveK L D 4 (i : Int) (D.dv i) = true := by simp [liveK, thereB, hi, ht]
theorem badd_n (M : World) (bb ib ob q m0 : Nat) (xs0 : List Value) (hm0 : m0 ≤ 1000) (ho : OwI L D) (hM : BW w0 M L D) (w : World) (v0 : Value) (h : OwS M w L.P bb ib ob q v0 m0 xs0) :
    Calls Tryd.prog 36 #[.int .i64 (L.a.n : Int), .func (.func 38) #[] #[.pointer (some ⟨bb, 0, none⟩)], .pointer (some ⟨bb, 0, none⟩), .pointer (some ⟨ib, 0, none⟩), .pointer (some ⟨ob, 0, none⟩)] w fun e w' => e = .returned (.tuple #[]) ∧ ∃ v, OwS M w' L.P bb ib ob q v (m0 + (oks D.nt D.o1 q L.a.n).length) (xs0 ++ okc 2 D.nv (oks D.nt D.o1 q L.a.n)) :=
  badd_node M bb ib ob q L.a.n m0 xs0 D.o1 D.v1 D.nt D.nv hM.an hm0 (Lib.hid liveK2) (Lib.hid (fun W hW i hi => hW.titl1 i (by have := hW.an; omega))) (Lib.hid ho.n)
    (Lib.hid (fun i hi ht W hW hb => owned2_of bb (i : Int) 2 (i : Int) (D.nv i) 0 0 W hW hb.1 hb.2 (fun W2 hb2 => snodekey_in (i : Int) 0 i (Lib.hid rfl) (by decide) (by decide) hi (Lib.hid ht) _ (Lib.hid rfl) W2 (hW.below hb2).mm.sv.st)))
    (Lib.hid (fun i hi ht W hW hb => owned2_of bb (i : Int) 0 0 0 0 0 W hW hb.1 hb.2 (fun W2 hb2 => snodekey_dead (i : Int) 0 i (Lib.hid rfl) (Lib.hid ht) W2 (hW.below hb2).mm.sv.st)))
    hM w v0 h
theorem badd_p (M : World) (bb ib ob q m0 : Nat) (xs0 : List Value) (hm0 : m0 ≤ 1000) (ho : OwI L D) (hM : BW w0 M L D) (w : World) (v0 : Value) (h : OwS M w L.P bb ib ob q v0 m0 xs0) :
    Calls Tryd.prog 36 #[.int .i64 (L.b.n : Int), .func (.func 40) #[.pointer (some ⟨L.S, 0, none⟩)] #[], .pointer (some ⟨bb, 0, none⟩), .pointer (some ⟨ib, 0, none⟩), .pointer (some ⟨ob, 0, none⟩)] w fun e w' => e = .returned (.tuple #[]) ∧ ∃ v, OwS M w' L.P bb ib ob q v (m0 + (oks D.pt D.o2 q L.b.n).length) (xs0 ++ okc 3 D.pv (oks D.pt D.o2 q L.b.n)) :=
  badd_page M bb ib ob q L.b.n m0 xs0 D.o2 D.v2 D.pt D.pv hM.pn hm0 (Lib.hid liveK3) (Lib.hid (fun W hW i hi => hW.titl2 i (by have := hW.pn; omega))) (Lib.hid ho.p)
    (Lib.hid (fun i hi ht W hW _ => spagekey_in (i : Int) i (Lib.hid rfl) hi (Lib.hid ht) _ (Lib.hid rfl) W hW.mm.sv.st))
    (Lib.hid (fun i hi ht W hW _ => spagekey_dead (i : Int) i (Lib.hid rfl) (Lib.hid ht) W hW.mm.sv.st))
    hM w v0 h
theorem badd_d (M : World) (bb ib ob q m0 : Nat) (xs0 : List Value) (hm0 : m0 ≤ 1000) (ho : OwI L D) (hM : BW w0 M L D) (w : World) (v0 : Value) (h : OwS M w L.P bb ib ob q v0 m0 xs0) :
    Calls Tryd.prog 36 #[.int .i64 (L.dn : Int), .func (.func 41) #[.pointer (some ⟨L.dP, 0, none⟩)] #[], .pointer (some ⟨bb, 0, none⟩), .pointer (some ⟨ib, 0, none⟩), .pointer (some ⟨ob, 0, none⟩)] w fun e w' => e = .returned (.tuple #[]) ∧ ∃ v, OwS M w' L.P bb ib ob q v (m0 + (oks D.dt D.o3 q L.dn).length) (xs0 ++ okc 4 D.dv (oks D.dt D.o3 q L.dn)) :=
  badd_dom M bb ib ob q L.dn m0 xs0 D.o3 D.v3 D.dt D.dv hM.dn256 hm0 (Lib.hid liveK4) (Lib.hid (fun W hW i hi => hW.titl3 i (by have := hW.dn256; omega))) (Lib.hid ho.d)
    (Lib.hid (fun i hi ht W hW _ => dkey_of (i : Int) 4 (i : Int) (D.dv i) 0 0 W (fun W2 hb2 => dkeyof_in 4 (i : Int) 0 i (Lib.hid rfl) hi (Lib.hid ht) (by decide) _ (Lib.hid rfl) W2 (hW.below hb2).dd)))
    (Lib.hid (fun i hi ht W hW _ => dkey_of (i : Int) 0 0 0 0 0 W (fun W2 hb2 => dkeyof_dead 4 (i : Int) 0 i (Lib.hid rfl) (Lib.hid ht) W2 (hW.below hb2).dd)))
    hM w v0 h
end
set_option maxRecDepth 100000 in
set_option maxHeartbeats 2000000 in
theorem bowned_is {w0 : World} {L : BLoc} {D : BSt} (q : Nat) (hq : q < D.nb) (ho : OwI L D) (w : World) (h : BW w0 w L D) :
    Calls Tryd.prog 13 #[.pointer (some ⟨L.P, 0, none⟩), .int .i64 (q : Int)] w fun e w' => ∃ v, e = .returned v ∧ Below w.heap.size w w' ∧ w'.ownsRow w.heap.size 38 5 v (ownN L D q) (ownK L D q) := by
  have H := Lib.hid h
  have HO := Lib.hid ho
  have hn := h.n256
  have hnn := h.nn
  have hq256 : q < L.n := by omega
  have l1 := oks_len D.nt D.o1 q L.a.n
  have l2 := oks_len D.pt D.o2 q L.b.n
  have L1 : Hid (0 + (oks D.nt D.o1 q L.a.n).length ≤ 1000) := Lib.hid (by have := h.an; omega)
  have L2 : Hid (0 + (oks D.nt D.o1 q L.a.n).length + (oks D.pt D.o2 q L.b.n).length ≤ 1000) := Lib.hid (by have := h.an; have := h.pn; omega)
  have HTh : Hid (thN D.nb q = true) := Lib.hid (thN_at hq)
  clear l1 l2 h ho
  go_enter Tryd.func13, Tryd.ntmps13
  go_upto_region 1 with fail
  generalize hw2 : World.alloc (World.alloc w _) _ = w2
  obtain ⟨bb, hbb⟩ : ∃ bb, Hid (bb = w.heap.size) := ⟨_, Lib.hid rfl⟩
  have HB2 : Hid (Below w.heap.size w w2) := Lib.hid (by rw [← hw2]; exact ((Below.refl _ _).alloc (Nat.le_refl _) _).alloc (by simp) _)
  have HC2 : Hid (w2.cell? ⟨bb, 0, none⟩ = some (.pointer (some ⟨L.P, 0, none⟩)) ∧ w2.cell? ⟨bb + 1, 0, none⟩ = some (.int .i64 (q : Int)) ∧ w2.heap.size = bb + 2) := Lib.hid (by rw [← hw2, hbb.out]; simp)
  rw [← hbb.out]
  clear hw2
  obtain ⟨wD, hwD⟩ : ∃ wD, wD = w2.drew := ⟨_, rfl⟩
  have HBD : Hid (Below w.heap.size w wD) := Lib.hid (by rw [hwD]; exact HB2.out.drew)
  have HCD : Hid (wD.cell? ⟨bb, 0, none⟩ = some (.pointer (some ⟨L.P, 0, none⟩)) ∧ wD.cell? ⟨bb + 1, 0, none⟩ = some (.int .i64 (q : Int)) ∧ wD.heap.size = bb + 2) := Lib.hid (by rw [hwD]; exact HC2.out)
  have HWD := Lib.hid (H.out.below HBD.out)
  refine wp_region_noPanic ?_
  refine wp_region_held_drew (S := fun w' => (World.cell? w' ⟨bb, 0, none⟩ = some (.pointer (some ⟨L.P, 0, none⟩)) ∧ World.cell? w' ⟨bb + 1, 0, none⟩ = some (.int .i64 (q : Int)) ∧ World.cell? w' ⟨L.P, 0, none⟩ = some (.pointer (some ⟨L.p, 0, none⟩)))) (by kernel_rfl) (by rw [← hwD]; exact ⟨HCD.out.1, HCD.out.2.1, HWD.out.kk.f0⟩) (fun hHeld => ?_)
  rw [← hwD] at hHeld ⊢
  clear hwD
  refine wpAnyH_take (i := 0) (v := ?_) (by rfl) (by kernel_rfl) (by kernel_rfl) (by kernel_rfl) (fun _ _ _ h => h) (Or.inl ⟨by kernel_rfl, ?_⟩) (by assumption) ?_; rotate_left 1; (focus (intro w hSw; (try dsimp only at hSw); simp only [List.getElem_toArray, List.getElem_cons_succ, List.getElem_cons_zero]; all_goals go_simp; all_goals (try with_reducible rfl))); (try simp only [Act.put, List.getElem_toArray, List.getElem_cons_succ, List.getElem_cons_zero, List.setIfInBounds_toArray, List.set_cons_zero, List.set_cons_succ])
  refine wpAnyH_take (i := 1) (v := ?_) (by rfl) (by kernel_rfl) (by kernel_rfl) (by kernel_rfl) (fun _ _ _ h => h) (Or.inl ⟨by kernel_rfl, ?_⟩) (by assumption) ?_; rotate_left 1; (focus (intro w hSw; (try dsimp only at hSw); simp only [List.getElem_toArray, List.getElem_cons_succ, List.getElem_cons_zero]; all_goals go_simp; all_goals (try with_reducible rfl))); (try simp only [Act.put, List.getElem_toArray, List.getElem_cons_succ, List.getElem_cons_zero, List.setIfInBounds_toArray, List.set_cons_zero, List.set_cons_succ])
  refine wpAnyH_take (i := 2) (v := ?_) (by rfl) (by kernel_rfl) (by kernel_rfl) (by kernel_rfl) (fun _ _ _ h => h) (Or.inl ⟨by kernel_rfl, ?_⟩) (by assumption) ?_; rotate_left 1; (focus (intro w hSw; (try dsimp only at hSw); simp only [List.getElem_toArray, List.getElem_cons_succ, List.getElem_cons_zero]; all_goals go_simp; all_goals (try with_reducible rfl))); (try simp only [Act.put, List.getElem_toArray, List.getElem_cons_succ, List.getElem_cons_zero, List.setIfInBounds_toArray, List.set_cons_zero, List.set_cons_succ])
  refine wpAnyH_take (i := 3) (v := ?_) (by rfl) (by kernel_rfl) (by kernel_rfl) (by kernel_rfl) (fun _ _ _ h => h) (Or.inl ⟨by kernel_rfl, ?_⟩) (by assumption) ?_; rotate_left 1; (focus (intro w hSw; (try dsimp only at hSw); simp only [List.getElem_toArray, List.getElem_cons_succ, List.getElem_cons_zero]; all_goals go_simp; all_goals (try with_reducible rfl))); (try simp only [Act.put, List.getElem_toArray, List.getElem_cons_succ, List.getElem_cons_zero, List.setIfInBounds_toArray, List.set_cons_zero, List.set_cons_succ])
  refine wpAnyH_take (i := 4) (v := ?_) (by rfl) (by kernel_rfl) (by kernel_rfl) (by kernel_rfl) (fun _ _ _ h => h) (Or.inl ⟨by kernel_rfl, ?_⟩) (by assumption) ?_; rotate_left 1; (focus (intro w hSw; (try dsimp only at hSw); simp only [List.getElem_toArray, List.getElem_cons_succ, List.getElem_cons_zero]; all_goals go_simp; all_goals (try with_reducible rfl))); (try simp only [Act.put, List.getElem_toArray, List.getElem_cons_succ, List.getElem_cons_zero, List.setIfInBounds_toArray, List.set_cons_zero, List.set_cons_succ])
  refine wpAnyH_ready (rs := [5]) (by kernel_rfl) (by simp) ?_; refine AllReadyH.cons (by rfl) (fun K hK => ?_) AllReadyH.nil; rw [if_pos (by kernel_rfl)]; simp only [List.getElem_toArray, List.getElem_cons_succ, List.getElem_cons_zero]
  go_wp2_with (first
    | (go_at_call 17; (with_reducible refine (athere_in q hq256 true HTh _ HWD.out.kk.ar).mono ?_); rintro e w1 ⟨rfl, rfl⟩))
  refine hK.out _ _ ⟨HCD.out.1, HCD.out.2.1, HWD.out.kk.f0⟩ (fun hHeld => ?_)
  clear hK K
  (try simp only [Act.put, List.getElem_toArray, List.getElem_cons_succ, List.getElem_cons_zero, List.setIfInBounds_toArray, List.set_cons_zero, List.set_cons_succ])
  refine wpAnyH_take (i := 6) (v := ?_) (by rfl) (by kernel_rfl) (by kernel_rfl) (by kernel_rfl) (fun _ _ _ h => h) (Or.inl ⟨by kernel_rfl, ?_⟩) (by assumption) ?_; rotate_left 1; (focus (intro w hSw; (try dsimp only at hSw); simp only [List.getElem_toArray, List.getElem_cons_succ, List.getElem_cons_zero]; all_goals go_simp; all_goals (try with_reducible rfl))); (try simp only [Act.put, List.getElem_toArray, List.getElem_cons_succ, List.getElem_cons_zero, List.setIfInBounds_toArray, List.set_cons_zero, List.set_cons_succ])
  refine wpAnyH_done (by kernel_rfl) ?_ _
  refine NoPanic.normal ?_
  clear hHeld
  go_upto_region 4 with fail
  generalize hw3 : World.alloc wD _ = w3
  rw [HCD.out.2.2]
  have HS3 : Hid (OwS w w3 L.P bb (bb + 1) (bb + 2) q (.slice none 0 0) 0 []) := Lib.hid (by
    have hx := hbb.out
    have hsz := HCD.out.2.2
    have h0 : wD.heap.size < w3.heap.size := by rw [← hw3]; simp
    have hb3 : Below wD.heap.size wD w3 := by rw [← hw3]; exact (Below.refl _ _).alloc (Nat.le_refl _) _
    refine ⟨HBD.out.trans (hb3.mono HBD.out.size), ⟨by omega, by omega, by omega, by omega, by omega⟩, by omega, (hb3.cell (p := ⟨bb, 0, none⟩) (by show bb < wD.heap.size; omega)).trans HCD.out.1, (hb3.cell (p := ⟨bb + 1, 0, none⟩) (by show bb + 1 < wD.heap.size; omega)).trans HCD.out.2.1, ?_, ?_, World.ownsRow_nil _ _ _ _⟩
    · rw [← hsz, ← hw3]; simp
    · rw [← hsz, ← hw3]; simp)
  have HB3 : Hid (Below w.heap.size w w3) := Lib.hid HS3.out.bel
  have HW3 := Lib.hid (H.out.below HB3.out)
  clear hw3
  have c0 := HS3.out.b0
  have f1 := HW3.out.kk.f1
  have m0 := HW3.out.mm.m0
  have s0 := HW3.out.mm.sv.st.s0
  have p0 := HW3.out.mm.sv.st.nd.f0
  go_upto_region 6 with (first
    | (go_at_call 37; (with_reducible refine (acap_is _ HW3.out.mm.sv.st.nd.ar).mono ?_); rintro e w1 ⟨rfl, rfl⟩)
    | (go_at_call 36; (with_reducible refine (badd_n w bb (bb + 1) (bb + 2) q 0 [] (by decide) HO.out H.out _ _ HS3.out).mono ?_); rintro e w4 ⟨rfl, v4, h4⟩; have HS4 := Lib.hid h4; clear h4 c0 f1 m0 s0 p0))
  obtain ⟨wE, hwE⟩ : ∃ wE, wE = w4.drew := ⟨_, rfl⟩
  have HSE := Lib.hid (HS4.out.below (by rw [hwE]; exact (Below.refl _ _).drew) : OwS w wE L.P bb (bb + 1) (bb + 2) q v4 _ _)
  have HWE := Lib.hid (H.out.below HSE.out.bel)
  refine wp_region_noPanic ?_
  refine wp_region_held_drew (S := fun w' => (World.cell? w' ⟨bb, 0, none⟩ = some (.pointer (some ⟨L.P, 0, none⟩)) ∧ World.cell? w' ⟨L.P, 1, none⟩ = some (.pointer (some ⟨L.mb, 0, none⟩)) ∧ World.cell? w' ⟨L.mb, 0, none⟩ = some (.pointer (some ⟨L.S, 0, none⟩)) ∧ World.cell? w' ⟨L.S, 1, none⟩ = some (.pointer (some ⟨L.b.P, 0, none⟩)) ∧ World.cell? w' ⟨L.b.P, 0, none⟩ = some (.pointer (some ⟨L.b.p, 0, none⟩)))) (by kernel_rfl) (by rw [← hwE]; exact ⟨HSE.out.b0, HWE.out.kk.f1, HWE.out.mm.m0, HWE.out.mm.sv.st.s1, HWE.out.mm.sv.st.pg.f0⟩) (fun hHeld => ?_)
  rw [← hwE] at hHeld ⊢
  clear hwE
  refine wpAnyH_take (i := 0) (v := ?_) (by rfl) (by kernel_rfl) (by kernel_rfl) (by kernel_rfl) (fun _ _ _ h => h) (Or.inl ⟨by kernel_rfl, ?_⟩) (by assumption) ?_; rotate_left 1; (focus (intro w hSw; (try dsimp only at hSw); simp only [List.getElem_toArray, List.getElem_cons_succ, List.getElem_cons_zero]; all_goals go_simp; all_goals (try with_reducible rfl))); (try simp only [Act.put, List.getElem_toArray, List.getElem_cons_succ, List.getElem_cons_zero, List.setIfInBounds_toArray, List.set_cons_zero, List.set_cons_succ])
  refine wpAnyH_take (i := 1) (v := ?_) (by rfl) (by kernel_rfl) (by kernel_rfl) (by kernel_rfl) (fun _ _ _ h => h) (Or.inl ⟨by kernel_rfl, ?_⟩) (by assumption) ?_; rotate_left 1; (focus (intro w hSw; (try dsimp only at hSw); simp only [List.getElem_toArray, List.getElem_cons_succ, List.getElem_cons_zero]; all_goals go_simp; all_goals (try with_reducible rfl))); (try simp only [Act.put, List.getElem_toArray, List.getElem_cons_succ, List.getElem_cons_zero, List.setIfInBounds_toArray, List.set_cons_zero, List.set_cons_succ])
  refine wpAnyH_take (i := 2) (v := ?_) (by rfl) (by kernel_rfl) (by kernel_rfl) (by kernel_rfl) (fun _ _ _ h => h) (Or.inl ⟨by kernel_rfl, ?_⟩) (by assumption) ?_; rotate_left 1; (focus (intro w hSw; (try dsimp only at hSw); simp only [List.getElem_toArray, List.getElem_cons_succ, List.getElem_cons_zero]; all_goals go_simp; all_goals (try with_reducible rfl))); (try simp only [Act.put, List.getElem_toArray, List.getElem_cons_succ, List.getElem_cons_zero, List.setIfInBounds_toArray, List.set_cons_zero, List.set_cons_succ])
  refine wpAnyH_take (i := 3) (v := ?_) (by rfl) (by kernel_rfl) (by kernel_rfl) (by kernel_rfl) (fun _ _ _ h => h) (Or.inl ⟨by kernel_rfl, ?_⟩) (by assumption) ?_; rotate_left 1; (focus (intro w hSw; (try dsimp only at hSw); simp only [List.getElem_toArray, List.getElem_cons_succ, List.getElem_cons_zero]; all_goals go_simp; all_goals (try with_reducible rfl))); (try simp only [Act.put, List.getElem_toArray, List.getElem_cons_succ, List.getElem_cons_zero, List.setIfInBounds_toArray, List.set_cons_zero, List.set_cons_succ])
  refine wpAnyH_take (i := 4) (v := ?_) (by rfl) (by kernel_rfl) (by kernel_rfl) (by kernel_rfl) (fun _ _ _ h => h) (Or.inl ⟨by kernel_rfl, ?_⟩) (by assumption) ?_; rotate_left 1; (focus (intro w hSw; (try dsimp only at hSw); simp only [List.getElem_toArray, List.getElem_cons_succ, List.getElem_cons_zero]; all_goals go_simp; all_goals (try with_reducible rfl))); (try simp only [Act.put, List.getElem_toArray, List.getElem_cons_succ, List.getElem_cons_zero, List.setIfInBounds_toArray, List.set_cons_zero, List.set_cons_succ])
  refine wpAnyH_take (i := 5) (v := ?_) (by rfl) (by kernel_rfl) (by kernel_rfl) (by kernel_rfl) (fun _ _ _ h => h) (Or.inl ⟨by kernel_rfl, ?_⟩) (by assumption) ?_; rotate_left 1; (focus (intro w hSw; (try dsimp only at hSw); simp only [List.getElem_toArray, List.getElem_cons_succ, List.getElem_cons_zero]; all_goals go_simp; all_goals (try with_reducible rfl))); (try simp only [Act.put, List.getElem_toArray, List.getElem_cons_succ, List.getElem_cons_zero, List.setIfInBounds_toArray, List.set_cons_zero, List.set_cons_succ])
  refine wpAnyH_take (i := 6) (v := ?_) (by rfl) (by kernel_rfl) (by kernel_rfl) (by kernel_rfl) (fun _ _ _ h => h) (Or.inl ⟨by kernel_rfl, ?_⟩) (by assumption) ?_; rotate_left 1; (focus (intro w hSw; (try dsimp only at hSw); simp only [List.getElem_toArray, List.getElem_cons_succ, List.getElem_cons_zero]; all_goals go_simp; all_goals (try with_reducible rfl))); (try simp only [Act.put, List.getElem_toArray, List.getElem_cons_succ, List.getElem_cons_zero, List.setIfInBounds_toArray, List.set_cons_zero, List.set_cons_succ])
  refine wpAnyH_take (i := 7) (v := ?_) (by rfl) (by kernel_rfl) (by kernel_rfl) (by kernel_rfl) (fun _ _ _ h => h) (Or.inl ⟨by kernel_rfl, ?_⟩) (by assumption) ?_; rotate_left 1; (focus (intro w hSw; (try dsimp only at hSw); simp only [List.getElem_toArray, List.getElem_cons_succ, List.getElem_cons_zero]; all_goals go_simp; all_goals (try with_reducible rfl))); (try simp only [Act.put, List.getElem_toArray, List.getElem_cons_succ, List.getElem_cons_zero, List.setIfInBounds_toArray, List.set_cons_zero, List.set_cons_succ])
  refine wpAnyH_take (i := 8) (v := ?_) (by rfl) (by kernel_rfl) (by kernel_rfl) (by kernel_rfl) (fun _ _ _ h => h) (Or.inl ⟨by kernel_rfl, ?_⟩) (by assumption) ?_; rotate_left 1; (focus (intro w hSw; (try dsimp only at hSw); simp only [List.getElem_toArray, List.getElem_cons_succ, List.getElem_cons_zero]; all_goals go_simp; all_goals (try with_reducible rfl))); (try simp only [Act.put, List.getElem_toArray, List.getElem_cons_succ, List.getElem_cons_zero, List.setIfInBounds_toArray, List.set_cons_zero, List.set_cons_succ])
  refine wpAnyH_take (i := 9) (v := ?_) (by rfl) (by kernel_rfl) (by kernel_rfl) (by kernel_rfl) (fun _ _ _ h => h) (Or.inl ⟨by kernel_rfl, ?_⟩) (by assumption) ?_; rotate_left 1; (focus (intro w hSw; (try dsimp only at hSw); simp only [List.getElem_toArray, List.getElem_cons_succ, List.getElem_cons_zero]; all_goals go_simp; all_goals (try with_reducible rfl))); (try simp only [Act.put, List.getElem_toArray, List.getElem_cons_succ, List.getElem_cons_zero, List.setIfInBounds_toArray, List.set_cons_zero, List.set_cons_succ])
  refine wpAnyH_take (i := 10) (v := ?_) (by rfl) (by kernel_rfl) (by kernel_rfl) (by kernel_rfl) (fun _ _ _ h => h) (Or.inl ⟨by kernel_rfl, ?_⟩) (by assumption) ?_; rotate_left 1; (focus (intro w hSw; (try dsimp only at hSw); simp only [List.getElem_toArray, List.getElem_cons_succ, List.getElem_cons_zero]; all_goals go_simp; all_goals (try with_reducible rfl))); (try simp only [Act.put, List.getElem_toArray, List.getElem_cons_succ, List.getElem_cons_zero, List.setIfInBounds_toArray, List.set_cons_zero, List.set_cons_succ])
  refine wpAnyH_take (i := 11) (v := ?_) (by rfl) (by kernel_rfl) (by kernel_rfl) (by kernel_rfl) (fun _ _ _ h => h) (Or.inl ⟨by kernel_rfl, ?_⟩) (by assumption) ?_; rotate_left 1; (focus (intro w hSw; (try dsimp only at hSw); simp only [List.getElem_toArray, List.getElem_cons_succ, List.getElem_cons_zero]; all_goals go_simp; all_goals (try with_reducible rfl))); (try simp only [Act.put, List.getElem_toArray, List.getElem_cons_succ, List.getElem_cons_zero, List.setIfInBounds_toArray, List.set_cons_zero, List.set_cons_succ])
  refine wpAnyH_take (i := 12) (v := ?_) (by rfl) (by kernel_rfl) (by kernel_rfl) (by kernel_rfl) (fun _ _ _ h => h) (Or.inl ⟨by kernel_rfl, ?_⟩) (by assumption) ?_; rotate_left 1; (focus (intro w hSw; (try dsimp only at hSw); simp only [List.getElem_toArray, List.getElem_cons_succ, List.getElem_cons_zero]; all_goals go_simp; all_goals (try with_reducible rfl))); (try simp only [Act.put, List.getElem_toArray, List.getElem_cons_succ, List.getElem_cons_zero, List.setIfInBounds_toArray, List.set_cons_zero, List.set_cons_succ])
  refine wpAnyH_take (i := 13) (v := ?_) (by rfl) (by kernel_rfl) (by kernel_rfl) (by kernel_rfl) (fun _ _ _ h => h) (Or.inl ⟨by kernel_rfl, ?_⟩) (by assumption) ?_; rotate_left 1; (focus (intro w hSw; (try dsimp only at hSw); simp only [List.getElem_toArray, List.getElem_cons_succ, List.getElem_cons_zero]; all_goals go_simp; all_goals (try with_reducible rfl))); (try simp only [Act.put, List.getElem_toArray, List.getElem_cons_succ, List.getElem_cons_zero, List.setIfInBounds_toArray, List.set_cons_zero, List.set_cons_succ])
  refine wpAnyH_take (i := 15) (v := ?_) (by rfl) (by kernel_rfl) (by kernel_rfl) (by kernel_rfl) (fun _ _ _ h => h) (Or.inl ⟨by kernel_rfl, ?_⟩) (by assumption) ?_; rotate_left 1; (focus (intro w hSw; (try dsimp only at hSw); simp only [List.getElem_toArray, List.getElem_cons_succ, List.getElem_cons_zero]; all_goals go_simp; all_goals (try with_reducible rfl))); (try simp only [Act.put, List.getElem_toArray, List.getElem_cons_succ, List.getElem_cons_zero, List.setIfInBounds_toArray, List.set_cons_zero, List.set_cons_succ])
  refine wpAnyH_take (i := 16) (v := ?_) (by rfl) (by kernel_rfl) (by kernel_rfl) (by kernel_rfl) (fun _ _ _ h => h) (Or.inl ⟨by kernel_rfl, ?_⟩) (by assumption) ?_; rotate_left 1; (focus (intro w hSw; (try dsimp only at hSw); simp only [List.getElem_toArray, List.getElem_cons_succ, List.getElem_cons_zero]; all_goals go_simp; all_goals (try with_reducible rfl))); (try simp only [Act.put, List.getElem_toArray, List.getElem_cons_succ, List.getElem_cons_zero, List.setIfInBounds_toArray, List.set_cons_zero, List.set_cons_succ])
  refine wpAnyH_take (i := 17) (v := ?_) (by rfl) (by kernel_rfl) (by kernel_rfl) (by kernel_rfl) (fun _ _ _ h => h) (Or.inl ⟨by kernel_rfl, ?_⟩) (by assumption) ?_; rotate_left 1; (focus (intro w hSw; (try dsimp only at hSw); simp only [List.getElem_toArray, List.getElem_cons_succ, List.getElem_cons_zero]; all_goals go_simp; all_goals (try with_reducible rfl))); (try simp only [Act.put, List.getElem_toArray, List.getElem_cons_succ, List.getElem_cons_zero, List.setIfInBounds_toArray, List.set_cons_zero, List.set_cons_succ])
  refine wpAnyH_take (i := 18) (v := ?_) (by rfl) (by kernel_rfl) (by kernel_rfl) (by kernel_rfl) (fun _ _ _ h => h) (Or.inl ⟨by kernel_rfl, ?_⟩) (by assumption) ?_; rotate_left 1; (focus (intro w hSw; (try dsimp only at hSw); simp only [List.getElem_toArray, List.getElem_cons_succ, List.getElem_cons_zero]; all_goals go_simp; all_goals (try with_reducible rfl))); (try simp only [Act.put, List.getElem_toArray, List.getElem_cons_succ, List.getElem_cons_zero, List.setIfInBounds_toArray, List.set_cons_zero, List.set_cons_succ])
  refine wpAnyH_take (i := 19) (v := ?_) (by rfl) (by kernel_rfl) (by kernel_rfl) (by kernel_rfl) (fun _ _ _ h => h) (Or.inl ⟨by kernel_rfl, ?_⟩) (by assumption) ?_; rotate_left 1; (focus (intro w hSw; (try dsimp only at hSw); simp only [List.getElem_toArray, List.getElem_cons_succ, List.getElem_cons_zero]; all_goals go_simp; all_goals (try with_reducible rfl))); (try simp only [Act.put, List.getElem_toArray, List.getElem_cons_succ, List.getElem_cons_zero, List.setIfInBounds_toArray, List.set_cons_zero, List.set_cons_succ])
  refine wpAnyH_take (i := 20) (v := ?_) (by rfl) (by kernel_rfl) (by kernel_rfl) (by kernel_rfl) (fun _ _ _ h => h) (Or.inl ⟨by kernel_rfl, ?_⟩) (by assumption) ?_; rotate_left 1; (focus (intro w hSw; (try dsimp only at hSw); simp only [List.getElem_toArray, List.getElem_cons_succ, List.getElem_cons_zero]; all_goals go_simp; all_goals (try with_reducible rfl))); (try simp only [Act.put, List.getElem_toArray, List.getElem_cons_succ, List.getElem_cons_zero, List.setIfInBounds_toArray, List.set_cons_zero, List.set_cons_succ])
  refine wpAnyH_take (i := 21) (v := ?_) (by rfl) (by kernel_rfl) (by kernel_rfl) (by kernel_rfl) (fun _ _ _ h => h) (Or.inl ⟨by kernel_rfl, ?_⟩) (by assumption) ?_; rotate_left 1; (focus (intro w hSw; (try dsimp only at hSw); simp only [List.getElem_toArray, List.getElem_cons_succ, List.getElem_cons_zero]; all_goals go_simp; all_goals (try with_reducible rfl))); (try simp only [Act.put, List.getElem_toArray, List.getElem_cons_succ, List.getElem_cons_zero, List.setIfInBounds_toArray, List.set_cons_zero, List.set_cons_succ])
  refine wpAnyH_take (i := 22) (v := ?_) (by rfl) (by kernel_rfl) (by kernel_rfl) (by kernel_rfl) (fun _ _ _ h => h) (Or.inl ⟨by kernel_rfl, ?_⟩) (by assumption) ?_; rotate_left 1; (focus (intro w hSw; (try dsimp only at hSw); simp only [List.getElem_toArray, List.getElem_cons_succ, List.getElem_cons_zero]; all_goals go_simp; all_goals (try with_reducible rfl))); (try simp only [Act.put, List.getElem_toArray, List.getElem_cons_succ, List.getElem_cons_zero, List.setIfInBounds_toArray, List.set_cons_zero, List.set_cons_succ])
  refine wpAnyH_ready (rs := [14]) (by kernel_rfl) (by simp) ?_; refine AllReadyH.cons (by rfl) (fun K hK => ?_) AllReadyH.nil; rw [if_pos (by kernel_rfl)]; simp only [List.getElem_toArray, List.getElem_cons_succ, List.getElem_cons_zero]
  go_wp2_with (first
    | (go_at_call 37; (with_reducible refine (acap_is _ HWE.out.mm.sv.st.pg.ar).mono ?_); rintro e w1 ⟨rfl, rfl⟩))
  refine hK.out _ _ ⟨HSE.out.b0, HWE.out.kk.f1, HWE.out.mm.m0, HWE.out.mm.sv.st.s1, HWE.out.mm.sv.st.pg.f0⟩ (fun hHeld => ?_)
  clear hK K
  (try simp only [Act.put, List.getElem_toArray, List.getElem_cons_succ, List.getElem_cons_zero, List.setIfInBounds_toArray, List.set_cons_zero, List.set_cons_succ])
  refine wpAnyH_ready (rs := [23]) (by kernel_rfl) (by simp) ?_; refine AllReadyH.cons (by rfl) (fun K hK => ?_) AllReadyH.nil; rw [if_pos (by kernel_rfl)]; simp only [List.getElem_toArray, List.getElem_cons_succ, List.getElem_cons_zero]
  go_wp2_with (first
    | (go_at_call 36; (with_reducible refine (badd_p w bb (bb + 1) (bb + 2) q _ _ L1.out HO.out H.out _ _ HSE.out).mono ?_); rintro e w5 ⟨rfl, v5, h5⟩; have HS5 := Lib.hid h5; clear h5))
  have HW5 := Lib.hid (H.out.below HS5.out.bel)
  refine hK.out _ _ ⟨HS5.out.b0, HW5.out.kk.f1, HW5.out.mm.m0, HW5.out.mm.sv.st.s1, HW5.out.mm.sv.st.pg.f0⟩ (fun hHeld => ?_)
  clear hK K
  (try simp only [Act.put, List.getElem_toArray, List.getElem_cons_succ, List.getElem_cons_zero, List.setIfInBounds_toArray, List.set_cons_zero, List.set_cons_succ])
  refine wpAnyH_done (by kernel_rfl) ?_ _
  refine NoPanic.normal ?_
  clear hHeld
  go_upto_region 7 with fail
  obtain ⟨wF, hwF⟩ : ∃ wF, wF = w5.drew := ⟨_, rfl⟩
  have HSF := Lib.hid (HS5.out.below (by rw [hwF]; exact (Below.refl _ _).drew) : OwS w wF L.P bb (bb + 1) (bb + 2) q v5 _ _)
  have HWF := Lib.hid (H.out.below HSF.out.bel)
  refine wp_region_noPanic ?_
  refine wp_region_held_drew (S := fun w' => (World.cell? w' ⟨bb, 0, none⟩ = some (.pointer (some ⟨L.P, 0, none⟩)) ∧ World.cell? w' ⟨L.P, 2, none⟩ = some (.pointer (some ⟨L.dP, 0, none⟩)) ∧ World.cell? w' ⟨L.dP, 0, none⟩ = some (.pointer (some ⟨L.dp, 0, none⟩)))) (by kernel_rfl) (by rw [← hwF]; exact ⟨HSF.out.b0, HWF.out.kk.f2, HWF.out.dd.pl.f0⟩) (fun hHeld => ?_)
  rw [← hwF] at hHeld ⊢
  clear hwF
  refine wpAnyH_take (i := 0) (v := ?_) (by rfl) (by kernel_rfl) (by kernel_rfl) (by kernel_rfl) (fun _ _ _ h => h) (Or.inl ⟨by kernel_rfl, ?_⟩) (by assumption) ?_; rotate_left 1; (focus (intro w hSw; (try dsimp only at hSw); simp only [List.getElem_toArray, List.getElem_cons_succ, List.getElem_cons_zero]; all_goals go_simp; all_goals (try with_reducible rfl))); (try simp only [Act.put, List.getElem_toArray, List.getElem_cons_succ, List.getElem_cons_zero, List.setIfInBounds_toArray, List.set_cons_zero, List.set_cons_succ])
  refine wpAnyH_take (i := 1) (v := ?_) (by rfl) (by kernel_rfl) (by kernel_rfl) (by kernel_rfl) (fun _ _ _ h => h) (Or.inl ⟨by kernel_rfl, ?_⟩) (by assumption) ?_; rotate_left 1; (focus (intro w hSw; (try dsimp only at hSw); simp only [List.getElem_toArray, List.getElem_cons_succ, List.getElem_cons_zero]; all_goals go_simp; all_goals (try with_reducible rfl))); (try simp only [Act.put, List.getElem_toArray, List.getElem_cons_succ, List.getElem_cons_zero, List.setIfInBounds_toArray, List.set_cons_zero, List.set_cons_succ])
  refine wpAnyH_take (i := 2) (v := ?_) (by rfl) (by kernel_rfl) (by kernel_rfl) (by kernel_rfl) (fun _ _ _ h => h) (Or.inl ⟨by kernel_rfl, ?_⟩) (by assumption) ?_; rotate_left 1; (focus (intro w hSw; (try dsimp only at hSw); simp only [List.getElem_toArray, List.getElem_cons_succ, List.getElem_cons_zero]; all_goals go_simp; all_goals (try with_reducible rfl))); (try simp only [Act.put, List.getElem_toArray, List.getElem_cons_succ, List.getElem_cons_zero, List.setIfInBounds_toArray, List.set_cons_zero, List.set_cons_succ])
  refine wpAnyH_take (i := 3) (v := ?_) (by rfl) (by kernel_rfl) (by kernel_rfl) (by kernel_rfl) (fun _ _ _ h => h) (Or.inl ⟨by kernel_rfl, ?_⟩) (by assumption) ?_; rotate_left 1; (focus (intro w hSw; (try dsimp only at hSw); simp only [List.getElem_toArray, List.getElem_cons_succ, List.getElem_cons_zero]; all_goals go_simp; all_goals (try with_reducible rfl))); (try simp only [Act.put, List.getElem_toArray, List.getElem_cons_succ, List.getElem_cons_zero, List.setIfInBounds_toArray, List.set_cons_zero, List.set_cons_succ])
  refine wpAnyH_take (i := 4) (v := ?_) (by rfl) (by kernel_rfl) (by kernel_rfl) (by kernel_rfl) (fun _ _ _ h => h) (Or.inl ⟨by kernel_rfl, ?_⟩) (by assumption) ?_; rotate_left 1; (focus (intro w hSw; (try dsimp only at hSw); simp only [List.getElem_toArray, List.getElem_cons_succ, List.getElem_cons_zero]; all_goals go_simp; all_goals (try with_reducible rfl))); (try simp only [Act.put, List.getElem_toArray, List.getElem_cons_succ, List.getElem_cons_zero, List.setIfInBounds_toArray, List.set_cons_zero, List.set_cons_succ])
  refine wpAnyH_take (i := 5) (v := ?_) (by rfl) (by kernel_rfl) (by kernel_rfl) (by kernel_rfl) (fun _ _ _ h => h) (Or.inl ⟨by kernel_rfl, ?_⟩) (by assumption) ?_; rotate_left 1; (focus (intro w hSw; (try dsimp only at hSw); simp only [List.getElem_toArray, List.getElem_cons_succ, List.getElem_cons_zero]; all_goals go_simp; all_goals (try with_reducible rfl))); (try simp only [Act.put, List.getElem_toArray, List.getElem_cons_succ, List.getElem_cons_zero, List.setIfInBounds_toArray, List.set_cons_zero, List.set_cons_succ])
  refine wpAnyH_take (i := 6) (v := ?_) (by rfl) (by kernel_rfl) (by kernel_rfl) (by kernel_rfl) (fun _ _ _ h => h) (Or.inl ⟨by kernel_rfl, ?_⟩) (by assumption) ?_; rotate_left 1; (focus (intro w hSw; (try dsimp only at hSw); simp only [List.getElem_toArray, List.getElem_cons_succ, List.getElem_cons_zero]; all_goals go_simp; all_goals (try with_reducible rfl))); (try simp only [Act.put, List.getElem_toArray, List.getElem_cons_succ, List.getElem_cons_zero, List.setIfInBounds_toArray, List.set_cons_zero, List.set_cons_succ])
  refine wpAnyH_take (i := 7) (v := ?_) (by rfl) (by kernel_rfl) (by kernel_rfl) (by kernel_rfl) (fun _ _ _ h => h) (Or.inl ⟨by kernel_rfl, ?_⟩) (by assumption) ?_; rotate_left 1; (focus (intro w hSw; (try dsimp only at hSw); simp only [List.getElem_toArray, List.getElem_cons_succ, List.getElem_cons_zero]; all_goals go_simp; all_goals (try with_reducible rfl))); (try simp only [Act.put, List.getElem_toArray, List.getElem_cons_succ, List.getElem_cons_zero, List.setIfInBounds_toArray, List.set_cons_zero, List.set_cons_succ])
  refine wpAnyH_take (i := 9) (v := ?_) (by rfl) (by kernel_rfl) (by kernel_rfl) (by kernel_rfl) (fun _ _ _ h => h) (Or.inl ⟨by kernel_rfl, ?_⟩) (by assumption) ?_; rotate_left 1; (focus (intro w hSw; (try dsimp only at hSw); simp only [List.getElem_toArray, List.getElem_cons_succ, List.getElem_cons_zero]; all_goals go_simp; all_goals (try with_reducible rfl))); (try simp only [Act.put, List.getElem_toArray, List.getElem_cons_succ, List.getElem_cons_zero, List.setIfInBounds_toArray, List.set_cons_zero, List.set_cons_succ])
  refine wpAnyH_take (i := 10) (v := ?_) (by rfl) (by kernel_rfl) (by kernel_rfl) (by kernel_rfl) (fun _ _ _ h => h) (Or.inl ⟨by kernel_rfl, ?_⟩) (by assumption) ?_; rotate_left 1; (focus (intro w hSw; (try dsimp only at hSw); simp only [List.getElem_toArray, List.getElem_cons_succ, List.getElem_cons_zero]; all_goals go_simp; all_goals (try with_reducible rfl))); (try simp only [Act.put, List.getElem_toArray, List.getElem_cons_succ, List.getElem_cons_zero, List.setIfInBounds_toArray, List.set_cons_zero, List.set_cons_succ])
  refine wpAnyH_take (i := 11) (v := ?_) (by rfl) (by kernel_rfl) (by kernel_rfl) (by kernel_rfl) (fun _ _ _ h => h) (Or.inl ⟨by kernel_rfl, ?_⟩) (by assumption) ?_; rotate_left 1; (focus (intro w hSw; (try dsimp only at hSw); simp only [List.getElem_toArray, List.getElem_cons_succ, List.getElem_cons_zero]; all_goals go_simp; all_goals (try with_reducible rfl))); (try simp only [Act.put, List.getElem_toArray, List.getElem_cons_succ, List.getElem_cons_zero, List.setIfInBounds_toArray, List.set_cons_zero, List.set_cons_succ])
  refine wpAnyH_take (i := 12) (v := ?_) (by rfl) (by kernel_rfl) (by kernel_rfl) (by kernel_rfl) (fun _ _ _ h => h) (Or.inl ⟨by kernel_rfl, ?_⟩) (by assumption) ?_; rotate_left 1; (focus (intro w hSw; (try dsimp only at hSw); simp only [List.getElem_toArray, List.getElem_cons_succ, List.getElem_cons_zero]; all_goals go_simp; all_goals (try with_reducible rfl))); (try simp only [Act.put, List.getElem_toArray, List.getElem_cons_succ, List.getElem_cons_zero, List.setIfInBounds_toArray, List.set_cons_zero, List.set_cons_succ])
  refine wpAnyH_take (i := 13) (v := ?_) (by rfl) (by kernel_rfl) (by kernel_rfl) (by kernel_rfl) (fun _ _ _ h => h) (Or.inl ⟨by kernel_rfl, ?_⟩) (by assumption) ?_; rotate_left 1; (focus (intro w hSw; (try dsimp only at hSw); simp only [List.getElem_toArray, List.getElem_cons_succ, List.getElem_cons_zero]; all_goals go_simp; all_goals (try with_reducible rfl))); (try simp only [Act.put, List.getElem_toArray, List.getElem_cons_succ, List.getElem_cons_zero, List.setIfInBounds_toArray, List.set_cons_zero, List.set_cons_succ])
  refine wpAnyH_ready (rs := [8]) (by kernel_rfl) (by simp) ?_; refine AllReadyH.cons (by rfl) (fun K hK => ?_) AllReadyH.nil; rw [if_pos (by kernel_rfl)]; simp only [List.getElem_toArray, List.getElem_cons_succ, List.getElem_cons_zero]
  go_wp2_with (first
    | (go_at_call 37; (with_reducible refine (acap_is _ HWF.out.dd.pl.ar).mono ?_); rintro e w1 ⟨rfl, rfl⟩))
  refine hK.out _ _ ⟨HSF.out.b0, HWF.out.kk.f2, HWF.out.dd.pl.f0⟩ (fun hHeld => ?_)
  clear hK K
  (try simp only [Act.put, List.getElem_toArray, List.getElem_cons_succ, List.getElem_cons_zero, List.setIfInBounds_toArray, List.set_cons_zero, List.set_cons_succ])
  refine wpAnyH_ready (rs := [14]) (by kernel_rfl) (by simp) ?_; refine AllReadyH.cons (by rfl) (fun K hK => ?_) AllReadyH.nil; rw [if_pos (by kernel_rfl)]; simp only [List.getElem_toArray, List.getElem_cons_succ, List.getElem_cons_zero]
  go_wp2_with (first
    | (go_at_call 36; (with_reducible refine (badd_d w bb (bb + 1) (bb + 2) q _ _ L2.out HO.out H.out _ _ HSF.out).mono ?_); rintro e w6 ⟨rfl, v6, h6⟩; have HS6 := Lib.hid h6; clear h6))
  have HW6 := Lib.hid (H.out.below HS6.out.bel)
  refine hK.out _ _ ⟨HS6.out.b0, HW6.out.kk.f2, HW6.out.dd.pl.f0⟩ (fun hHeld => ?_)
  clear hK K
  (try simp only [Act.put, List.getElem_toArray, List.getElem_cons_succ, List.getElem_cons_zero, List.setIfInBounds_toArray, List.set_cons_zero, List.set_cons_succ])
  refine wpAnyH_done (by kernel_rfl) ?_ _
  refine NoPanic.normal ?_
  clear hHeld
  have z0 := HS6.out.o0
  go_wp2_with fail
  go_ret
  have hr := HS6.out.row
  rw [Nat.zero_add, List.nil_append] at hr
  exact ⟨_, rfl, HS6.out.bel, own_base hr (by have := hbb.out; omega)⟩
end Go.Proofs.YtagiabcmbihoaaaDoor
namespace Go.Proofs.YtagiabcmbihoaaaDoor
open Go.ChangeShapes Go.WideShapes Go.ChangeAt Go.RowKit
set_option linter.unusedVariables false
set_option linter.unusedSimpArgs false
theorem thN_out {k i : Nat} (h : k ≤ i) : thN k i = false := by simp [thN]; omega
set_option maxRecDepth 100000 in
set_option maxHeartbeats 1000000 in
theorem bchain_out {base P p B A G1 G2 G3 n c mb db nb : Nat} {pr us lm o1 v1 o2 v2 o3 v3 : Nat → Int} (i : Nat) (hi : nb ≤ i) (hin : i < n) (w : World) (h : BkAt w base P p B A G1 G2 G3 n c mb db (thN nb) (fun _ => 0) pr us lm o1 v1 o2 v2 o3 v3) :
    Calls Tryd.prog 35 #[.pointer (some ⟨P, 0, none⟩), .int .i64 (i : Int)] w fun e w' => e = .returned (.slice none 0 0) ∧ Below w.heap.size w w' := by
  have H := Lib.hid h
  have f0 := h.f0
  have HT : Hid (thN nb i = false) := Lib.hid (thN_out hi)
  clear h
  go_enter Tryd.func35, Tryd.ntmps35
  go_wp2_with fail
  go_loopw [1, 5] (fun x v wr => x = .int .i64 (i : Int) ∧ v = .slice none 0 0 ∧ wr = w) (fun _ _ _ => 0)
  case atStart => exact ⟨rfl, rfl, rfl⟩
  case round =>
    obtain ⟨rfl, rfl, rfl⟩ := hrel
    go_wp2_with (first
      | (go_at_call 17; (with_reducible refine (athere_in i hin false HT _ H.out.ar).mono ?_); rintro e w1 ⟨rfl, rfl⟩))
    go_ret
    exact ⟨rfl, Below.refl _ _⟩
set_option maxRecDepth 100000 in
set_option maxHeartbeats 1000000 in
theorem bwithin_out {base P p B A G1 G2 G3 n c mb db nb : Nat} {pr us lm o1 v1 o2 v2 o3 v3 : Nat → Int} (i : Nat) (z : Int) (hi : nb ≤ i) (hin : i < n) (w : World) (h : BkAt w base P p B A G1 G2 G3 n c mb db (thN nb) (fun _ => 0) pr us lm o1 v1 o2 v2 o3 v3) :
    Calls Tryd.prog 12 #[.pointer (some ⟨P, 0, none⟩), .int .i64 (i : Int), .int .i64 z] w fun e w' => e = .returned (.bool false) ∧ Below w.heap.size w w' := by
  have H := Lib.hid h
  clear h
  go_enter Tryd.func12, Tryd.ntmps12
  go_wp2_with (first
    | (go_at_call 35; (with_reducible refine (bchain_out i hi hin _ H.out).mono ?_); rintro e w1 ⟨rfl, hb⟩; have HB1 := Lib.hid hb; have HCo := Lib.hid (scon_any w1 1 (.slice none 0 0) [] 0 (Lib.hid rfl) (by decide) z false (Lib.hid rfl) none 0 rfl (World.ownsRow_nil _ _ _ _)); clear hb)
    | (go_at_call 34; (with_reducible refine HCo.out.mono ?_); rintro e w2 ⟨rfl, rfl⟩))
  go_ret
  exact ⟨rfl, HB1.out⟩
/-- Those below n that are in, or within bank z. -/
def inL (nb : Nat) (pr : Nat → Int) (z : Int) (n : Nat) : List Nat := (List.range n).filter (fun i => decide (i < nb) && (chL pr (i : Int)).contains z)
theorem inL_yes {nb : Nat} {pr : Nat → Int} {z : Int} (n : Nat) (h : (decide (n < nb) && (chL pr (n : Int)).contains z) = true) : inL nb pr z (n + 1) = inL nb pr z n ++ [n] := by
  unfold inL; rw [List.range_succ, List.filter_append]; simp only [List.filter_cons, List.filter_nil, h, if_true]
theorem inL_no {nb : Nat} {pr : Nat → Int} {z : Int} (n : Nat) (h : (decide (n < nb) && (chL pr (n : Int)).contains z) = false) : inL nb pr z (n + 1) = inL nb pr z n := by
  unfold inL; rw [List.range_succ, List.filter_append]; simp only [List.filter_cons, List.filter_nil, h]; simp
theorem inL_len (nb : Nat) (pr : Nat → Int) (z : Int) (n : Nat) : (inL nb pr z n).length ≤ n := by
  have := List.length_filter_le (fun i => decide (i < nb) && (chL pr (i : Int)).contains z) (List.range n)
  simpa [inL] using this
def ivals (l : List Nat) : List Value := l.map (fun (i : Nat) => Value.int .i64 (i : Int))
set_option maxRecDepth 100000 in
set_option maxHeartbeats 1000000 in
theorem binner_is {base P p B A G1 G2 G3 n c mb db nb : Nat} {pr us lm o1 v1 o2 v2 o3 v3 : Nat → Int} (z : Int) (hnb : nb ≤ n) (hpr : Hid (PrOk nb pr)) (w : World) (h : BkAt w base P p B A G1 G2 G3 n c mb db (thN nb) (fun _ => 0) pr us lm o1 v1 o2 v2 o3 v3) :
    Calls Tryd.prog 43 #[.pointer (some ⟨P, 0, none⟩), .int .i64 z] w fun e w' => ∃ v, e = .returned v ∧ w'.ownsRow w.heap.size 3 1 v (inL nb pr z n).length (ivals (inL nb pr z n)) ∧ Below w.heap.size w w' := by
  have H := Lib.hid h
  have hn := h.ar.le
  have f3 := h.f3
  obtain ⟨i0, hi, hz0, hz1, hz2⟩ := info_parts infoIntB
  have HI := Lib.hid (⟨hi, hz0, hz1, hz2⟩ : Tryd.prog.info? 3 = some i0 ∧ i0.zero = some (.int .i64 0) ∧ i0.size = 1 ∧ i0.bytes = 8)
  clear h hi hz0 hz1 hz2
  go_enter Tryd.func43, Tryd.ntmps43
  go_wp2_with fail
  go_loopw [5, 12] (fun v x wr => ∃ (i : Nat), x = .int .i64 (i : Int) ∧ i ≤ n ∧ wr.ownsRow w.heap.size 3 1 v (inL nb pr z i).length (ivals (inL nb pr z i)) ∧ Below w.heap.size w wr) (fun _ x _ => n - (intOf x).toNat)
  case atStart => exact ⟨0, rfl, Nat.zero_le _, World.ownsRow_nil _ _ _ _, Below.refl _ _⟩
  case round =>
    obtain ⟨i, rfl, hin, hown, hbel⟩ := hrel
    have hle := inL_len nb pr z i
    have hh := hown
    have HL := Lib.hid hbel
    have HM := Lib.hid (H.out.below hbel)
    obtain ⟨m, hm⟩ : ∃ m, Hid ((inL nb pr z i).length = m) := ⟨_, Lib.hid rfl⟩
    obtain ⟨xs, hxs⟩ : ∃ xs, Hid (ivals (inL nb pr z i) = xs) := ⟨_, Lib.hid rfl⟩
    rw [hm.out, hxs.out] at hh
    rw [hm.out] at hle
    have HW := Lib.hid hh
    have g0 : (0 : Int) ≤ i := by omega
    clear hown hbel hh
    by_cases hlt : i < n
    · obtain ⟨t, ht⟩ : ∃ t, Hid ((decide (i < nb) && (chL pr (i : Int)).contains z) = t) := ⟨_, Lib.hid rfl⟩
      have HWi : Hid (Calls Tryd.prog 12 #[.pointer (some ⟨P, 0, none⟩), .int .i64 (i : Int), .int .i64 z] wr fun e w' => e = .returned (.bool t) ∧ Below wr.heap.size wr w') := Lib.hid (by
        by_cases hi : i < nb
        · exact bwithin_is (i : Int) z t (by omega) (by omega) hnb hpr (Lib.hid (by rw [← ht.out, decide_eq_true hi]; rfl)) wr HM.out
        · have e : t = false := by rw [← ht.out, decide_eq_false hi]; rfl
          rw [e]
          exact bwithin_out i z (by omega) hlt wr HM.out)
      cases t
      · go_wp2_with (first
          | (go_at_call 12; (with_reducible refine HWi.out.mono ?_); rintro e w1 ⟨rfl, hb⟩; have HB1 := Lib.hid (HL.out.trans (hb.mono HL.out.size)); have HW1 := Lib.hid (row_same' HW.out (fun g hg => hb.block g (HW.out.lt g hg).2)); clear hb))
        go_roundw
        case rel => exact ⟨i + 1, by go_num, by omega, by rw [inL_no i ht.out, hm.out, hxs.out]; exact HW1.out, HB1.out⟩
        case measure => simp [intOf]; omega
      · go_wp2_with (first
          | (go_at_call 12; (with_reducible refine HWi.out.mono ?_); rintro e w1 ⟨rfl, hb⟩; have HB1 := Lib.hid (HL.out.trans (hb.mono HL.out.size)); have HW1 := Lib.hid (row_same' HW.out (fun g hg => hb.block g (HW.out.lt g hg).2)); clear hb)
          | (at_builtin; refine wpList_append_own _ rfl _ _ 22 rfl w.heap.size 3 i0 (.int .i64 0) 1 8 Tryd.underlying22 HI.out.1 HI.out.2.1 HI.out.2.2.1 HI.out.2.2.2 rfl (by decide) _ _ _ rfl (HW1.out.alloc _) ⟨w1.heap.size, 0, none⟩ 1 1 [.int .i64 (i : Int)] rfl rfl (cell_one_new _ _ _) (ints_oneCell .i64 [(i : Int)]) (by unfold maxLen; omega) (by omega) (by have := HB1.out.size; simp; omega) ?_; intro v' w2 hown' hgrow' _; have HB2 : Hid (Below w.heap.size w w2) := Lib.hid ((HB1.out.alloc HB1.out.size _).grown hgrow' (by have := HB1.out.size; simp; omega) (fun g hg => (HW1.out.lt g hg).1)); have HO2 := Lib.hid hown'; clear hown' hgrow'))
        go_roundw
        case rel => exact ⟨i + 1, by go_num, by omega, by rw [inL_yes i ht.out, List.length_append, hm.out]; unfold ivals; rw [List.map_append]; have e := hxs.out; unfold ivals at e; rw [e]; exact HO2.out, HB2.out⟩
        case measure => simp [intOf]; omega
    · have e : i = n := by omega
      go_wp2_with fail
      go_ret
      exact ⟨_, rfl, by rw [← e, hm.out, hxs.out]; exact HW.out, HL.out⟩
end Go.Proofs.YtagiabcmbihoaaaDoor
namespace Go.Proofs.YtagiabcmbihoaaaDoor
open Go.ChangeShapes Go.WideShapes Go.ChangeAt Go.RowKit
set_option linter.unusedVariables false
set_option linter.unusedSimpArgs false
set_option maxRecDepth 100000 in
theorem mgn_ok {w0 : World} {mb S : Nat} {a b : Shp} {N cb : Nat} {size : Int} {th : Nat → Bool} {vr_ : Nat → Int} {W : Nat → Nat → Value} {th2 : Nat → Bool} {vr2 : Nat → Int} {W2 : Nat → Nat → Int} {hits : Int} {v : Value} {E : List EW} (k : Nat) (hn : k < a.n) (ht : Hid (th k = true)) (u : Int) (hv : Hid (vr_ k = u)) (u0 : -1000000000 ≤ u) (u1 : u ≤ 1000000000) (w : World) (h : (MemAt w0 w mb S a b N cb size th vr_ W th2 vr2 W2 hits v E)) :
    Calls Tryd.prog 65 #[.pointer (some ⟨mb, 0, none⟩), .int .i64 (k : Int)] w fun e w' => e = .returned .nilIface ∧ MemAt w0 w' mb S a b N cb size (upd th k false) (upd vr_ k (u + 1)) W th2 vr2 W2 hits (.slice none 0 0) [] ∧ KeepM w w' N cb v := by
  have H := Lib.hid h
  have m0 := h.m0
  have s0 := h.sv.st.s0
  have f0 := h.sv.st.nd.f0
  clear h
  go_enter Tryd.func65, Tryd.ntmps65
  go_wp2_with (first
    | (go_at_call 46; (with_reducible refine (agive_ok _ H.out.sv.st.nd.ar k hn ht u hv u0 u1).mono ?_); rintro e w1 ⟨rfl, hA, hg⟩; have hb := PBelow.of (B := a.B) (G := a.G) hg (.inl rfl); have HF := Lib.hid (H.out.nodeC (H.out.sv.st.nd.turn hA hg) hb); have hmb := hb.2.2.2.2 mb H.out.ml (by have := H.out.mn; have := H.out.lo.n; omega) (by have := H.out.mn; have := H.out.lo.n; omega); have hcb := hb.2.2.2.2 cb H.out.ca.cl (by have := H.out.ca.nb; have := H.out.lo.n; omega) (by have := H.out.ca.nb; have := H.out.lo.n; omega); have HMB := Lib.hid hmb; have HCB := Lib.hid hcb; clear hA hg hb hmb hcb m0 s0 f0)
    | (go_at_call 75; (with_reducible refine (mgiven_ok mb cb v _ ((World.cell?_of_block (a := ⟨mb, 1, none⟩) HMB.out).trans H.out.m1) ((World.cell?_of_block (a := ⟨cb, 2, none⟩) HCB.out).trans H.out.ca.c2) ((World.frozen?_of_block (a := ⟨cb, 2, none⟩) HCB.out).trans (H.out.ca.fr 2))).mono ?_); rintro e w2 ⟨rfl, hw⟩; have HW := Lib.hid hw; clear hw))
  go_ret
  exact ⟨rfl, by rw [HW.out]; exact HF.out.1, by rw [HW.out]; exact HF.out.2⟩
set_option maxRecDepth 100000 in
theorem mgp_ok {w0 : World} {mb S : Nat} {a b : Shp} {N cb : Nat} {size : Int} {th : Nat → Bool} {vr_ : Nat → Int} {W : Nat → Nat → Value} {th2 : Nat → Bool} {vr2 : Nat → Int} {W2 : Nat → Nat → Int} {hits : Int} {v : Value} {E : List EW} (k : Nat) (hn : k < b.n) (ht : Hid (th2 k = true)) (u : Int) (hv : Hid (vr2 k = u)) (u0 : -1000000000 ≤ u) (u1 : u ≤ 1000000000) (w : World) (h : (MemAt w0 w mb S a b N cb size th vr_ W th2 vr2 W2 hits v E)) :
    Calls Tryd.prog 66 #[.pointer (some ⟨mb, 0, none⟩), .int .i64 (k : Int)] w fun e w' => e = .returned .nilIface ∧ MemAt w0 w' mb S a b N cb size th vr_ W (upd th2 k false) (upd vr2 k (u + 1)) W2 hits (.slice none 0 0) [] ∧ KeepM w w' N cb v := by
  have H := Lib.hid h
  have m0 := h.m0
  have s0 := h.sv.st.s1
  have f0 := h.sv.st.pg.f0
  clear h
  go_enter Tryd.func66, Tryd.ntmps66
  go_wp2_with (first
    | (go_at_call 46; (with_reducible refine (agive_ok _ H.out.sv.st.pg.ar k hn ht u hv u0 u1).mono ?_); rintro e w1 ⟨rfl, hA, hg⟩; have hb := PBelow.of (B := b.B) (G := b.G) hg (.inl rfl); have HF := Lib.hid (H.out.pageC (H.out.sv.st.pg.turn hA hg) hb); have hmb := hb.2.2.2.2 mb H.out.ml (by have := H.out.mn; have := H.out.lo.p; omega) (by have := H.out.mn; have := H.out.lo.p; omega); have hcb := hb.2.2.2.2 cb H.out.ca.cl (by have := H.out.ca.nb; have := H.out.lo.p; omega) (by have := H.out.ca.nb; have := H.out.lo.p; omega); have HMB := Lib.hid hmb; have HCB := Lib.hid hcb; clear hA hg hb hmb hcb m0 s0 f0)
    | (go_at_call 75; (with_reducible refine (mgiven_ok mb cb v _ ((World.cell?_of_block (a := ⟨mb, 1, none⟩) HMB.out).trans H.out.m1) ((World.cell?_of_block (a := ⟨cb, 2, none⟩) HCB.out).trans H.out.ca.c2) ((World.frozen?_of_block (a := ⟨cb, 2, none⟩) HCB.out).trans (H.out.ca.fr 2))).mono ?_); rintro e w2 ⟨rfl, hw⟩; have HW := Lib.hid hw; clear hw))
  go_ret
  exact ⟨rfl, by rw [HW.out]; exact HF.out.1, by rw [HW.out]; exact HF.out.2⟩
theorem BW.memC {w0 w w' : World} {L : BLoc} {D : BSt} (h : BW w0 w L D) {nt' : Nat → Bool} {nv' : Nat → Int} {pt' : Nat → Bool} {pv' : Nat → Int} (hm : MemAt w0 w' L.mb L.S L.a L.b L.N L.cb L.z nt' nv' D.nW pt' pv' D.pW 0 (.slice none 0 0) []) (hk : KeepM w w' L.N L.cb (.slice none 0 0)) : BW w0 w' L { D with nt := nt', nv := nv', pt := pt', pv := pv' } ∧ UpT L.T w w' := by
  have hmd := h.md
  have hdl := h.dl
  have htt := h.tt
  exact ⟨⟨hm, DsAt.same h.d hk.1 (fun k hk1 hk2 => hk.2 k (by omega) hk2 (by omega) (by simp [Value.ownBlock])), BkAt.same h.k hk.1 (fun k hk1 hk2 => hk.2 k (by omega) hk2 (by omega) (by simp [Value.ownBlock])), h.md, h.db, h.dl, h.pk, h.nn, h.tt, Nat.le_trans h.tw hk.1⟩, hk.1, fun k hk1 hk2 => hk.2 k (by omega) hk2 (by omega) (by simp [Value.ownBlock])⟩
theorem KeyC.upt {w w' : World} {T b : Nat} {k0 k1 k2 k3 k4 : Int} (h : KeyC w b k0 k1 k2 k3 k4) (hu : UpT T w w') (hb : T ≤ b) : KeyC w' b k0 k1 k2 k3 k4 := h.same' hu.1 (hu.2 b hb h.lt)
set_option maxRecDepth 100000 in
set_option maxHeartbeats 2000000 in
theorem bgb_node {w0 : World} {L : BLoc} {D : BSt} (k1 : Nat) (k2 k3 k4 : Int) (hj : k1 < 256) (hn : k1 < L.a.n) (ht : Hid (D.nt k1 = true)) (hv : Hid (D.nv k1 = k2)) (u0 : -1000000000 ≤ k2) (u1 : k2 ≤ 1000000000) (w : World) (h : BW w0 w L D) :
    Calls Tryd.prog 44 #[.pointer (some ⟨L.P, 0, none⟩), (Value.agg #[.int .i64 2, .int .i64 (k1 : Int), .int .i64 k2, .int .i64 k3, .int .u32 k4])] w fun e w' => e = .returned (.tuple #[]) ∧ BW w0 w' L { D with nt := upd D.nt k1 false, nv := upd D.nv k1 (k2 + 1), o1 := upd D.o1 k1 (-1), v1 := upd D.v1 k1 0 } ∧ UpT L.T w w' := by
  have H := Lib.hid h
  have HLT := Lib.hid h.lowT
  have HTT := Lib.hid h.tt
  have HTw := Lib.hid h.tw
  have j0 : (0 : Int) ≤ k1 := by omega
  have j1 : (k1 : Int) < 256 := by omega
  clear h
  go_enter Tryd.func44, Tryd.ntmps44
  go_upto_region 3 with fail
  generalize hw2 : World.alloc w _ = w2
  have HB2 : Hid (Below w.heap.size w w2) := Lib.hid (by rw [← hw2]; exact (Below.refl _ _).alloc (Nat.le_refl _) _)
  obtain ⟨kb, hkb⟩ : ∃ kb, kb = w.heap.size := ⟨_, rfl⟩
  have HK2 : Hid (KeyC w2 kb 2 (k1 : Int) k2 k3 k4) := Lib.hid (by rw [← hw2, hkb]; exact KeyC.new w 2 (k1 : Int) k2 k3 k4 _)
  have HKb : Hid (L.T ≤ kb) := Lib.hid (by rw [hkb]; exact HTw.out)
  rw [← hkb]
  clear hw2 hkb
  obtain ⟨k0, hk0⟩ : ∃ k0 : Int, Hid (k0 = 2) := ⟨_, Lib.hid rfl⟩
  obtain ⟨wD, hwD⟩ : ∃ wD, wD = w2.drew := ⟨_, rfl⟩
  have HBD : Hid (Below w2.heap.size w2 wD) := Lib.hid (by rw [hwD]; exact (Below.refl _ _).drew)
  have HWD := Lib.hid ((H.out.below HB2.out).below HBD.out)
  have HKD := Lib.hid (HK2.out.below HBD.out)
  refine wp_region_noPanic ?_
  refine wp_region_held_drew (S := fun w' => World.cell? w' ⟨L.P, 1, none⟩ = some (.pointer (some ⟨L.mb, 0, none⟩)) ∧ (World.cell? w' ⟨kb, 0, none⟩ = some (.int .i64 2) ∧ World.cell? w' ⟨kb, 1, none⟩ = some (.int .i64 (k1 : Int)) ∧ World.cell? w' ⟨kb, 2, none⟩ = some (.int .i64 k2) ∧ World.cell? w' ⟨kb, 3, none⟩ = some (.int .i64 k3) ∧ World.cell? w' ⟨kb, 4, none⟩ = some (.int .u32 k4))) (by kernel_rfl) (by rw [← hwD]; exact ⟨HWD.out.kk.f1, HKD.out.k5⟩) (fun hHeld => ?_)
  rw [← hwD] at hHeld ⊢
  clear hwD
  refine wpAnyH_take (i := 0) (v := ?_) (by rfl) (by kernel_rfl) (by kernel_rfl) (by kernel_rfl) (fun _ _ _ h => h) (Or.inl ⟨by kernel_rfl, ?_⟩) (by assumption) ?_; rotate_left 1; (focus (intro w hSw; (try dsimp only at hSw); simp only [List.getElem_toArray, List.getElem_cons_succ, List.getElem_cons_zero]; all_goals go_simp; all_goals (try with_reducible rfl))); (try simp only [Act.put, List.getElem_toArray, List.getElem_cons_succ, List.getElem_cons_zero, List.setIfInBounds_toArray, List.set_cons_zero, List.set_cons_succ])
  refine wpAnyH_take (i := 1) (v := ?_) (by rfl) (by kernel_rfl) (by kernel_rfl) (by kernel_rfl) (fun _ _ _ h => h) (Or.inl ⟨by kernel_rfl, ?_⟩) (by assumption) ?_; rotate_left 1; (focus (intro w hSw; (try dsimp only at hSw); simp only [List.getElem_toArray, List.getElem_cons_succ, List.getElem_cons_zero]; all_goals go_simp; all_goals (try with_reducible rfl))); (try simp only [Act.put, List.getElem_toArray, List.getElem_cons_succ, List.getElem_cons_zero, List.setIfInBounds_toArray, List.set_cons_zero, List.set_cons_succ])
  refine wpAnyH_take (i := 2) (v := ?_) (by rfl) (by kernel_rfl) (by kernel_rfl) (by kernel_rfl) (fun _ _ _ h => h) (Or.inl ⟨by kernel_rfl, ?_⟩) (by assumption) ?_; rotate_left 1; (focus (intro w hSw; (try dsimp only at hSw); simp only [List.getElem_toArray, List.getElem_cons_succ, List.getElem_cons_zero]; all_goals go_simp; all_goals (try with_reducible rfl))); (try simp only [Act.put, List.getElem_toArray, List.getElem_cons_succ, List.getElem_cons_zero, List.setIfInBounds_toArray, List.set_cons_zero, List.set_cons_succ])
  refine wpAnyH_take (i := 3) (v := ?_) (by rfl) (by kernel_rfl) (by kernel_rfl) (by kernel_rfl) (fun _ _ _ h => h) (Or.inl ⟨by kernel_rfl, ?_⟩) (by assumption) ?_; rotate_left 1; (focus (intro w hSw; (try dsimp only at hSw); simp only [List.getElem_toArray, List.getElem_cons_succ, List.getElem_cons_zero]; all_goals go_simp; all_goals (try with_reducible rfl))); (try simp only [Act.put, List.getElem_toArray, List.getElem_cons_succ, List.getElem_cons_zero, List.setIfInBounds_toArray, List.set_cons_zero, List.set_cons_succ])
  refine wpAnyH_take (i := 4) (v := ?_) (by rfl) (by kernel_rfl) (by kernel_rfl) (by kernel_rfl) (fun _ _ _ h => h) (Or.inl ⟨by kernel_rfl, ?_⟩) (by assumption) ?_; rotate_left 1; (focus (intro w hSw; (try dsimp only at hSw); simp only [List.getElem_toArray, List.getElem_cons_succ, List.getElem_cons_zero]; all_goals go_simp; all_goals (try with_reducible rfl))); (try simp only [Act.put, List.getElem_toArray, List.getElem_cons_succ, List.getElem_cons_zero, List.setIfInBounds_toArray, List.set_cons_zero, List.set_cons_succ])
  refine wpAnyH_take (i := 5) (v := ?_) (by rfl) (by kernel_rfl) (by kernel_rfl) (by kernel_rfl) (fun _ _ _ h => h) (Or.inl ⟨by kernel_rfl, ?_⟩) (by assumption) ?_; rotate_left 1; (focus (intro w hSw; (try dsimp only at hSw); simp only [List.getElem_toArray, List.getElem_cons_succ, List.getElem_cons_zero]; all_goals go_simp; all_goals (try with_reducible rfl))); (try simp only [Act.put, List.getElem_toArray, List.getElem_cons_succ, List.getElem_cons_zero, List.setIfInBounds_toArray, List.set_cons_zero, List.set_cons_succ])
  refine wpAnyH_ready (rs := [6]) (by kernel_rfl) (by simp) ?_; refine AllReadyH.cons (by rfl) (fun K hK => ?_) AllReadyH.nil; rw [if_pos (by kernel_rfl)]; simp only [List.getElem_toArray, List.getElem_cons_succ, List.getElem_cons_zero]
  go_wp2_with (first
    | (go_at_call 65; (with_reducible refine (mgn_ok k1 hn ht k2 hv u0 u1 _ HWD.out.mm).mono ?_); rintro e w3 ⟨rfl, hm, hkp⟩; have HN3 := Lib.hid (HWD.out.memC hm hkp); have HW3 := Lib.hid HN3.out.1; have HU3 := Lib.hid ((UpT.below (T := L.T) HBD.out).trans HN3.out.2); have HK3 := Lib.hid (HKD.out.upt HN3.out.2 HKb.out); clear hm hkp HN3))
  refine hK.out _ _ ⟨HW3.out.kk.f1, HK3.out.k5⟩ (fun hHeld => ?_)
  clear hK K hHeld
  (try simp only [Act.put, List.getElem_toArray, List.getElem_cons_succ, List.getElem_cons_zero, List.setIfInBounds_toArray, List.set_cons_zero, List.set_cons_succ])
  refine wpAnyH_done (by kernel_rfl) ?_ _
  refine NoPanic.normal ?_
  go_upto_region 8 with fail
  obtain ⟨wE, hwE⟩ : ∃ wE, wE = w3.drew := ⟨_, rfl⟩
  have HBE : Hid (Below w3.heap.size w3 wE) := Lib.hid (by rw [hwE]; exact (Below.refl _ _).drew)
  have HWE := Lib.hid (HW3.out.below HBE.out)
  have HKE := Lib.hid (HK3.out.below HBE.out)
  refine wp_region_noPanic ?_
  refine wp_region_held_drew (S := fun w' => (World.cell? w' ⟨kb, 0, none⟩ = some (.int .i64 2) ∧ World.cell? w' ⟨kb, 1, none⟩ = some (.int .i64 (k1 : Int)) ∧ World.cell? w' ⟨kb, 2, none⟩ = some (.int .i64 k2) ∧ World.cell? w' ⟨kb, 3, none⟩ = some (.int .i64 k3) ∧ World.cell? w' ⟨kb, 4, none⟩ = some (.int .u32 k4))) (by kernel_rfl) (by rw [← hwE]; exact HKE.out.k5) (fun hHeld => ?_)
  rw [← hwE] at hHeld ⊢
  clear hwE
  refine wpAnyH_take (i := 0) (v := ?_) (by rfl) (by kernel_rfl) (by kernel_rfl) (by kernel_rfl) (fun _ _ _ h => h) (Or.inl ⟨by kernel_rfl, ?_⟩) (by assumption) ?_; rotate_left 1; (focus (intro w hSw; (try dsimp only at hSw); simp only [List.getElem_toArray, List.getElem_cons_succ, List.getElem_cons_zero]; all_goals go_simp; all_goals (try with_reducible rfl))); (try simp only [Act.put, List.getElem_toArray, List.getElem_cons_succ, List.getElem_cons_zero, List.setIfInBounds_toArray, List.set_cons_zero, List.set_cons_succ])
  refine wpAnyH_take (i := 1) (v := ?_) (by rfl) (by kernel_rfl) (by kernel_rfl) (by kernel_rfl) (fun _ _ _ h => h) (Or.inl ⟨by kernel_rfl, ?_⟩) (by assumption) ?_; rotate_left 1; (focus (intro w hSw; (try dsimp only at hSw); simp only [List.getElem_toArray, List.getElem_cons_succ, List.getElem_cons_zero]; all_goals go_simp; all_goals (try with_reducible rfl))); (try simp only [Act.put, List.getElem_toArray, List.getElem_cons_succ, List.getElem_cons_zero, List.setIfInBounds_toArray, List.set_cons_zero, List.set_cons_succ])
  refine wpAnyH_take (i := 2) (v := ?_) (by rfl) (by kernel_rfl) (by kernel_rfl) (by kernel_rfl) (fun _ _ _ h => h) (Or.inl ⟨by kernel_rfl, ?_⟩) (by assumption) ?_; rotate_left 1; (focus (intro w hSw; (try dsimp only at hSw); simp only [List.getElem_toArray, List.getElem_cons_succ, List.getElem_cons_zero]; all_goals go_simp; all_goals (try with_reducible rfl))); (try simp only [Act.put, List.getElem_toArray, List.getElem_cons_succ, List.getElem_cons_zero, List.setIfInBounds_toArray, List.set_cons_zero, List.set_cons_succ])
  refine wpAnyH_take (i := 4) (v := ?_) (by rfl) (by kernel_rfl) (by kernel_rfl) (by kernel_rfl) (fun _ _ _ h => h) (Or.inl ⟨by kernel_rfl, ?_⟩) (by assumption) ?_; rotate_left 1; (focus (intro w hSw; (try dsimp only at hSw); simp only [List.getElem_toArray, List.getElem_cons_succ, List.getElem_cons_zero]; all_goals go_simp; all_goals (try with_reducible rfl))); (try simp only [Act.put, List.getElem_toArray, List.getElem_cons_succ, List.getElem_cons_zero, List.setIfInBounds_toArray, List.set_cons_zero, List.set_cons_succ])
  refine wpAnyH_take (i := 5) (v := ?_) (by rfl) (by kernel_rfl) (by kernel_rfl) (by kernel_rfl) (fun _ _ _ h => h) (Or.inl ⟨by kernel_rfl, ?_⟩) (by assumption) ?_; rotate_left 1; (focus (intro w hSw; (try dsimp only at hSw); simp only [List.getElem_toArray, List.getElem_cons_succ, List.getElem_cons_zero]; all_goals go_simp; all_goals (try with_reducible rfl))); (try simp only [Act.put, List.getElem_toArray, List.getElem_cons_succ, List.getElem_cons_zero, List.setIfInBounds_toArray, List.set_cons_zero, List.set_cons_succ])
  refine wpAnyH_take (i := 6) (v := ?_) (by rfl) (by kernel_rfl) (by kernel_rfl) (by kernel_rfl) (fun _ _ _ h => h) (Or.inl ⟨by kernel_rfl, ?_⟩) (by assumption) ?_; rotate_left 1; (focus (intro w hSw; (try dsimp only at hSw); simp only [List.getElem_toArray, List.getElem_cons_succ, List.getElem_cons_zero]; all_goals go_simp; all_goals (try with_reducible rfl))); (try simp only [Act.put, List.getElem_toArray, List.getElem_cons_succ, List.getElem_cons_zero, List.setIfInBounds_toArray, List.set_cons_zero, List.set_cons_succ])
  refine wpAnyH_ready (rs := [3]) (by kernel_rfl) (by simp) ?_; refine AllReadyH.cons (by rfl) (fun K hK => ?_) AllReadyH.nil; rw [if_pos (by kernel_rfl)]; simp only [List.getElem_toArray, List.getElem_cons_succ, List.getElem_cons_zero]
  go_wp2_with (first
    | (go_at_call 49; (with_reducible refine (btitles_is 2 L.G1 (.inl ⟨rfl, rfl⟩) _ HWE.out).mono ?_); rintro e w5 ⟨rfl, rfl⟩))
  refine hK.out _ _ HKE.out.k5 (fun hHeld => ?_)
  clear hK K
  (try simp only [Act.put, List.getElem_toArray, List.getElem_cons_succ, List.getElem_cons_zero, List.setIfInBounds_toArray, List.set_cons_zero, List.set_cons_succ])
  refine wpAnyH_take (i := 7) (v := ?_) (by rfl) (by kernel_rfl) (by kernel_rfl) (by kernel_rfl) (fun _ _ _ h => h) (Or.inl ⟨by kernel_rfl, ?_⟩) (by assumption) ?_; rotate_left 1; (focus (intro w hSw; (try dsimp only at hSw); simp only [List.getElem_toArray, List.getElem_cons_succ, List.getElem_cons_zero]; all_goals go_simp; all_goals (try with_reducible rfl))); (try simp only [Act.put, List.getElem_toArray, List.getElem_cons_succ, List.getElem_cons_zero, List.setIfInBounds_toArray, List.set_cons_zero, List.set_cons_succ])
  refine wpAnyH_ready (rs := [8]) (by kernel_rfl) (by simp) ?_; refine AllReadyH.cons (by rfl) (fun K hK => ?_) AllReadyH.nil; rw [if_pos (by kernel_rfl)]; simp only [List.getElem_toArray, List.getElem_cons_succ, List.getElem_cons_zero]
  have hti := HWE.out.kk.t1.ti k1 hj
  obtain ⟨c0, c1⟩ := hti
  have z0 := HWE.out.kk.t1.fr (k1 * 2)
  have z1 := HWE.out.kk.t1.fr (k1 * 2 + 1)
  have HS := Lib.hid (HWE.out.kk.t1.title k1 hj (-1) 0)
  have H4 := Lib.hid (HWE.out.kk.ti1 HS.out.1 HS.out.2)
  have HUS := Lib.hid (UpT.grown (T := L.T) HS.out.2 (by have := HTT.out; omega))
  have HKF := Lib.hid (HKE.out.upt HUS.out HKb.out)
  go_wp2_with fail
  refine hK.out _ _ HKF.out.k5 (fun hHeld => ?_)
  clear hK K hHeld
  (try simp only [Act.put, List.getElem_toArray, List.getElem_cons_succ, List.getElem_cons_zero, List.setIfInBounds_toArray, List.set_cons_zero, List.set_cons_succ])
  refine wpAnyH_done (by kernel_rfl) ?_ _
  refine NoPanic.normal ?_
  go_wp2_with fail
  go_end0
  refine ⟨rfl, ?_, (((UpT.below HB2.out).trans HU3.out).trans (UpT.below HBE.out)).trans HUS.out⟩
  exact BW.bank HWE.out (D' := { D with nt := upd D.nt k1 false, nv := upd D.nv k1 (k2 + 1), o1 := upd D.o1 k1 (-1), v1 := upd D.v1 k1 0 }) H4.out (low_of HS.out.2 HWE.out.kk.t1.lt.1 HWE.out.bl) rfl H.out.pk H.out.nn
set_option maxRecDepth 100000 in
set_option maxHeartbeats 2000000 in
theorem bgb_page {w0 : World} {L : BLoc} {D : BSt} (k1 : Nat) (k2 k3 k4 : Int) (hj : k1 < 256) (hn : k1 < L.b.n) (ht : Hid (D.pt k1 = true)) (hv : Hid (D.pv k1 = k2)) (u0 : -1000000000 ≤ k2) (u1 : k2 ≤ 1000000000) (w : World) (h : BW w0 w L D) :
    Calls Tryd.prog 44 #[.pointer (some ⟨L.P, 0, none⟩), (Value.agg #[.int .i64 3, .int .i64 (k1 : Int), .int .i64 k2, .int .i64 k3, .int .u32 k4])] w fun e w' => e = .returned (.tuple #[]) ∧ BW w0 w' L { D with pt := upd D.pt k1 false, pv := upd D.pv k1 (k2 + 1), o2 := upd D.o2 k1 (-1), v2 := upd D.v2 k1 0 } ∧ UpT L.T w w' := by
  have H := Lib.hid h
  have HLT := Lib.hid h.lowT
  have HTT := Lib.hid h.tt
  have HTw := Lib.hid h.tw
  have j0 : (0 : Int) ≤ k1 := by omega
  have j1 : (k1 : Int) < 256 := by omega
  clear h
  go_enter Tryd.func44, Tryd.ntmps44
  go_upto_region 5 with fail
  generalize hw2 : World.alloc w _ = w2
  have HB2 : Hid (Below w.heap.size w w2) := Lib.hid (by rw [← hw2]; exact (Below.refl _ _).alloc (Nat.le_refl _) _)
  obtain ⟨kb, hkb⟩ : ∃ kb, kb = w.heap.size := ⟨_, rfl⟩
  have HK2 : Hid (KeyC w2 kb 3 (k1 : Int) k2 k3 k4) := Lib.hid (by rw [← hw2, hkb]; exact KeyC.new w 3 (k1 : Int) k2 k3 k4 _)
  have HKb : Hid (L.T ≤ kb) := Lib.hid (by rw [hkb]; exact HTw.out)
  rw [← hkb]
  clear hw2 hkb
  obtain ⟨k0, hk0⟩ : ∃ k0 : Int, Hid (k0 = 3) := ⟨_, Lib.hid rfl⟩
  obtain ⟨wD, hwD⟩ : ∃ wD, wD = w2.drew := ⟨_, rfl⟩
  have HBD : Hid (Below w2.heap.size w2 wD) := Lib.hid (by rw [hwD]; exact (Below.refl _ _).drew)
  have HWD := Lib.hid ((H.out.below HB2.out).below HBD.out)
  have HKD := Lib.hid (HK2.out.below HBD.out)
  refine wp_region_noPanic ?_
  refine wp_region_held_drew (S := fun w' => World.cell? w' ⟨L.P, 1, none⟩ = some (.pointer (some ⟨L.mb, 0, none⟩)) ∧ (World.cell? w' ⟨kb, 0, none⟩ = some (.int .i64 3) ∧ World.cell? w' ⟨kb, 1, none⟩ = some (.int .i64 (k1 : Int)) ∧ World.cell? w' ⟨kb, 2, none⟩ = some (.int .i64 k2) ∧ World.cell? w' ⟨kb, 3, none⟩ = some (.int .i64 k3) ∧ World.cell? w' ⟨kb, 4, none⟩ = some (.int .u32 k4))) (by kernel_rfl) (by rw [← hwD]; exact ⟨HWD.out.kk.f1, HKD.out.k5⟩) (fun hHeld => ?_)
  rw [← hwD] at hHeld ⊢
  clear hwD
  refine wpAnyH_take (i := 0) (v := ?_) (by rfl) (by kernel_rfl) (by kernel_rfl) (by kernel_rfl) (fun _ _ _ h => h) (Or.inl ⟨by kernel_rfl, ?_⟩) (by assumption) ?_; rotate_left 1; (focus (intro w hSw; (try dsimp only at hSw); simp only [List.getElem_toArray, List.getElem_cons_succ, List.getElem_cons_zero]; all_goals go_simp; all_goals (try with_reducible rfl))); (try simp only [Act.put, List.getElem_toArray, List.getElem_cons_succ, List.getElem_cons_zero, List.setIfInBounds_toArray, List.set_cons_zero, List.set_cons_succ])
  refine wpAnyH_take (i := 1) (v := ?_) (by rfl) (by kernel_rfl) (by kernel_rfl) (by kernel_rfl) (fun _ _ _ h => h) (Or.inl ⟨by kernel_rfl, ?_⟩) (by assumption) ?_; rotate_left 1; (focus (intro w hSw; (try dsimp only at hSw); simp only [List.getElem_toArray, List.getElem_cons_succ, List.getElem_cons_zero]; all_goals go_simp; all_goals (try with_reducible rfl))); (try simp only [Act.put, List.getElem_toArray, List.getElem_cons_succ, List.getElem_cons_zero, List.setIfInBounds_toArray, List.set_cons_zero, List.set_cons_succ])
  refine wpAnyH_take (i := 2) (v := ?_) (by rfl) (by kernel_rfl) (by kernel_rfl) (by kernel_rfl) (fun _ _ _ h => h) (Or.inl ⟨by kernel_rfl, ?_⟩) (by assumption) ?_; rotate_left 1; (focus (intro w hSw; (try dsimp only at hSw); simp only [List.getElem_toArray, List.getElem_cons_succ, List.getElem_cons_zero]; all_goals go_simp; all_goals (try with_reducible rfl))); (try simp only [Act.put, List.getElem_toArray, List.getElem_cons_succ, List.getElem_cons_zero, List.setIfInBounds_toArray, List.set_cons_zero, List.set_cons_succ])
  refine wpAnyH_take (i := 3) (v := ?_) (by rfl) (by kernel_rfl) (by kernel_rfl) (by kernel_rfl) (fun _ _ _ h => h) (Or.inl ⟨by kernel_rfl, ?_⟩) (by assumption) ?_; rotate_left 1; (focus (intro w hSw; (try dsimp only at hSw); simp only [List.getElem_toArray, List.getElem_cons_succ, List.getElem_cons_zero]; all_goals go_simp; all_goals (try with_reducible rfl))); (try simp only [Act.put, List.getElem_toArray, List.getElem_cons_succ, List.getElem_cons_zero, List.setIfInBounds_toArray, List.set_cons_zero, List.set_cons_succ])
  refine wpAnyH_take (i := 4) (v := ?_) (by rfl) (by kernel_rfl) (by kernel_rfl) (by kernel_rfl) (fun _ _ _ h => h) (Or.inl ⟨by kernel_rfl, ?_⟩) (by assumption) ?_; rotate_left 1; (focus (intro w hSw; (try dsimp only at hSw); simp only [List.getElem_toArray, List.getElem_cons_succ, List.getElem_cons_zero]; all_goals go_simp; all_goals (try with_reducible rfl))); (try simp only [Act.put, List.getElem_toArray, List.getElem_cons_succ, List.getElem_cons_zero, List.setIfInBounds_toArray, List.set_cons_zero, List.set_cons_succ])
  refine wpAnyH_take (i := 5) (v := ?_) (by rfl) (by kernel_rfl) (by kernel_rfl) (by kernel_rfl) (fun _ _ _ h => h) (Or.inl ⟨by kernel_rfl, ?_⟩) (by assumption) ?_; rotate_left 1; (focus (intro w hSw; (try dsimp only at hSw); simp only [List.getElem_toArray, List.getElem_cons_succ, List.getElem_cons_zero]; all_goals go_simp; all_goals (try with_reducible rfl))); (try simp only [Act.put, List.getElem_toArray, List.getElem_cons_succ, List.getElem_cons_zero, List.setIfInBounds_toArray, List.set_cons_zero, List.set_cons_succ])
  refine wpAnyH_ready (rs := [6]) (by kernel_rfl) (by simp) ?_; refine AllReadyH.cons (by rfl) (fun K hK => ?_) AllReadyH.nil; rw [if_pos (by kernel_rfl)]; simp only [List.getElem_toArray, List.getElem_cons_succ, List.getElem_cons_zero]
  go_wp2_with (first
    | (go_at_call 66; (with_reducible refine (mgp_ok k1 hn ht k2 hv u0 u1 _ HWD.out.mm).mono ?_); rintro e w3 ⟨rfl, hm, hkp⟩; have HN3 := Lib.hid (HWD.out.memC hm hkp); have HW3 := Lib.hid HN3.out.1; have HU3 := Lib.hid ((UpT.below (T := L.T) HBD.out).trans HN3.out.2); have HK3 := Lib.hid (HKD.out.upt HN3.out.2 HKb.out); clear hm hkp HN3))
  refine hK.out _ _ ⟨HW3.out.kk.f1, HK3.out.k5⟩ (fun hHeld => ?_)
  clear hK K hHeld
  (try simp only [Act.put, List.getElem_toArray, List.getElem_cons_succ, List.getElem_cons_zero, List.setIfInBounds_toArray, List.set_cons_zero, List.set_cons_succ])
  refine wpAnyH_done (by kernel_rfl) ?_ _
  refine NoPanic.normal ?_
  go_upto_region 8 with fail
  obtain ⟨wE, hwE⟩ : ∃ wE, wE = w3.drew := ⟨_, rfl⟩
  have HBE : Hid (Below w3.heap.size w3 wE) := Lib.hid (by rw [hwE]; exact (Below.refl _ _).drew)
  have HWE := Lib.hid (HW3.out.below HBE.out)
  have HKE := Lib.hid (HK3.out.below HBE.out)
  refine wp_region_noPanic ?_
  refine wp_region_held_drew (S := fun w' => (World.cell? w' ⟨kb, 0, none⟩ = some (.int .i64 3) ∧ World.cell? w' ⟨kb, 1, none⟩ = some (.int .i64 (k1 : Int)) ∧ World.cell? w' ⟨kb, 2, none⟩ = some (.int .i64 k2) ∧ World.cell? w' ⟨kb, 3, none⟩ = some (.int .i64 k3) ∧ World.cell? w' ⟨kb, 4, none⟩ = some (.int .u32 k4))) (by kernel_rfl) (by rw [← hwE]; exact HKE.out.k5) (fun hHeld => ?_)
  rw [← hwE] at hHeld ⊢
  clear hwE
  refine wpAnyH_take (i := 0) (v := ?_) (by rfl) (by kernel_rfl) (by kernel_rfl) (by kernel_rfl) (fun _ _ _ h => h) (Or.inl ⟨by kernel_rfl, ?_⟩) (by assumption) ?_; rotate_left 1; (focus (intro w hSw; (try dsimp only at hSw); simp only [List.getElem_toArray, List.getElem_cons_succ, List.getElem_cons_zero]; all_goals go_simp; all_goals (try with_reducible rfl))); (try simp only [Act.put, List.getElem_toArray, List.getElem_cons_succ, List.getElem_cons_zero, List.setIfInBounds_toArray, List.set_cons_zero, List.set_cons_succ])
  refine wpAnyH_take (i := 1) (v := ?_) (by rfl) (by kernel_rfl) (by kernel_rfl) (by kernel_rfl) (fun _ _ _ h => h) (Or.inl ⟨by kernel_rfl, ?_⟩) (by assumption) ?_; rotate_left 1; (focus (intro w hSw; (try dsimp only at hSw); simp only [List.getElem_toArray, List.getElem_cons_succ, List.getElem_cons_zero]; all_goals go_simp; all_goals (try with_reducible rfl))); (try simp only [Act.put, List.getElem_toArray, List.getElem_cons_succ, List.getElem_cons_zero, List.setIfInBounds_toArray, List.set_cons_zero, List.set_cons_succ])
  refine wpAnyH_take (i := 2) (v := ?_) (by rfl) (by kernel_rfl) (by kernel_rfl) (by kernel_rfl) (fun _ _ _ h => h) (Or.inl ⟨by kernel_rfl, ?_⟩) (by assumption) ?_; rotate_left 1; (focus (intro w hSw; (try dsimp only at hSw); simp only [List.getElem_toArray, List.getElem_cons_succ, List.getElem_cons_zero]; all_goals go_simp; all_goals (try with_reducible rfl))); (try simp only [Act.put, List.getElem_toArray, List.getElem_cons_succ, List.getElem_cons_zero, List.setIfInBounds_toArray, List.set_cons_zero, List.set_cons_succ])
  refine wpAnyH_take (i := 4) (v := ?_) (by rfl) (by kernel_rfl) (by kernel_rfl) (by kernel_rfl) (fun _ _ _ h => h) (Or.inl ⟨by kernel_rfl, ?_⟩) (by assumption) ?_; rotate_left 1; (focus (intro w hSw; (try dsimp only at hSw); simp only [List.getElem_toArray, List.getElem_cons_succ, List.getElem_cons_zero]; all_goals go_simp; all_goals (try with_reducible rfl))); (try simp only [Act.put, List.getElem_toArray, List.getElem_cons_succ, List.getElem_cons_zero, List.setIfInBounds_toArray, List.set_cons_zero, List.set_cons_succ])
  refine wpAnyH_take (i := 5) (v := ?_) (by rfl) (by kernel_rfl) (by kernel_rfl) (by kernel_rfl) (fun _ _ _ h => h) (Or.inl ⟨by kernel_rfl, ?_⟩) (by assumption) ?_; rotate_left 1; (focus (intro w hSw; (try dsimp only at hSw); simp only [List.getElem_toArray, List.getElem_cons_succ, List.getElem_cons_zero]; all_goals go_simp; all_goals (try with_reducible rfl))); (try simp only [Act.put, List.getElem_toArray, List.getElem_cons_succ, List.getElem_cons_zero, List.setIfInBounds_toArray, List.set_cons_zero, List.set_cons_succ])
  refine wpAnyH_take (i := 6) (v := ?_) (by rfl) (by kernel_rfl) (by kernel_rfl) (by kernel_rfl) (fun _ _ _ h => h) (Or.inl ⟨by kernel_rfl, ?_⟩) (by assumption) ?_; rotate_left 1; (focus (intro w hSw; (try dsimp only at hSw); simp only [List.getElem_toArray, List.getElem_cons_succ, List.getElem_cons_zero]; all_goals go_simp; all_goals (try with_reducible rfl))); (try simp only [Act.put, List.getElem_toArray, List.getElem_cons_succ, List.getElem_cons_zero, List.setIfInBounds_toArray, List.set_cons_zero, List.set_cons_succ])
  refine wpAnyH_ready (rs := [3]) (by kernel_rfl) (by simp) ?_; refine AllReadyH.cons (by rfl) (fun K hK => ?_) AllReadyH.nil; rw [if_pos (by kernel_rfl)]; simp only [List.getElem_toArray, List.getElem_cons_succ, List.getElem_cons_zero]
  go_wp2_with (first
    | (go_at_call 49; (with_reducible refine (btitles_is 3 L.G2 (.inr (.inl ⟨rfl, rfl⟩)) _ HWE.out).mono ?_); rintro e w5 ⟨rfl, rfl⟩))
  refine hK.out _ _ HKE.out.k5 (fun hHeld => ?_)
  clear hK K
  (try simp only [Act.put, List.getElem_toArray, List.getElem_cons_succ, List.getElem_cons_zero, List.setIfInBounds_toArray, List.set_cons_zero, List.set_cons_succ])
  refine wpAnyH_take (i := 7) (v := ?_) (by rfl) (by kernel_rfl) (by kernel_rfl) (by kernel_rfl) (fun _ _ _ h => h) (Or.inl ⟨by kernel_rfl, ?_⟩) (by assumption) ?_; rotate_left 1; (focus (intro w hSw; (try dsimp only at hSw); simp only [List.getElem_toArray, List.getElem_cons_succ, List.getElem_cons_zero]; all_goals go_simp; all_goals (try with_reducible rfl))); (try simp only [Act.put, List.getElem_toArray, List.getElem_cons_succ, List.getElem_cons_zero, List.setIfInBounds_toArray, List.set_cons_zero, List.set_cons_succ])
  refine wpAnyH_ready (rs := [8]) (by kernel_rfl) (by simp) ?_; refine AllReadyH.cons (by rfl) (fun K hK => ?_) AllReadyH.nil; rw [if_pos (by kernel_rfl)]; simp only [List.getElem_toArray, List.getElem_cons_succ, List.getElem_cons_zero]
  have hti := HWE.out.kk.t2.ti k1 hj
  obtain ⟨c0, c1⟩ := hti
  have z0 := HWE.out.kk.t2.fr (k1 * 2)
  have z1 := HWE.out.kk.t2.fr (k1 * 2 + 1)
  have HS := Lib.hid (HWE.out.kk.t2.title k1 hj (-1) 0)
  have H4 := Lib.hid (HWE.out.kk.ti2 HS.out.1 HS.out.2)
  have HUS := Lib.hid (UpT.grown (T := L.T) HS.out.2 (by have := HTT.out; omega))
  have HKF := Lib.hid (HKE.out.upt HUS.out HKb.out)
  go_wp2_with fail
  refine hK.out _ _ HKF.out.k5 (fun hHeld => ?_)
  clear hK K hHeld
  (try simp only [Act.put, List.getElem_toArray, List.getElem_cons_succ, List.getElem_cons_zero, List.setIfInBounds_toArray, List.set_cons_zero, List.set_cons_succ])
  refine wpAnyH_done (by kernel_rfl) ?_ _
  refine NoPanic.normal ?_
  go_wp2_with fail
  go_end0
  refine ⟨rfl, ?_, (((UpT.below HB2.out).trans HU3.out).trans (UpT.below HBE.out)).trans HUS.out⟩
  exact BW.bank HWE.out (D' := { D with pt := upd D.pt k1 false, pv := upd D.pv k1 (k2 + 1), o2 := upd D.o2 k1 (-1), v2 := upd D.v2 k1 0 }) H4.out (low_of HS.out.2 HWE.out.kk.t2.lt.1 HWE.out.bl) rfl H.out.pk H.out.nn
set_option maxRecDepth 100000 in
set_option maxHeartbeats 2000000 in
theorem bgb_dom {w0 : World} {L : BLoc} {D : BSt} (k1 : Nat) (k2 k3 k4 : Int) (hj : k1 < 256) (hn : k1 < L.dn) (ht : Hid (D.dt k1 = true)) (hv : Hid (D.dv k1 = k2)) (u0 : -1000000000 ≤ k2) (u1 : k2 ≤ 1000000000) (w : World) (h : BW w0 w L D) :
    Calls Tryd.prog 44 #[.pointer (some ⟨L.P, 0, none⟩), (Value.agg #[.int .i64 4, .int .i64 (k1 : Int), .int .i64 k2, .int .i64 k3, .int .u32 k4])] w fun e w' => e = .returned (.tuple #[]) ∧ BW w0 w' L { D with dt := upd D.dt k1 false, dv := upd D.dv k1 (k2 + 1), o3 := upd D.o3 k1 (-1), v3 := upd D.v3 k1 0 } ∧ UpT L.T w w' := by
  have H := Lib.hid h
  have HLT := Lib.hid h.lowT
  have HTT := Lib.hid h.tt
  have HTw := Lib.hid h.tw
  have j0 : (0 : Int) ≤ k1 := by omega
  have j1 : (k1 : Int) < 256 := by omega
  clear h
  go_enter Tryd.func44, Tryd.ntmps44
  go_upto_region 7 with fail
  generalize hw2 : World.alloc w _ = w2
  have HB2 : Hid (Below w.heap.size w w2) := Lib.hid (by rw [← hw2]; exact (Below.refl _ _).alloc (Nat.le_refl _) _)
  obtain ⟨kb, hkb⟩ : ∃ kb, kb = w.heap.size := ⟨_, rfl⟩
  have HK2 : Hid (KeyC w2 kb 4 (k1 : Int) k2 k3 k4) := Lib.hid (by rw [← hw2, hkb]; exact KeyC.new w 4 (k1 : Int) k2 k3 k4 _)
  have HKb : Hid (L.T ≤ kb) := Lib.hid (by rw [hkb]; exact HTw.out)
  rw [← hkb]
  clear hw2 hkb
  obtain ⟨k0, hk0⟩ : ∃ k0 : Int, Hid (k0 = 4) := ⟨_, Lib.hid rfl⟩
  obtain ⟨wD, hwD⟩ : ∃ wD, wD = w2.drew := ⟨_, rfl⟩
  have HBD : Hid (Below w2.heap.size w2 wD) := Lib.hid (by rw [hwD]; exact (Below.refl _ _).drew)
  have HWD := Lib.hid ((H.out.below HB2.out).below HBD.out)
  have HKD := Lib.hid (HK2.out.below HBD.out)
  refine wp_region_noPanic ?_
  refine wp_region_held_drew (S := fun w' => World.cell? w' ⟨L.P, 2, none⟩ = some (.pointer (some ⟨L.dP, 0, none⟩)) ∧ (World.cell? w' ⟨kb, 0, none⟩ = some (.int .i64 4) ∧ World.cell? w' ⟨kb, 1, none⟩ = some (.int .i64 (k1 : Int)) ∧ World.cell? w' ⟨kb, 2, none⟩ = some (.int .i64 k2) ∧ World.cell? w' ⟨kb, 3, none⟩ = some (.int .i64 k3) ∧ World.cell? w' ⟨kb, 4, none⟩ = some (.int .u32 k4))) (by kernel_rfl) (by rw [← hwD]; exact ⟨HWD.out.kk.f2, HKD.out.k5⟩) (fun hHeld => ?_)
  rw [← hwD] at hHeld ⊢
  clear hwD
  refine wpAnyH_take (i := 0) (v := ?_) (by rfl) (by kernel_rfl) (by kernel_rfl) (by kernel_rfl) (fun _ _ _ h => h) (Or.inl ⟨by kernel_rfl, ?_⟩) (by assumption) ?_; rotate_left 1; (focus (intro w hSw; (try dsimp only at hSw); simp only [List.getElem_toArray, List.getElem_cons_succ, List.getElem_cons_zero]; all_goals go_simp; all_goals (try with_reducible rfl))); (try simp only [Act.put, List.getElem_toArray, List.getElem_cons_succ, List.getElem_cons_zero, List.setIfInBounds_toArray, List.set_cons_zero, List.set_cons_succ])
  refine wpAnyH_take (i := 1) (v := ?_) (by rfl) (by kernel_rfl) (by kernel_rfl) (by kernel_rfl) (fun _ _ _ h => h) (Or.inl ⟨by kernel_rfl, ?_⟩) (by assumption) ?_; rotate_left 1; (focus (intro w hSw; (try dsimp only at hSw); simp only [List.getElem_toArray, List.getElem_cons_succ, List.getElem_cons_zero]; all_goals go_simp; all_goals (try with_reducible rfl))); (try simp only [Act.put, List.getElem_toArray, List.getElem_cons_succ, List.getElem_cons_zero, List.setIfInBounds_toArray, List.set_cons_zero, List.set_cons_succ])
  refine wpAnyH_take (i := 2) (v := ?_) (by rfl) (by kernel_rfl) (by kernel_rfl) (by kernel_rfl) (fun _ _ _ h => h) (Or.inl ⟨by kernel_rfl, ?_⟩) (by assumption) ?_; rotate_left 1; (focus (intro w hSw; (try dsimp only at hSw); simp only [List.getElem_toArray, List.getElem_cons_succ, List.getElem_cons_zero]; all_goals go_simp; all_goals (try with_reducible rfl))); (try simp only [Act.put, List.getElem_toArray, List.getElem_cons_succ, List.getElem_cons_zero, List.setIfInBounds_toArray, List.set_cons_zero, List.set_cons_succ])
  refine wpAnyH_take (i := 3) (v := ?_) (by rfl) (by kernel_rfl) (by kernel_rfl) (by kernel_rfl) (fun _ _ _ h => h) (Or.inl ⟨by kernel_rfl, ?_⟩) (by assumption) ?_; rotate_left 1; (focus (intro w hSw; (try dsimp only at hSw); simp only [List.getElem_toArray, List.getElem_cons_succ, List.getElem_cons_zero]; all_goals go_simp; all_goals (try with_reducible rfl))); (try simp only [Act.put, List.getElem_toArray, List.getElem_cons_succ, List.getElem_cons_zero, List.setIfInBounds_toArray, List.set_cons_zero, List.set_cons_succ])
  refine wpAnyH_take (i := 4) (v := ?_) (by rfl) (by kernel_rfl) (by kernel_rfl) (by kernel_rfl) (fun _ _ _ h => h) (Or.inl ⟨by kernel_rfl, ?_⟩) (by assumption) ?_; rotate_left 1; (focus (intro w hSw; (try dsimp only at hSw); simp only [List.getElem_toArray, List.getElem_cons_succ, List.getElem_cons_zero]; all_goals go_simp; all_goals (try with_reducible rfl))); (try simp only [Act.put, List.getElem_toArray, List.getElem_cons_succ, List.getElem_cons_zero, List.setIfInBounds_toArray, List.set_cons_zero, List.set_cons_succ])
  refine wpAnyH_take (i := 5) (v := ?_) (by rfl) (by kernel_rfl) (by kernel_rfl) (by kernel_rfl) (fun _ _ _ h => h) (Or.inl ⟨by kernel_rfl, ?_⟩) (by assumption) ?_; rotate_left 1; (focus (intro w hSw; (try dsimp only at hSw); simp only [List.getElem_toArray, List.getElem_cons_succ, List.getElem_cons_zero]; all_goals go_simp; all_goals (try with_reducible rfl))); (try simp only [Act.put, List.getElem_toArray, List.getElem_cons_succ, List.getElem_cons_zero, List.setIfInBounds_toArray, List.set_cons_zero, List.set_cons_succ])
  refine wpAnyH_ready (rs := [6]) (by kernel_rfl) (by simp) ?_; refine AllReadyH.cons (by rfl) (fun K hK => ?_) AllReadyH.nil; rw [if_pos (by kernel_rfl)]; simp only [List.getElem_toArray, List.getElem_cons_succ, List.getElem_cons_zero]
  go_wp2_with (first
    | (go_at_call 67; (with_reducible refine (dend_ok k1 hn ht k2 hv u0 u1 _ HWD.out.dd).mono ?_); rintro e w3 ⟨rfl, hm, hkp⟩; have HN3 := Lib.hid ((And.intro (HWD.out.doms hm hkp) (UpT.pb hkp (T := L.T) (by have := HLT.out; omega) (by have := HLT.out; omega)) : BW w0 w3 L _ ∧ UpT L.T wD w3)); have HW3 := Lib.hid HN3.out.1; have HU3 := Lib.hid ((UpT.below (T := L.T) HBD.out).trans HN3.out.2); have HK3 := Lib.hid (HKD.out.upt HN3.out.2 HKb.out); clear hm hkp HN3))
  refine hK.out _ _ ⟨HW3.out.kk.f2, HK3.out.k5⟩ (fun hHeld => ?_)
  clear hK K hHeld
  (try simp only [Act.put, List.getElem_toArray, List.getElem_cons_succ, List.getElem_cons_zero, List.setIfInBounds_toArray, List.set_cons_zero, List.set_cons_succ])
  refine wpAnyH_done (by kernel_rfl) ?_ _
  refine NoPanic.normal ?_
  go_upto_region 8 with fail
  obtain ⟨wE, hwE⟩ : ∃ wE, wE = w3.drew := ⟨_, rfl⟩
  have HBE : Hid (Below w3.heap.size w3 wE) := Lib.hid (by rw [hwE]; exact (Below.refl _ _).drew)
  have HWE := Lib.hid (HW3.out.below HBE.out)
  have HKE := Lib.hid (HK3.out.below HBE.out)
  refine wp_region_noPanic ?_
  refine wp_region_held_drew (S := fun w' => (World.cell? w' ⟨kb, 0, none⟩ = some (.int .i64 4) ∧ World.cell? w' ⟨kb, 1, none⟩ = some (.int .i64 (k1 : Int)) ∧ World.cell? w' ⟨kb, 2, none⟩ = some (.int .i64 k2) ∧ World.cell? w' ⟨kb, 3, none⟩ = some (.int .i64 k3) ∧ World.cell? w' ⟨kb, 4, none⟩ = some (.int .u32 k4))) (by kernel_rfl) (by rw [← hwE]; exact HKE.out.k5) (fun hHeld => ?_)
  rw [← hwE] at hHeld ⊢
  clear hwE
  refine wpAnyH_take (i := 0) (v := ?_) (by rfl) (by kernel_rfl) (by kernel_rfl) (by kernel_rfl) (fun _ _ _ h => h) (Or.inl ⟨by kernel_rfl, ?_⟩) (by assumption) ?_; rotate_left 1; (focus (intro w hSw; (try dsimp only at hSw); simp only [List.getElem_toArray, List.getElem_cons_succ, List.getElem_cons_zero]; all_goals go_simp; all_goals (try with_reducible rfl))); (try simp only [Act.put, List.getElem_toArray, List.getElem_cons_succ, List.getElem_cons_zero, List.setIfInBounds_toArray, List.set_cons_zero, List.set_cons_succ])
  refine wpAnyH_take (i := 1) (v := ?_) (by rfl) (by kernel_rfl) (by kernel_rfl) (by kernel_rfl) (fun _ _ _ h => h) (Or.inl ⟨by kernel_rfl, ?_⟩) (by assumption) ?_; rotate_left 1; (focus (intro w hSw; (try dsimp only at hSw); simp only [List.getElem_toArray, List.getElem_cons_succ, List.getElem_cons_zero]; all_goals go_simp; all_goals (try with_reducible rfl))); (try simp only [Act.put, List.getElem_toArray, List.getElem_cons_succ, List.getElem_cons_zero, List.setIfInBounds_toArray, List.set_cons_zero, List.set_cons_succ])
  refine wpAnyH_take (i := 2) (v := ?_) (by rfl) (by kernel_rfl) (by kernel_rfl) (by kernel_rfl) (fun _ _ _ h => h) (Or.inl ⟨by kernel_rfl, ?_⟩) (by assumption) ?_; rotate_left 1; (focus (intro w hSw; (try dsimp only at hSw); simp only [List.getElem_toArray, List.getElem_cons_succ, List.getElem_cons_zero]; all_goals go_simp; all_goals (try with_reducible rfl))); (try simp only [Act.put, List.getElem_toArray, List.getElem_cons_succ, List.getElem_cons_zero, List.setIfInBounds_toArray, List.set_cons_zero, List.set_cons_succ])
  refine wpAnyH_take (i := 4) (v := ?_) (by rfl) (by kernel_rfl) (by kernel_rfl) (by kernel_rfl) (fun _ _ _ h => h) (Or.inl ⟨by kernel_rfl, ?_⟩) (by assumption) ?_; rotate_left 1; (focus (intro w hSw; (try dsimp only at hSw); simp only [List.getElem_toArray, List.getElem_cons_succ, List.getElem_cons_zero]; all_goals go_simp; all_goals (try with_reducible rfl))); (try simp only [Act.put, List.getElem_toArray, List.getElem_cons_succ, List.getElem_cons_zero, List.setIfInBounds_toArray, List.set_cons_zero, List.set_cons_succ])
  refine wpAnyH_take (i := 5) (v := ?_) (by rfl) (by kernel_rfl) (by kernel_rfl) (by kernel_rfl) (fun _ _ _ h => h) (Or.inl ⟨by kernel_rfl, ?_⟩) (by assumption) ?_; rotate_left 1; (focus (intro w hSw; (try dsimp only at hSw); simp only [List.getElem_toArray, List.getElem_cons_succ, List.getElem_cons_zero]; all_goals go_simp; all_goals (try with_reducible rfl))); (try simp only [Act.put, List.getElem_toArray, List.getElem_cons_succ, List.getElem_cons_zero, List.setIfInBounds_toArray, List.set_cons_zero, List.set_cons_succ])
  refine wpAnyH_take (i := 6) (v := ?_) (by rfl) (by kernel_rfl) (by kernel_rfl) (by kernel_rfl) (fun _ _ _ h => h) (Or.inl ⟨by kernel_rfl, ?_⟩) (by assumption) ?_; rotate_left 1; (focus (intro w hSw; (try dsimp only at hSw); simp only [List.getElem_toArray, List.getElem_cons_succ, List.getElem_cons_zero]; all_goals go_simp; all_goals (try with_reducible rfl))); (try simp only [Act.put, List.getElem_toArray, List.getElem_cons_succ, List.getElem_cons_zero, List.setIfInBounds_toArray, List.set_cons_zero, List.set_cons_succ])
  refine wpAnyH_ready (rs := [3]) (by kernel_rfl) (by simp) ?_; refine AllReadyH.cons (by rfl) (fun K hK => ?_) AllReadyH.nil; rw [if_pos (by kernel_rfl)]; simp only [List.getElem_toArray, List.getElem_cons_succ, List.getElem_cons_zero]
  go_wp2_with (first
    | (go_at_call 49; (with_reducible refine (btitles_is 4 L.G3 (.inr (.inr ⟨by decide, by decide, rfl⟩)) _ HWE.out).mono ?_); rintro e w5 ⟨rfl, rfl⟩))
  refine hK.out _ _ HKE.out.k5 (fun hHeld => ?_)
  clear hK K
  (try simp only [Act.put, List.getElem_toArray, List.getElem_cons_succ, List.getElem_cons_zero, List.setIfInBounds_toArray, List.set_cons_zero, List.set_cons_succ])
  refine wpAnyH_take (i := 7) (v := ?_) (by rfl) (by kernel_rfl) (by kernel_rfl) (by kernel_rfl) (fun _ _ _ h => h) (Or.inl ⟨by kernel_rfl, ?_⟩) (by assumption) ?_; rotate_left 1; (focus (intro w hSw; (try dsimp only at hSw); simp only [List.getElem_toArray, List.getElem_cons_succ, List.getElem_cons_zero]; all_goals go_simp; all_goals (try with_reducible rfl))); (try simp only [Act.put, List.getElem_toArray, List.getElem_cons_succ, List.getElem_cons_zero, List.setIfInBounds_toArray, List.set_cons_zero, List.set_cons_succ])
  refine wpAnyH_ready (rs := [8]) (by kernel_rfl) (by simp) ?_; refine AllReadyH.cons (by rfl) (fun K hK => ?_) AllReadyH.nil; rw [if_pos (by kernel_rfl)]; simp only [List.getElem_toArray, List.getElem_cons_succ, List.getElem_cons_zero]
  have hti := HWE.out.kk.t3.ti k1 hj
  obtain ⟨c0, c1⟩ := hti
  have z0 := HWE.out.kk.t3.fr (k1 * 2)
  have z1 := HWE.out.kk.t3.fr (k1 * 2 + 1)
  have HS := Lib.hid (HWE.out.kk.t3.title k1 hj (-1) 0)
  have H4 := Lib.hid (HWE.out.kk.ti3 HS.out.1 HS.out.2)
  have HUS := Lib.hid (UpT.grown (T := L.T) HS.out.2 (by have := HTT.out; omega))
  have HKF := Lib.hid (HKE.out.upt HUS.out HKb.out)
  go_wp2_with fail
  refine hK.out _ _ HKF.out.k5 (fun hHeld => ?_)
  clear hK K hHeld
  (try simp only [Act.put, List.getElem_toArray, List.getElem_cons_succ, List.getElem_cons_zero, List.setIfInBounds_toArray, List.set_cons_zero, List.set_cons_succ])
  refine wpAnyH_done (by kernel_rfl) ?_ _
  refine NoPanic.normal ?_
  go_wp2_with fail
  go_end0
  refine ⟨rfl, ?_, (((UpT.below HB2.out).trans HU3.out).trans (UpT.below HBE.out)).trans HUS.out⟩
  exact BW.bank HWE.out (D' := { D with dt := upd D.dt k1 false, dv := upd D.dv k1 (k2 + 1), o3 := upd D.o3 k1 (-1), v3 := upd D.v3 k1 0 }) H4.out (low_of HS.out.2 HWE.out.kk.t3.lt.1 HWE.out.bl) rfl H.out.pk H.out.nn
end Go.Proofs.YtagiabcmbihoaaaDoor
namespace Go.Proofs.YtagiabcmbihoaaaDoor
open Go.ChangeShapes Go.WideShapes Go.ChangeAt Go.RowKit
set_option linter.unusedVariables false
set_option linter.unusedSimpArgs false
/-- What these places were is given back. -/
def gT (T : Nat → Bool) (l : List Nat) : Nat → Bool := fun i => if i ∈ l then false else T i
def gV (V : Nat → Int) (l : List Nat) : Nat → Int := fun i => if i ∈ l then V i + 1 else V i
def gO (o : Nat → Int) (x : Int) (l : List Nat) : Nat → Int := fun i => if i ∈ l then x else o i
theorem gT_nil (T : Nat → Bool) : gT T [] = T := by funext i; simp [gT]
theorem gV_nil (V : Nat → Int) : gV V [] = V := by funext i; simp [gV]
theorem gO_nil (o : Nat → Int) (x : Int) : gO o x [] = o := by funext i; simp [gO]
theorem gT_put (T : Nat → Bool) (l : List Nat) (k : Nat) : upd (gT T l) k false = gT T (l ++ [k]) := by
  funext i; unfold upd gT; by_cases e : i = k <;> simp [e]
theorem gV_put (V : Nat → Int) (l : List Nat) (k : Nat) (h : k ∉ l) : upd (gV V l) k (V k + 1) = gV V (l ++ [k]) := by
  funext i; unfold upd gV
  by_cases e : i = k
  · subst e; simp
  · simp [e]
theorem gO_put (o : Nat → Int) (x : Int) (l : List Nat) (k : Nat) : upd (gO o x l) k x = gO o x (l ++ [k]) := by
  funext i; unfold upd gO; by_cases e : i = k <;> simp [e]
def gI (D : BSt) (a b c : List Nat) : BSt := { D with nt := gT D.nt a, nv := gV D.nv a, o1 := gO D.o1 (-1) a, v1 := gO D.v1 0 a, pt := gT D.pt b, pv := gV D.pv b, o2 := gO D.o2 (-1) b, v2 := gO D.v2 0 b, dt := gT D.dt c, dv := gV D.dv c, o3 := gO D.o3 (-1) c, v3 := gO D.v3 0 c }
theorem gI_nil (D : BSt) : gI D [] [] [] = D := by unfold gI; simp only [gT_nil, gV_nil, gO_nil]
theorem gI_n (D : BSt) (a b c : List Nat) (k : Nat) (h : k ∉ a) : { gI D a b c with nt := upd (gI D a b c).nt k false, nv := upd (gI D a b c).nv k (D.nv k + 1), o1 := upd (gI D a b c).o1 k (-1), v1 := upd (gI D a b c).v1 k 0 } = gI D (a ++ [k]) b c := by
  unfold gI; simp only [gT_put, gV_put _ _ _ h, gO_put]
theorem gI_p (D : BSt) (a b c : List Nat) (k : Nat) (h : k ∉ b) : { gI D a b c with pt := upd (gI D a b c).pt k false, pv := upd (gI D a b c).pv k (D.pv k + 1), o2 := upd (gI D a b c).o2 k (-1), v2 := upd (gI D a b c).v2 k 0 } = gI D a (b ++ [k]) c := by
  unfold gI; simp only [gT_put, gV_put _ _ _ h, gO_put]
theorem gI_d (D : BSt) (a b c : List Nat) (k : Nat) (h : k ∉ c) : { gI D a b c with dt := upd (gI D a b c).dt k false, dv := upd (gI D a b c).dv k (D.dv k + 1), o3 := upd (gI D a b c).o3 k (-1), v3 := upd (gI D a b c).v3 k 0 } = gI D a b (c ++ [k]) := by
  unfold gI; simp only [gT_put, gV_put _ _ _ h, gO_put]
theorem gV_out {V : Nat → Int} {l : List Nat} {k : Nat} (h : k ∉ l) : gV V l k = V k := if_neg h
theorem oks_mem {T : Nat → Bool} {o : Nat → Int} {q n i : Nat} : i ∈ oks T o q n ↔ i < n ∧ T i = true ∧ o i = (q : Int) := by
  unfold oks; simp
theorem oks_nodup (T : Nat → Bool) (o : Nat → Int) (q n : Nat) : (oks T o q n).Nodup := List.nodup_range.filter _
theorem oks_g (T : Nat → Bool) (o : Nat → Int) (q n : Nat) (x : Int) (l : List Nat) (h : ∀ i, i ∈ l → o i ≠ (q : Int)) : oks (gT T l) (gO o x l) q n = oks T o q n := by
  unfold oks
  refine List.filter_congr (fun i _ => ?_)
  by_cases e : i ∈ l
  · have h1 := h i e
    simp [gT, gO, e, h1]
  · simp [gT, gO, e]
theorem okc_g (k0 : Int) (V : Nat → Int) (l ids : List Nat) (h : ∀ i, i ∈ ids → i ∉ l) : okc k0 (gV V l) ids = okc k0 V ids := by
  induction ids with
  | nil => rfl
  | cons i ids ih =>
    have e : ∀ V' : Nat → Int, okc k0 V' (i :: ids) = [.int .i64 k0, .int .i64 (i : Int), .int .i64 (V' i), .int .i64 0, .int .u32 0] ++ okc k0 V' ids := fun V' => by simp [okc]
    rw [e, e, ih (fun j hj => h j (List.mem_cons_of_mem _ hj)), gV_out (h i List.mem_cons_self)]
/-- What is of these banks. -/
def ofL (T : Nat → Bool) (o : Nat → Int) (n : Nat) (l : List Nat) : List Nat := l.flatMap (fun q => oks T o q n)
theorem ofL_mem {T : Nat → Bool} {o : Nat → Int} {n : Nat} {l : List Nat} {i : Nat} : i ∈ ofL T o n l ↔ i < n ∧ T i = true ∧ ∃ q, q ∈ l ∧ o i = (q : Int) := by
  unfold ofL
  rw [List.mem_flatMap]
  constructor
  · rintro ⟨q, hq, h⟩
    obtain ⟨h1, h2, h3⟩ := oks_mem.1 h
    exact ⟨h1, h2, q, hq, h3⟩
  · rintro ⟨h1, h2, q, hq, h3⟩
    exact ⟨q, hq, oks_mem.2 ⟨h1, h2, h3⟩⟩
theorem ofL_snoc (T : Nat → Bool) (o : Nat → Int) (n : Nat) (l : List Nat) (q : Nat) : ofL T o n (l ++ [q]) = ofL T o n l ++ oks T o q n := by simp [ofL]
theorem ofL_out {T : Nat → Bool} {o : Nat → Int} {n : Nat} {l : List Nat} {q : Nat} (hq : q ∉ l) : ∀ i, i ∈ ofL T o n l → o i ≠ (q : Int) := fun i hi e => by
  obtain ⟨_, _, q', h1, h2⟩ := ofL_mem.1 hi
  have : q = q' := by omega
  exact hq (this ▸ h1)
theorem ofL_dis {T : Nat → Bool} {o : Nat → Int} {n : Nat} {l : List Nat} {q : Nat} (hq : q ∉ l) : ∀ i, i ∈ oks T o q n → i ∉ ofL T o n l := fun i hi h => ofL_out hq i h (oks_mem.1 hi).2.2
/-- These banks' things are given back. -/
def gB (L : BLoc) (D : BSt) (l : List Nat) : BSt := gI D (ofL D.nt D.o1 L.a.n l) (ofL D.pt D.o2 L.b.n l) (ofL D.dt D.o3 L.dn l)
theorem gB_ownN (L : BLoc) (D : BSt) (l : List Nat) (q : Nat) (hq : q ∉ l) : ownN L (gB L D l) q = ownN L D q := by
  show (oks (gT _ _) (gO _ _ _) q L.a.n).length + (oks (gT _ _) (gO _ _ _) q L.b.n).length + (oks (gT _ _) (gO _ _ _) q L.dn).length = _
  rw [oks_g _ _ _ _ _ _ (ofL_out hq), oks_g _ _ _ _ _ _ (ofL_out hq), oks_g _ _ _ _ _ _ (ofL_out hq)]
  rfl
theorem gB_ownK (L : BLoc) (D : BSt) (l : List Nat) (q : Nat) (hq : q ∉ l) : ownK L (gB L D l) q = ownK L D q := by
  show okc 2 (gV _ _) (oks (gT _ _) (gO _ _ _) q L.a.n) ++ okc 3 (gV _ _) (oks (gT _ _) (gO _ _ _) q L.b.n) ++ okc 4 (gV _ _) (oks (gT _ _) (gO _ _ _) q L.dn) = _
  rw [oks_g _ _ _ _ _ _ (ofL_out hq), oks_g _ _ _ _ _ _ (ofL_out hq), oks_g _ _ _ _ _ _ (ofL_out hq), okc_g _ _ _ _ (ofL_dis hq), okc_g _ _ _ _ (ofL_dis hq), okc_g _ _ _ _ (ofL_dis hq)]
  rfl
theorem gB_ow {L : BLoc} {D : BSt} (h : OwI L D) (l : List Nat) : OwI L (gB L D l) where
  n := fun i hi ht => by
    by_cases e : i ∈ ofL D.nt D.o1 L.a.n l
    · rw [show (gB L D l).nt i = false from if_pos e] at ht; cases ht
    · rw [show (gB L D l).nt i = D.nt i from if_neg e] at ht
      rw [show (gB L D l).o1 i = D.o1 i from if_neg e, show (gB L D l).v1 i = D.v1 i from if_neg e, show (gB L D l).nv i = D.nv i from if_neg e]
      exact h.n i hi ht
  p := fun i hi ht => by
    by_cases e : i ∈ ofL D.pt D.o2 L.b.n l
    · rw [show (gB L D l).pt i = false from if_pos e] at ht; cases ht
    · rw [show (gB L D l).pt i = D.pt i from if_neg e] at ht
      rw [show (gB L D l).o2 i = D.o2 i from if_neg e, show (gB L D l).v2 i = D.v2 i from if_neg e, show (gB L D l).pv i = D.pv i from if_neg e]
      exact h.p i hi ht
  d := fun i hi ht => by
    by_cases e : i ∈ ofL D.dt D.o3 L.dn l
    · rw [show (gB L D l).dt i = false from if_pos e] at ht; cases ht
    · rw [show (gB L D l).dt i = D.dt i from if_neg e] at ht
      rw [show (gB L D l).o3 i = D.o3 i from if_neg e, show (gB L D l).v3 i = D.v3 i from if_neg e, show (gB L D l).dv i = D.dv i from if_neg e]
      exact h.d i hi ht
/-- How many things are these banks'. -/
def sumN (L : BLoc) (D : BSt) (l : List Nat) : Nat := (l.map (ownN L D)).sum
theorem sumN_snoc (L : BLoc) (D : BSt) (l : List Nat) (q : Nat) : sumN L D (l ++ [q]) = sumN L D l + ownN L D q := by simp [sumN]
theorem sumN_take (L : BLoc) (D : BSt) (l : List Nat) (k : Nat) : sumN L D (l.take k) ≤ sumN L D l := by
  have h := congrArg (fun x => (x.map (ownN L D)).sum) (List.take_append_drop k l)
  simp only [List.map_append, List.sum_append] at h
  unfold sumN
  omega
/-- Owned's keys as they come: a kind, a place, a version each. -/
def itK (k0 : Nat) (V : Nat → Int) (ids : List Nat) : List (Nat × Nat × Int) := ids.map (fun i => (k0, i, V i))
def items (L : BLoc) (D : BSt) (q : Nat) : List (Nat × Nat × Int) := itK 2 D.nv (oks D.nt D.o1 q L.a.n) ++ itK 3 D.pv (oks D.pt D.o2 q L.b.n) ++ itK 4 D.dv (oks D.dt D.o3 q L.dn)
def keyL (l : List (Nat × Nat × Int)) : List Value := l.flatMap (fun x => [.int .i64 (x.1 : Int), .int .i64 (x.2.1 : Int), .int .i64 x.2.2, .int .i64 0, .int .u32 0])
theorem keyL_itK (k0 : Nat) (V : Nat → Int) (ids : List Nat) : keyL (itK k0 V ids) = okc k0 V ids := by
  unfold keyL itK okc; rw [List.flatMap_map]
theorem keyL_items (L : BLoc) (D : BSt) (q : Nat) : keyL (items L D q) = ownK L D q := by
  have e : ∀ a b, keyL (a ++ b) = keyL a ++ keyL b := fun a b => by simp [keyL]
  unfold items ownK
  rw [e, e, keyL_itK, keyL_itK, keyL_itK]
  rfl
theorem items_len (L : BLoc) (D : BSt) (q : Nat) : (items L D q).length = ownN L D q := by simp [items, itK, ownN, Nat.add_assoc]
theorem keyL_at : ∀ (l : List (Nat × Nat × Int)) (j : Nat) (x : Nat × Nat × Int), l[j]? = some x → (keyL l)[j * 5]? = some (.int .i64 (x.1 : Int)) ∧ (keyL l)[j * 5 + 1]? = some (.int .i64 (x.2.1 : Int)) ∧ (keyL l)[j * 5 + 2]? = some (.int .i64 x.2.2) ∧ (keyL l)[j * 5 + 3]? = some (.int .i64 0) ∧ (keyL l)[j * 5 + 4]? = some (.int .u32 0) := by
  intro l
  induction l with
  | nil => intro j x h; simp at h
  | cons y l ih =>
    intro j x h
    have e : keyL (y :: l) = [.int .i64 (y.1 : Int), .int .i64 (y.2.1 : Int), .int .i64 y.2.2, .int .i64 0, .int .u32 0] ++ keyL l := by simp [keyL]
    cases j with
    | zero => simp at h; subst h; rw [e]; simp
    | succ j =>
      simp at h
      have h2 := ih j x h
      have hs : ∀ k, (keyL (y :: l))[(j + 1) * 5 + k]? = (keyL l)[j * 5 + k]? := fun k => by
        rw [e, List.getElem?_append_right (by simp; omega)]
        congr 1
        simp; omega
      have h0 := hs 0
      rw [Nat.add_zero, Nat.add_zero] at h0
      rw [h0, hs, hs, hs, hs]
      exact h2
/-- The first j of Owned's keys, by kinds. -/
def cutN (L : BLoc) (D : BSt) (q j : Nat) : List Nat := (oks D.nt D.o1 q L.a.n).take j
def cutP (L : BLoc) (D : BSt) (q j : Nat) : List Nat := (oks D.pt D.o2 q L.b.n).take (j - (oks D.nt D.o1 q L.a.n).length)
def cutD (L : BLoc) (D : BSt) (q j : Nat) : List Nat := (oks D.dt D.o3 q L.dn).take (j - (oks D.nt D.o1 q L.a.n).length - (oks D.pt D.o2 q L.b.n).length)
theorem take_put {l : List Nat} {k x : Nat} (h : l[k]? = some x) : l.take (k + 1) = l.take k ++ [x] := by
  have hk : k < l.length := by
    by_cases e : k < l.length
    · exact e
    · rw [List.getElem?_eq_none (by omega)] at h; cases h
  rw [List.take_succ_eq_append_getElem hk]
  rw [List.getElem?_eq_getElem hk] at h
  injection h with h
  rw [h]
theorem take_fresh {l : List Nat} {k x : Nat} (hn : l.Nodup) (h : l[k]? = some x) : x ∉ l.take k := by
  have hp := take_put h
  intro hm
  have h1 : (l.take (k + 1)).Nodup := hn.sublist (List.take_sublist _ _)
  rw [hp, List.nodup_append] at h1
  exact h1.2.2 x hm x (by simp) rfl
/-- The key at place j is a node's, a page's, or a domain's. -/
theorem items_split (L : BLoc) (D : BSt) (q j : Nat) (x : Nat × Nat × Int) (h : (items L D q)[j]? = some x) :
    (x.1 = 2 ∧ x.2.1 ∈ oks D.nt D.o1 q L.a.n ∧ x.2.2 = D.nv x.2.1 ∧ cutN L D q (j + 1) = cutN L D q j ++ [x.2.1] ∧ x.2.1 ∉ cutN L D q j ∧ cutP L D q (j + 1) = cutP L D q j ∧ cutD L D q (j + 1) = cutD L D q j) ∨
    (x.1 = 3 ∧ x.2.1 ∈ oks D.pt D.o2 q L.b.n ∧ x.2.2 = D.pv x.2.1 ∧ cutN L D q (j + 1) = cutN L D q j ∧ cutP L D q (j + 1) = cutP L D q j ++ [x.2.1] ∧ x.2.1 ∉ cutP L D q j ∧ cutD L D q (j + 1) = cutD L D q j) ∨
    (x.1 = 4 ∧ x.2.1 ∈ oks D.dt D.o3 q L.dn ∧ x.2.2 = D.dv x.2.1 ∧ cutN L D q (j + 1) = cutN L D q j ∧ cutP L D q (j + 1) = cutP L D q j ∧ cutD L D q (j + 1) = cutD L D q j ++ [x.2.1] ∧ x.2.1 ∉ cutD L D q j) := by
  have n1 := oks_nodup D.nt D.o1 q L.a.n
  have n2 := oks_nodup D.pt D.o2 q L.b.n
  have n3 := oks_nodup D.dt D.o3 q L.dn
  unfold items itK at h
  unfold cutN cutP cutD
  generalize oks D.nt D.o1 q L.a.n = A at *
  generalize oks D.pt D.o2 q L.b.n = B at *
  generalize oks D.dt D.o3 q L.dn = C at *
  rw [List.append_assoc] at h
  by_cases h1 : j < A.length
  · left
    rw [List.getElem?_append_left (by simpa using h1), List.getElem?_map] at h
    obtain ⟨y, hy, e⟩ := Option.map_eq_some_iff.1 h
    subst e
    exact ⟨rfl, List.mem_of_getElem? hy, rfl, take_put hy, take_fresh n1 hy, by rw [show j + 1 - A.length = j - A.length by omega], by rw [show j + 1 - A.length = j - A.length by omega]⟩
  · right
    rw [List.getElem?_append_right (by simp; omega), List.length_map] at h
    by_cases h2 : j - A.length < B.length
    · left
      rw [List.getElem?_append_left (by simpa using h2), List.getElem?_map] at h
      obtain ⟨y, hy, e⟩ := Option.map_eq_some_iff.1 h
      subst e
      exact ⟨rfl, List.mem_of_getElem? hy, rfl, by rw [List.take_of_length_le (by omega), List.take_of_length_le (by omega)], by rw [show j + 1 - A.length = j - A.length + 1 by omega]; exact take_put hy, take_fresh n2 hy, by rw [show j + 1 - A.length - B.length = j - A.length - B.length by omega]⟩
    · right
      rw [List.getElem?_append_right (by simp; omega), List.length_map, List.getElem?_map] at h
      obtain ⟨y, hy, e⟩ := Option.map_eq_some_iff.1 h
      subst e
      exact ⟨rfl, List.mem_of_getElem? hy, rfl, by rw [List.take_of_length_le (by omega), List.take_of_length_le (by omega)], by rw [List.take_of_length_le (by omega), List.take_of_length_le (by omega)], by rw [show j + 1 - A.length - B.length = j - A.length - B.length + 1 by omega]; exact take_put hy, take_fresh n3 hy⟩
/-- These banks' things are given back, and the first j of bank q's. -/
def gC (L : BLoc) (D : BSt) (l : List Nat) (q j : Nat) : BSt := gI D (ofL D.nt D.o1 L.a.n l ++ cutN L D q j) (ofL D.pt D.o2 L.b.n l ++ cutP L D q j) (ofL D.dt D.o3 L.dn l ++ cutD L D q j)
theorem gC_zero (L : BLoc) (D : BSt) (l : List Nat) (q : Nat) : gC L D l q 0 = gB L D l := by simp [gC, gB, cutN, cutP, cutD]
theorem gC_all (L : BLoc) (D : BSt) (l : List Nat) (q j : Nat) (hj : ownN L D q ≤ j) : gC L D l q j = gB L D (l ++ [q]) := by
  unfold ownN at hj
  unfold gC gB cutN cutP cutD
  rw [ofL_snoc, ofL_snoc, ofL_snoc, List.take_of_length_le (by omega), List.take_of_length_le (by omega), List.take_of_length_le (by omega)]
/-- Which banks are there behind an end, and their versions. -/
def thE (nb : Nat) (l : List Nat) : Nat → Bool := fun i => if i ∈ l then false else thN nb i
def vrE (l : List Nat) : Nat → Int := fun i => if i ∈ l then 1 else 0
theorem thE_nil (nb : Nat) : thE nb [] = thN nb := by funext i; simp [thE]
theorem vrE_nil : vrE [] = fun _ => 0 := by funext i; simp [vrE]
theorem thE_put (nb : Nat) (l : List Nat) (k : Nat) : upd (thE nb l) k false = thE nb (l ++ [k]) := by
  funext i; unfold upd thE; by_cases e : i = k <;> simp [e]
theorem vrE_put (l : List Nat) (k : Nat) : upd (vrE l) k 1 = vrE (l ++ [k]) := by
  funext i; unfold upd vrE; by_cases e : i = k <;> simp [e]
/-- Banks, some of which may be gone, over domains over a memory over a law's start. -/
structure BE (w0 w : World) (L : BLoc) (D : BSt) (th : Nat → Bool) (vr : Nat → Int) : Prop where
  m : MMD w0 w L D
  d : DMD w L D
  k : BkAt w L.bB L.P L.p L.B L.A L.G1 L.G2 L.G3 L.n L.c L.mb L.dP th vr D.pr D.us D.lm D.o1 D.v1 D.o2 D.v2 D.o3 D.v3
  md : L.mb < L.dB ∧ L.cb < L.dB ∧ L.N ≤ L.dB
  db : L.dP < L.bB ∧ L.dp < L.bB ∧ L.dR < L.bB ∧ L.dG < L.bB ∧ L.dQ < L.bB
  dl : L.dB ≤ L.bB
  pk : PrOk D.nb D.pr
  nn : D.nb ≤ L.n
  tt : L.bB ≤ L.T ∧ L.P < L.T ∧ L.p < L.T ∧ L.B < L.T ∧ L.A < L.T ∧ L.G1 < L.T ∧ L.G2 < L.T ∧ L.G3 < L.T
  tw : L.T ≤ w.heap.size
theorem BW.be {w0 w : World} {L : BLoc} {D : BSt} (h : BW w0 w L D) : BE w0 w L D (thN D.nb) (fun _ => 0) := ⟨h.m, h.d, h.k, h.md, h.db, h.dl, h.pk, h.nn, h.tt, h.tw⟩
section
variable {w0 w w' : World} {L : BLoc} {D : BSt} {th : Nat → Bool} {vr : Nat → Int}
theorem BE.kk (h : BE w0 w L D th vr) : BkAt w L.bB L.P L.p L.B L.A L.G1 L.G2 L.G3 L.n L.c L.mb L.dP th vr D.pr D.us D.lm D.o1 D.v1 D.o2 D.v2 D.o3 D.v3 := h.k
theorem BE.dd (h : BE w0 w L D th vr) : DsAt w L.dB L.dP L.dp L.dR L.dG L.dQ L.dn L.dc D.dt D.dv D.dW := h.d
theorem BE.mm (h : BE w0 w L D th vr) : MemAt w0 w L.mb L.S L.a L.b L.N L.cb L.z D.nt D.nv D.nW D.pt D.pv D.pW 0 (.slice none 0 0) [] := h.m
theorem BE.bel (h : BE w0 w L D th vr) : Below w0.heap.size w0 w := h.m.sv.bel
theorem BE.below (h : BE w0 w L D th vr) (hb : Below w.heap.size w w') : BE w0 w' L D th vr := ⟨MemAt.below h.m hb, DsAt.below h.d hb, BkAt.below h.k hb, h.md, h.db, h.dl, h.pk, h.nn, h.tt, Nat.le_trans h.tw hb.size⟩
/-- The arena was written. -/
theorem BE.turn {th' : Nat → Bool} {vr' : Nat → Int} (h : BE w0 w L D th vr) (hA : ArAt w' L.bB L.p L.B L.n L.c th' vr') (hg : w.grownBy w' (some L.B)) : BE w0 w' L D th' vr' ∧ UpT L.T w w' := by
  have hb : Below L.bB w w' := low_of hg h.kk.ar.lt.1 (Nat.le_of_lt (Nat.lt_of_le_of_lt h.kk.pb h.kk.pl))
  have hm := MMD.low h.m hb (by have := h.md; have := h.dl; omega) (by have := h.md; have := h.dl; omega) (by have := h.md; have := h.dl; omega)
  have hd := DMD.low h.d hb h.db
  exact ⟨⟨hm, hd, h.kk.turn hA hg, h.md, h.db, h.dl, h.pk, h.nn, h.tt, Nat.le_trans h.tw hb.size⟩, UpT.grown hg (by have := h.tt; omega)⟩
end
end Go.Proofs.YtagiabcmbihoaaaDoor
namespace Go.Proofs.YtagiabcmbihoaaaDoor
open Go.ChangeShapes Go.WideShapes Go.ChangeAt Go.RowKit
set_option linter.unusedVariables false
set_option linter.unusedSimpArgs false
/-- A row of keys, and where it lies. -/
theorem key_row {w : World} {B k : Nat} {v : Value} {xs : List Value} (h : w.ownsRow B 38 5 v k xs) : ∃ a c, v = .slice a k c ∧ (0 < k → ∃ g, a = some ⟨g, 0, none⟩ ∧ B ≤ g ∧ g < w.heap.size ∧ ∀ i, i < k * 5 → w.cell? ⟨g, i, none⟩ = xs[i]?) := by
  rcases h.2 with ⟨rfl, h0⟩ | ⟨g, cap, cur, rfl, hB, hg, rest⟩
  · exact ⟨none, 0, by rw [h0], fun h => by omega⟩
  · exact ⟨some ⟨g, 0, none⟩, cap, rfl, fun _ => ⟨g, rfl, hB, (h.lt g rfl).2, fun i hi => h.cellAt i hi⟩⟩
/-- The cells of the key at place j. -/
structure KeyJ (w : World) (g j : Nat) (y : Nat × Nat × Int) : Prop where
  c0 : w.cell? ⟨g, j * 5, none⟩ = some (.int .i64 (y.1 : Int))
  c1 : w.cell? ⟨g, j * 5 + 1, none⟩ = some (.int .i64 (y.2.1 : Int))
  c2 : w.cell? ⟨g, j * 5 + 2, none⟩ = some (.int .i64 y.2.2)
  c3 : w.cell? ⟨g, j * 5 + 3, none⟩ = some (.int .i64 0)
  c4 : w.cell? ⟨g, j * 5 + 4, none⟩ = some (.int .u32 0)
/-- Owned's row, and where it lies, for as long as it stays. -/
theorem owned_row {w : World} {B T : Nat} {L : BLoc} {D : BSt} {q : Nat} {v : Value} (h : w.ownsRow B 38 5 v (ownN L D q) (ownK L D q)) (hT : T ≤ B) : ∃ a c, v = .slice a (ownN L D q) c ∧ ∀ W, UpT T w W → ∀ j y, (items L D q)[j]? = some y → ∃ g, a = some ⟨g, 0, none⟩ ∧ KeyJ W g j y := by
  obtain ⟨a, c, hv, hr⟩ := key_row h
  refine ⟨a, c, hv, fun W hu j y hj => ?_⟩
  have hl : j < ownN L D q := by
    rw [← items_len]
    by_cases e : j < (items L D q).length
    · exact e
    · rw [List.getElem?_eq_none (by omega)] at hj; cases hj
  obtain ⟨g, hg, hB, hlt, hc⟩ := hr (by omega)
  have hk := keyL_at _ _ _ hj
  rw [keyL_items] at hk
  have hb := hu.2 g (by omega) hlt
  have cc : ∀ i, i < ownN L D q * 5 → W.cell? ⟨g, i, none⟩ = (ownK L D q)[i]? := fun i hi => (World.cell?_of_block (a := ⟨g, i, none⟩) hb).trans (hc i hi)
  exact ⟨g, hg, ⟨(cc _ (by omega)).trans hk.1, (cc _ (by omega)).trans hk.2.1, (cc _ (by omega)).trans hk.2.2.1, (cc _ (by omega)).trans hk.2.2.2.1, (cc _ (by omega)).trans hk.2.2.2.2⟩⟩
/-- Versions within bounds. -/
structure VerOk (D : BSt) : Prop where
  n : ∀ i, -1000000 ≤ D.nv i ∧ D.nv i ≤ 1000000
  p : ∀ i, -1000000 ≤ D.pv i ∧ D.pv i ≤ 1000000
  d : ∀ i, -1000000 ≤ D.dv i ∧ D.dv i ≤ 1000000
theorem gC_stepn (L : BLoc) (D : BSt) (l : List Nat) (q j k : Nat) (h1 : cutN L D q (j + 1) = cutN L D q j ++ [k]) (h2 : cutP L D q (j + 1) = cutP L D q j) (h3 : cutD L D q (j + 1) = cutD L D q j) (hn : k ∉ ofL D.nt D.o1 L.a.n l ++ cutN L D q j) :
    { gC L D l q j with nt := upd (gC L D l q j).nt k false, nv := upd (gC L D l q j).nv k (D.nv k + 1), o1 := upd (gC L D l q j).o1 k (-1), v1 := upd (gC L D l q j).v1 k 0 } = gC L D l q (j + 1) := by
  unfold gC
  rw [gI_n _ _ _ _ _ hn, h1, h2, h3, List.append_assoc]
theorem gC_stepp (L : BLoc) (D : BSt) (l : List Nat) (q j k : Nat) (h1 : cutN L D q (j + 1) = cutN L D q j) (h2 : cutP L D q (j + 1) = cutP L D q j ++ [k]) (h3 : cutD L D q (j + 1) = cutD L D q j) (hn : k ∉ ofL D.pt D.o2 L.b.n l ++ cutP L D q j) :
    { gC L D l q j with pt := upd (gC L D l q j).pt k false, pv := upd (gC L D l q j).pv k (D.pv k + 1), o2 := upd (gC L D l q j).o2 k (-1), v2 := upd (gC L D l q j).v2 k 0 } = gC L D l q (j + 1) := by
  unfold gC
  rw [gI_p _ _ _ _ _ hn, h1, h2, h3, List.append_assoc]
theorem gC_stepd (L : BLoc) (D : BSt) (l : List Nat) (q j k : Nat) (h1 : cutN L D q (j + 1) = cutN L D q j) (h2 : cutP L D q (j + 1) = cutP L D q j) (h3 : cutD L D q (j + 1) = cutD L D q j ++ [k]) (hn : k ∉ ofL D.dt D.o3 L.dn l ++ cutD L D q j) :
    { gC L D l q j with dt := upd (gC L D l q j).dt k false, dv := upd (gC L D l q j).dv k (D.dv k + 1), o3 := upd (gC L D l q j).o3 k (-1), v3 := upd (gC L D l q j).v3 k 0 } = gC L D l q (j + 1) := by
  unfold gC
  rw [gI_d _ _ _ _ _ hn, h1, h2, h3, List.append_assoc]
theorem bgb_any {w0 : World} {L : BLoc} {D : BSt} (l : List Nat) (q j : Nat) (y : Nat × Nat × Int) (hy : Hid ((items L D q)[j]? = some y)) (hql : Hid (q ∉ l)) (hv : Hid (VerOk D)) (w : World) (h : BW w0 w L (gC L D l q j)) :
    Calls Tryd.prog 44 #[.pointer (some ⟨L.P, 0, none⟩), .agg #[.int .i64 (y.1 : Int), .int .i64 (y.2.1 : Int), .int .i64 y.2.2, .int .i64 0, .int .u32 0]] w fun e w' => e = .returned (.tuple #[]) ∧ BW w0 w' L (gC L D l q (j + 1)) ∧ UpT L.T w w' := by
  obtain ⟨y0, y1, y2⟩ := y
  rcases items_split L D q j (y0, y1, y2) hy.out with ⟨e0, hm, e2, c1, cn, c2, c3⟩ | ⟨e0, hm, e2, c1, c2, cn, c3⟩ | ⟨e0, hm, e2, c1, c2, c3, cn⟩
  · have hmm := oks_mem.1 hm
    have hno : y1 ∉ ofL D.nt D.o1 L.a.n l ++ cutN L D q j := fun hh => (List.mem_append.1 hh).elim (ofL_dis hql.out _ hm) cn
    have hst := gC_stepn L D l q j y1 c1 c2 c3 hno
    have b := hv.out.n y1
    have hT : (gC L D l q j).nt y1 = true := (if_neg hno : gT D.nt _ y1 = D.nt y1).trans hmm.2.1
    have hV : (gC L D l q j).nv y1 = D.nv y1 := (if_neg hno : gV D.nv _ y1 = D.nv y1)
    have hn := h.an
    simp only at e0 e2
    subst e0
    subst e2
    refine (bgb_node y1 (D.nv y1) 0 0 (Nat.lt_of_lt_of_le hmm.1 hn) hmm.1 (Lib.hid hT) (Lib.hid hV) (by omega) (by omega) w h).mono ?_
    rintro e w' ⟨rfl, hW, hu⟩
    rw [hst] at hW
    exact ⟨rfl, hW, hu⟩
  · have hmm := oks_mem.1 hm
    have hno : y1 ∉ ofL D.pt D.o2 L.b.n l ++ cutP L D q j := fun hh => (List.mem_append.1 hh).elim (ofL_dis hql.out _ hm) cn
    have hst := gC_stepp L D l q j y1 c1 c2 c3 hno
    have b := hv.out.p y1
    have hT : (gC L D l q j).pt y1 = true := (if_neg hno : gT D.pt _ y1 = D.pt y1).trans hmm.2.1
    have hV : (gC L D l q j).pv y1 = D.pv y1 := (if_neg hno : gV D.pv _ y1 = D.pv y1)
    have hn := h.pn
    simp only at e0 e2
    subst e0
    subst e2
    refine (bgb_page y1 (D.pv y1) 0 0 (Nat.lt_of_lt_of_le hmm.1 hn) hmm.1 (Lib.hid hT) (Lib.hid hV) (by omega) (by omega) w h).mono ?_
    rintro e w' ⟨rfl, hW, hu⟩
    rw [hst] at hW
    exact ⟨rfl, hW, hu⟩
  · have hmm := oks_mem.1 hm
    have hno : y1 ∉ ofL D.dt D.o3 L.dn l ++ cutD L D q j := fun hh => (List.mem_append.1 hh).elim (ofL_dis hql.out _ hm) cn
    have hst := gC_stepd L D l q j y1 c1 c2 c3 hno
    have b := hv.out.d y1
    have hT : (gC L D l q j).dt y1 = true := (if_neg hno : gT D.dt _ y1 = D.dt y1).trans hmm.2.1
    have hV : (gC L D l q j).dv y1 = D.dv y1 := (if_neg hno : gV D.dv _ y1 = D.dv y1)
    have hn := h.dn256
    simp only at e0 e2
    subst e0
    subst e2
    refine (bgb_dom y1 (D.dv y1) 0 0 (Nat.lt_of_lt_of_le hmm.1 hn) hmm.1 (Lib.hid hT) (Lib.hid hV) (by omega) (by omega) w h).mono ?_
    rintro e w' ⟨rfl, hW, hu⟩
    rw [hst] at hW
    exact ⟨rfl, hW, hu⟩
end Go.Proofs.YtagiabcmbihoaaaDoor
namespace Go.Proofs.YtagiabcmbihoaaaDoor
open Go.ChangeShapes Go.WideShapes Go.ChangeAt Go.RowKit
set_option linter.unusedVariables false
set_option linter.unusedSimpArgs false
def zl (l : List Nat) : List Int := l.map (fun (i : Nat) => (i : Int))
theorem ivals_zl (l : List Nat) : ivals l = (zl l).map (Value.int .i64) := by unfold ivals zl; rw [List.map_map]; rfl
theorem zl_at {l : List Nat} {j x : Nat} (h : l[j]? = some x) : (zl l).getD j 0 = (x : Int) := by
  unfold zl; rw [List.getD_eq_getElem?_getD, List.getElem?_map, h]; rfl
theorem zl_len (l : List Nat) : (zl l).length = l.length := by simp [zl]
theorem inL_lt {nb : Nat} {pr : Nat → Int} {z : Int} {n i : Nat} (h : i ∈ inL nb pr z n) : i < n ∧ i < nb := by
  unfold inL at h
  simp only [List.mem_filter, List.mem_range, Bool.and_eq_true, decide_eq_true_eq] at h
  exact ⟨h.1, h.2.1⟩
theorem inL_nodup (nb : Nat) (pr : Nat → Int) (z : Int) (n : Nat) : (inL nb pr z n).Nodup := List.nodup_range.filter _
theorem at_some {α : Type} {l : List α} {j : Nat} (h : j < l.length) : ∃ x, l[j]? = some x := ⟨_, List.getElem?_eq_getElem h⟩
set_option maxRecDepth 100000 in
set_option maxHeartbeats 4000000 in
theorem bend_is {w0 : World} {L : BLoc} {D : BSt} (x : Int) (q : Nat) (hx : Hid (x = (q : Int))) (hq : q < D.nb) (ho : OwI L D) (hv : Hid (VerOk D)) (il : List Nat) (hil : Hid (inL D.nb D.pr (q : Int) L.n = il)) (K : Nat) (hK : Hid (sumN L D il = K)) (hK1 : K ≤ 1000) (hu : Hid (∀ i, i < L.n → -1000000 ≤ D.us i ∧ D.us i ≤ 1000000)) (w : World) (h : BW w0 w L D) :
    Calls Tryd.prog 16 #[.pointer (some ⟨L.P, 0, none⟩), .int .i64 x] w fun e w' => e = .returned (.tuple #[.int .i64 (K : Int), .nilIface]) ∧ BE w0 w' L { gB L D il with us := addL D.us (chL D.pr (D.pr q)) (-(K : Int)) } (thE D.nb il) (vrE il) ∧ UpT L.T w w' := by
  rw [hx.out]
  have H := Lib.hid h
  have HO := Lib.hid ho
  have hn := h.n256
  have hnn := h.nn
  have hqn : q < L.n := by omega
  have HTw := Lib.hid h.tw
  have HTT := Lib.hid h.tt
  have HPk := Lib.hid h.pk
  have f0 := h.kk.f0
  have HIl : Hid (il.Nodup ∧ ∀ i, i ∈ il → i < L.n ∧ i < D.nb) := Lib.hid (by rw [← hil.out]; exact ⟨inL_nodup _ _ _ _, fun i hi => inL_lt hi⟩)
  obtain ⟨m, hm⟩ : ∃ m, Hid (il.length = m) := ⟨_, Lib.hid rfl⟩
  have hm1 : m ≤ 256 := by have := hm.out; have := inL_len D.nb D.pr (q : Int) L.n; rw [hil.out] at this; omega
  have HTq := Lib.hid (thN_at hq)
  have HpqB : Hid (-1 ≤ D.pr q ∧ D.pr q < q) := Lib.hid (h.pk q hq)
  clear h ho hx
  go_enter Tryd.func16, Tryd.ntmps16
  go_wp2_with (first
    | (go_at_call 17; (with_reducible refine (athere_in q hqn true HTq _ H.out.kk.ar).mono ?_); rintro e w1 ⟨rfl, rfl⟩)
    | (go_at_call 43; (with_reducible refine (binner_is (q : Int) hnn HPk _ H.out.kk).mono ?_); rintro e w2 ⟨v, rfl, hr, hb⟩; rw [hil.out, ivals_zl, ← zl_len] at hr; obtain ⟨a, c, hv2⟩ := own_slice hr m (Lib.hid ((zl_len il).trans hm.out)); have HR := Lib.hid (rowT hr hv2 ((zl_len il).trans hm.out) HTw.out); subst hv2; have HB2 := Lib.hid hb; have HW2 := Lib.hid (H.out.below hb); clear hr hb f0))
  have HW0 : Hid (BW w0 w2 L (gB L D (il.take 0))) := Lib.hid (by have e : gB L D (il.take 0) = D := gI_nil D; rw [e]; exact HW2.out)
  go_loopw [6, 27] (fun gv iv wr => ∃ (j : Nat) (gz : Int), j ≤ m ∧ gv = .int .i64 gz ∧ iv = .int .i64 j ∧ Hid (gz = (sumN L D (il.take j) : Int)) ∧ BW w0 wr L (gB L D (il.take j)) ∧ UpT L.T w2 wr) (fun _ i _ => m - (intOf i).toNat)
  case atStart => exact ⟨0, 0, by omega, rfl, rfl, Lib.hid (by simp [sumN]), HW0.out, UpT.refl _ _⟩
  case round =>
    obtain ⟨j, gz, hj, rfl, rfl, HG, hW, hU⟩ := hrel
    have HW := Lib.hid hW
    have HU := Lib.hid hU
    have gz0 : 0 ≤ gz ∧ gz ≤ 1000 := by
      have h1 := HG.out
      have h2 := sumN_take L D il j
      rw [hK.out] at h2
      omega
    clear hW hU
    by_cases hlt : j < m
    · obtain ⟨y, hy⟩ := at_some (l := il) (j := j) (by rw [hm.out]; exact hlt)
      have HY := Lib.hid hy
      have hyy := HIl.out.2 y (List.mem_of_getElem? hy)
      have HNew : Hid (y ∉ il.take j) := Lib.hid (take_fresh HIl.out.1 hy)
      have HTP := Lib.hid (take_put hy)
      obtain ⟨g, hg, hTg, hgl, hc⟩ := HR.out wr HU.out j hlt
      rw [zl_at hy] at hc
      have HOw : Hid (Calls Tryd.prog 13 #[.pointer (some ⟨L.P, 0, none⟩), .int .i64 (y : Int)] wr fun e w' => ∃ v, e = .returned v ∧ Below wr.heap.size wr w' ∧ w'.ownsRow wr.heap.size 38 5 v (ownN L D y) (ownK L D y)) := Lib.hid (by
        have h := bowned_is (D := gB L D (il.take j)) y hyy.2 (gB_ow HO.out (il.take j)) wr HW.out
        rw [gB_ownN L D _ y HNew.out, gB_ownK L D _ y HNew.out] at h
        exact h)
      obtain ⟨n1, hn1⟩ : ∃ n1, Hid (ownN L D y = n1) := ⟨_, Lib.hid rfl⟩
      have HSum : Hid ((sumN L D (il.take (j + 1)) : Int) = gz + n1) := Lib.hid (by rw [HTP.out, sumN_snoc, hn1.out, HG.out]; omega)
      have hs1 : gz + n1 ≤ 1000 := by
        have h2 := sumN_take L D il (j + 1)
        rw [hK.out] at h2
        have h3 := HSum.out
        omega
      subst hg
      have k0 : (0 : Int) ≤ j := by omega
      have k1 : (j : Int) < m := by omega
      clear hy hyy
      go_wp2_with (first
        | (go_at_call 13; (with_reducible refine HOw.out.mono ?_); rintro e w4 ⟨v4, rfl, hb, hr⟩; obtain ⟨a2, c2, hv4, hkr⟩ := owned_row hr HW.out.tw; rw [hn1.out] at hv4; subst hv4; have HKR := Lib.hid hkr; have HB4 := Lib.hid hb; have HW4 : Hid (BW w0 w4 L (gC L D (il.take j) y 0)) := Lib.hid (by rw [gC_zero]; exact HW.out.below hb); clear hb hr hkr hc))
      go_loopw [6, 35] (fun gv iv wx => ∃ (k : Nat) (gy : Int), k ≤ n1 ∧ gv = .int .i64 gy ∧ iv = .int .i64 k ∧ Hid (gy = gz + k) ∧ BW w0 wx L (gC L D (il.take j) y k) ∧ UpT L.T w4 wx) (fun _ i _ => n1 - (intOf i).toNat)
      case atStart => exact ⟨0, gz, by omega, rfl, rfl, Lib.hid (by simp), HW4.out, UpT.refl _ _⟩
      case round =>
        obtain ⟨k, gy, hk, rfl, rfl, HGy, hWx, hUx⟩ := hrel
        have HWx := Lib.hid hWx
        have HUx := Lib.hid hUx
        clear hWx hUx
        have gy0 : 0 ≤ gy ∧ gy ≤ 1000 := by have := HGy.out; omega
        by_cases hlk : k < n1
        · obtain ⟨x2, hx2⟩ := at_some (l := items L D y) (j := k) (by rw [items_len, hn1.out]; exact hlk)
          obtain ⟨g2, hg2, hc⟩ := HKR.out _ HUx.out k x2 hx2
          have HX2 := Lib.hid hx2
          obtain ⟨q0, q1, q2, q3, q4⟩ := hc
          subst hg2
          have e0 : (0 : Int) ≤ k := by omega
          have e1 : (k : Int) < n1 := by omega
          have hwy : IntKind.i64.wrap (gy + 1) = gy + 1 := by rw [IntKind.wrap_i64]; omega
          have HWo : Hid (∀ o, BW w0 (World.alloc wr o) L (gC L D (il.take j) y k)) := Lib.hid (fun o => HWx.out.below ((Below.refl _ _).alloc (Nat.le_refl _) _ : Below wr.heap.size wr (wr.alloc o)))
          have HUo : Hid (∀ o, UpT L.T w4 (World.alloc wr o)) := Lib.hid (fun o => HUx.out.trans (UpT.below ((Below.refl _ _).alloc (Nat.le_refl _) _ : Below wr.heap.size wr (wr.alloc o))))
          clear hx2
          go_wp2_with (first
            | (go_at_call 44; (with_reducible refine (bgb_any (il.take j) y k x2 HX2 HNew hv _ (HWo.out _)).mono ?_); rintro e w6 ⟨rfl, hW, hu⟩; have HW6 := Lib.hid hW; have HU6 := Lib.hid ((HUo.out _).trans hu); clear hW hu q0 q1 q2 q3 q4))
          go_roundw
          case rel => exact ⟨k + 1, gy + 1, by omega, rfl, by go_num, Lib.hid (by rw [HGy.out]; push_cast; omega), HW6.out, HU6.out⟩
          case measure => simp [intOf]; omega
        · obtain rfl : k = n1 := by omega
          have HF : Hid (BW w0 wr L (gB L D (il.take (j + 1)))) := Lib.hid (by rw [HTP.out, ← gC_all L D (il.take j) y k (by rw [hn1.out]; exact Nat.le_refl _)]; exact HWx.out)
          have HUF : Hid (UpT L.T w2 wr) := Lib.hid ((HU.out.trans (UpT.below HB4.out)).trans HUx.out)
          go_wp2_with fail
          go_roundw
          case rel => exact ⟨j + 1, gy, by omega, rfl, by go_num, Lib.hid (by rw [HSum.out, HGy.out]), HF.out, HUF.out⟩
          case measure => simp [intOf]; omega
    · obtain rfl : j = m := by omega
      have HTk : Hid (il.take j = il) := Lib.hid (List.take_of_length_le (by rw [hm.out]; exact Nat.le_refl _))
      have HGK : Hid (gz = (K : Int)) := Lib.hid (by rw [HG.out, HTk.out, hK.out])
      have HWf : Hid (BW w0 wr L (gB L D il)) := Lib.hid (by have h := HW.out; rw [HTk.out] at h; exact h)
      have hwn : IntKind.i64.wrap (-gz) = -gz := by rw [IntKind.wrap_i64]; omega
      obtain ⟨z0, hz0⟩ : ∃ z0, Hid (D.pr q = z0) := ⟨_, Lib.hid rfl⟩
      have f3 := HWf.out.kk.f3
      have c0 := HWf.out.kk.ac0 q hqn
      have c0' : (gB L D il).pr q = z0 := hz0.out
      rw [c0'] at c0
      have hzb := HpqB.out
      rw [hz0.out] at hzb
      obtain ⟨lc, hlc⟩ : ∃ lc, Hid (chL D.pr z0 = lc) := ⟨_, Lib.hid rfl⟩
      have hcb := chL_bound HPk.out (by omega) D.nb z0 (by omega) (Nat.le_refl _)
      have hnd := chL_nodup HPk.out (by omega) D.nb z0 (by omega) (Nat.le_refl _)
      rw [hlc.out] at hcb hnd
      obtain ⟨mc, hmc⟩ : ∃ mc, Hid (lc.length = mc) := ⟨_, Lib.hid rfl⟩
      have hmc1 : mc ≤ 1000 := by rw [← hmc.out]; omega
      have HIn : Hid (∀ z, z ∈ lc → 0 ≤ z ∧ z < L.n) := Lib.hid (fun z hz => by have := hcb.2 z hz; omega)
      have HNd := Lib.hid hnd
      have k0 : (0 : Int) ≤ q := by omega
      have k1 : (q : Int) < L.n := by omega
      have k2 : z0 < D.nb := by omega
      clear hcb hnd c0'
      go_wp2_with (first
        | (go_at_call 35; (with_reducible refine (bchain_is z0 D.nb hzb.1 k2 hnn (Lib.hid (fun i hi => thN_at hi)) HPk _ HWf.out.kk).mono ?_); rintro e w5 ⟨v9, rfl, hr, hb⟩; rw [hlc.out] at hr; obtain ⟨a9, c9, hv9⟩ := own_slice hr mc hmc; have HRw := Lib.hid (rowT hr hv9 hmc.out HWf.out.tw); subst hv9; have HW5 := Lib.hid (HWf.out.below hb); have HU5 := Lib.hid (HU.out.trans (UpT.below hb)); clear hr hb f3 c0)
        | (go_at_call 45; (with_reducible refine (bcount_is lc mc hmc hmc1 a9 c9 HIn HNd (-gz) (by omega) hu _ HW5.out.kk (fun i hi => by obtain ⟨g, h1, h2, h3, h4⟩ := HRw.out _ (UpT.refl _ _) i hi; exact ⟨g, h1, h3, by have := HTT.out; omega, h4⟩)).mono ?_); rintro e w6 ⟨rfl, hB, hg⟩; have HBk := Lib.hid hB; have HG6 := Lib.hid hg; clear hB hg))
      have HE6 : Hid (BE w0 w6 L { gB L D il with us := addL D.us (chL D.pr (D.pr q)) (-(K : Int)) } (thE D.nb []) (vrE []) ∧ UpT L.T w2 w6) := Lib.hid (by
        have hk := HBk.out
        rw [HGK.out, ← hlc.out, ← hz0.out] at hk
        have hW := BW.bank HW5.out (D' := { gB L D il with us := addL D.us (chL D.pr (D.pr q)) (-(K : Int)) }) hk (low_of HG6.out HW5.out.kk.ac.lt.1 HW5.out.bl) rfl HW5.out.pk HW5.out.nn
        rw [thE_nil, vrE_nil]
        exact ⟨hW.be, HU5.out.trans (UpT.grown HG6.out (by have := HTT.out; omega))⟩)
      clear HBk
      obtain ⟨D6, hD6⟩ : ∃ D6, Hid ({ gB L D il with us := addL D.us (chL D.pr (D.pr q)) (-(K : Int)) } = D6) := ⟨_, Lib.hid rfl⟩
      rw [hD6.out] at HE6
      go_loopw [62] (fun iv wx => ∃ k : Nat, k ≤ j ∧ iv = .int .i64 k ∧ BE w0 wx L D6 (thE D.nb (il.take k)) (vrE (il.take k)) ∧ UpT L.T w2 wx) (fun i _ => j - (intOf i).toNat)
      case atStart => exact ⟨0, by omega, rfl, HE6.out⟩
      case round =>
        obtain ⟨k, hk, rfl, hE, hUx⟩ := hrel
        have HEx := Lib.hid hE
        have HUx := Lib.hid hUx
        clear hE hUx
        by_cases hlk : k < j
        · obtain ⟨y, hy⟩ := at_some (l := il) (j := k) (by rw [hm.out]; exact hlk)
          have hyy := HIl.out.2 y (List.mem_of_getElem? hy)
          have hfr := take_fresh HIl.out.1 hy
          have HTP := Lib.hid (take_put hy)
          obtain ⟨g, hg, hTg, hgl, hc⟩ := HR.out _ HUx.out k hlk
          rw [zl_at hy] at hc
          have HTy : Hid (thE D.nb (il.take k) y = true) := Lib.hid (by unfold thE; rw [if_neg hfr]; exact thN_at hyy.2)
          have HVy : Hid (vrE (il.take k) y = 0) := Lib.hid (if_neg hfr)
          have f0 := HEx.out.kk.f0
          subst hg
          have e0 : (0 : Int) ≤ k := by omega
          have e1 : (k : Int) < j := by omega
          have hyn := hyy.1
          clear hy hyy hfr
          go_wp2_with (first
            | (go_at_call 46; (with_reducible refine (agive_at (y : Int) _ HEx.out.kk.ar y (Lib.hid rfl) hyn HTy 0 1 HVy (by decide) (by decide) (Lib.hid (by decide))).mono ?_); rintro e w7 ⟨rfl, hA2, hg⟩; rw [thE_put, vrE_put, ← HTP.out] at hA2; have HE7 := Lib.hid (HEx.out.turn hA2 hg); clear hA2 hg f0 hc))
          go_roundw
          case rel => exact ⟨k + 1, by omega, by go_num, HE7.out.1, HUx.out.trans HE7.out.2⟩
          case measure => simp [intOf]; omega
        · obtain rfl : k = j := by omega
          go_wp2_with fail
          go_ret2
          have hF := HEx.out
          rw [HTk.out, ← hD6.out] at hF
          exact ⟨by rw [HGK.out]; rfl, hF, (UpT.below HB2.out).trans HUx.out⟩
end Go.Proofs.YtagiabcmbihoaaaDoor
namespace Go.Proofs.YtagiabcmbihoaaaDoor
open Go.ChangeShapes Go.WideShapes Go.ChangeAt Go.RowKit
set_option linter.unusedVariables false
set_option linter.unusedSimpArgs false
theorem ErrsAt.up {vs vr : Value} {w w' : World} (h : ErrsAt vs vr w) (hb : Below w.heap.size w w') : ErrsAt vs vr w' := h.below hb
def boughtN (D : BSt) (q j : Nat) (v : Int) (nW : Nat → Nat → Value) : BSt := { D with nt := upd D.nt j true, nW := nW, us := addL D.us (chL D.pr q) 1, o1 := upd D.o1 j q, v1 := upd D.v1 j v }
/-- Keys that are handed in lie apart. -/
def SrcV (L : BLoc) (w : World) (a : Option Addr) (m : Nat) (kk : Nat → Nat → Int) : Prop := ∀ W, Below w.heap.size w W → ∀ B G, (B < L.T ∨ w.heap.size ≤ B) → (G < L.T ∨ w.heap.size ≤ G) → SrcK W a m kk B G
theorem SrcV.run {L : BLoc} {w : World} {a : Option Addr} {m : Nat} {kk : Nat → Nat → Int} (h : SrcV L w a m kk) (W : World) (hb : Below w.heap.size w W) (B G : Nat) (hB : B < L.T ∨ w.heap.size ≤ B) (hG : G < L.T ∨ w.heap.size ≤ G) : SrcK W a m kk B G := h W hb B G hB hG
set_option maxRecDepth 100000 in
theorem bnodeof_ok (vs vr : Value) (a : Option Addr) (m c2 : Nat) (kk : Nat → Nat → Int) (hk : Hid (∀ i, i < m → KRight kk i)) (hx : m ≤ 16) (w : World) (hE : ErrsAt vs vr w) (hs : ∀ B G, w.heap.size ≤ B → w.heap.size ≤ G → SrcK w a m kk B G) :
    Calls Tryd.prog 27 #[.slice a m c2] w fun e w' => e = .returned .nilIface ∧ Below w.heap.size w w' := by
  have HS := Lib.hid hs
  have HE := Lib.hid hE
  clear hs hE
  go_enter Tryd.func27, Tryd.ntmps27
  go_wp2_with (first
    | (go_at_call 59; (with_reducible refine (nnew_ok 1 1 (Lib.hid rfl) (by decide) (by decide) _).mono ?_); rintro e w1 ⟨P, p, B, G, rfl, hP, hb⟩; have HP := Lib.hid hP; have HB := Lib.hid hb; have HS1 := Lib.hid ((HS.out B G hP.ar.lt.1 (hP.row.lt G rfl).1).below hb); have HE1 := Lib.hid (HE.out.up hb); clear hP hb)
    | (go_at_call 29; (with_reducible refine (nmake_at 0 vs vr a m c2 kk hx hk 0 (Lib.hid rfl) (by decide) (Lib.hid (by decide)) (Lib.hid (by intro i hi; omega)) 0 (Lib.hid rfl) _ HE1.out HP.out HS1.out).mono ?_); rintro e w2 ⟨rfl, hP2, hb2⟩; have HB2 := Lib.hid (HB.out.trans (hb2.below (b := w.heap.size) HP.out.ar.lt.1 (HP.out.row.lt G rfl).1 HB.out.size)); clear hP2 hb2))
  go_ret
  exact ⟨rfl, HB2.out⟩
set_option maxRecDepth 100000 in
set_option maxHeartbeats 1000000 in
theorem bndcl_ok {w0 : World} {L : BLoc} {D : BSt} (x y : Nat) (vs vr : Value) (a : Option Addr) (m c2 : Nat) (kk : Nat → Nat → Int) (hk : Hid (∀ i, i < m → KRight kk i)) (hx : m ≤ 16) (j : Nat) (hj : j < L.a.n) (hyes : Hid (freeB D.nt D.nv j = true)) (hno : Hid (∀ i, i < j → freeB D.nt D.nv i = false)) (v : Int) (hv : Hid (D.nv j = v)) (w : World) (h : BW w0 w L D) (hxy : L.T ≤ x ∧ x < w.heap.size ∧ L.T ≤ y ∧ y < w.heap.size) (cx : w.cell? ⟨x, 0, none⟩ = some (.pointer (some ⟨L.P, 0, none⟩))) (cy : w.cell? ⟨y, 0, none⟩ = some (.slice a m c2)) (hE : ErrsAt vs vr w) (hs : SrcK w a m kk L.a.B L.a.G) :
    Calls Tryd.prog 28 #[.pointer (some ⟨x, 0, none⟩), .pointer (some ⟨y, 0, none⟩)] w fun e w' => e = .returned (.tuple #[.int .i64 j, .int .i64 v, .nilIface]) ∧ BW w0 w' L { D with nt := upd D.nt j true, nW := freshV D.nW j (kcs kk m) } ∧ PBelow w w' L.a.B L.a.G := by
  obtain ⟨wD, hwD⟩ : ∃ wD, wD = w.drew := ⟨_, rfl⟩
  have hbD : Below w.heap.size w wD := by rw [hwD]; exact (Below.refl _ _).drew
  have HD := Lib.hid (h.below hbD)
  have HSr := Lib.hid (hs.below hbD)
  have HEd := Lib.hid (hE.up hbD)
  have HBD := Lib.hid (PBelow.of_below (B := L.a.B) (G := L.a.G) hbD)
  have HS7 : Hid (∀ W, BW w0 W L { D with nt := upd D.nt j true, nW := freshV D.nW j (kcs kk m) } → UpT L.T w W → (World.cell? W ⟨x, 0, none⟩ = some (.pointer (some ⟨L.P, 0, none⟩)) ∧ World.cell? W ⟨L.P, 1, none⟩ = some (.pointer (some ⟨L.mb, 0, none⟩)) ∧ World.cell? W ⟨L.mb, 0, none⟩ = some (.pointer (some ⟨L.S, 0, none⟩)) ∧ World.cell? W ⟨L.S, 0, none⟩ = some (.pointer (some ⟨L.a.P, 0, none⟩)) ∧ World.cell? W ⟨y, 0, none⟩ = some (.slice a m c2))) := Lib.hid (fun W hW hu => ⟨(World.cell?_of_block (a := ⟨x, 0, none⟩) (hu.2 x hxy.1 hxy.2.1)).trans cx, hW.kk.f1, hW.mm.m0, hW.mm.sv.st.s0, (World.cell?_of_block (a := ⟨y, 0, none⟩) (hu.2 y hxy.2.2.1 hxy.2.2.2)).trans cy⟩)
  have hS0 : (World.cell? wD ⟨x, 0, none⟩ = some (.pointer (some ⟨L.P, 0, none⟩)) ∧ World.cell? wD ⟨L.P, 1, none⟩ = some (.pointer (some ⟨L.mb, 0, none⟩)) ∧ World.cell? wD ⟨L.mb, 0, none⟩ = some (.pointer (some ⟨L.S, 0, none⟩)) ∧ World.cell? wD ⟨L.S, 0, none⟩ = some (.pointer (some ⟨L.a.P, 0, none⟩)) ∧ World.cell? wD ⟨y, 0, none⟩ = some (.slice a m c2)) := ⟨(hbD.cell (p := ⟨x, 0, none⟩) hxy.2.1).trans cx, HD.out.kk.f1, HD.out.mm.m0, HD.out.mm.sv.st.s0, (hbD.cell (p := ⟨y, 0, none⟩) hxy.2.2.2).trans cy⟩
  have HLT := Lib.hid h.lowT
  clear h hs cx cy hbD hE
  go_enter Tryd.func28, Tryd.ntmps28
  go_upto_region 1 with fail
  refine wp_region_noPanic ?_
  refine wp_region_held_drew (S := fun w' => (World.cell? w' ⟨x, 0, none⟩ = some (.pointer (some ⟨L.P, 0, none⟩)) ∧ World.cell? w' ⟨L.P, 1, none⟩ = some (.pointer (some ⟨L.mb, 0, none⟩)) ∧ World.cell? w' ⟨L.mb, 0, none⟩ = some (.pointer (some ⟨L.S, 0, none⟩)) ∧ World.cell? w' ⟨L.S, 0, none⟩ = some (.pointer (some ⟨L.a.P, 0, none⟩)) ∧ World.cell? w' ⟨y, 0, none⟩ = some (.slice a m c2))) (by kernel_rfl) (by rw [← hwD]; exact hS0) (fun hHeld => ?_)
  rw [← hwD] at hHeld ⊢
  clear hwD hS0
  refine wpAnyH_take (i := 0) (v := ?_) (by rfl) (by kernel_rfl) (by kernel_rfl) (by kernel_rfl) (fun _ _ _ h => h) (Or.inl ⟨by kernel_rfl, ?_⟩) (by assumption) ?_; rotate_left 1; (focus (intro w hSw; (try dsimp only at hSw); simp only [List.getElem_toArray, List.getElem_cons_succ, List.getElem_cons_zero]; all_goals go_simp; all_goals (try with_reducible rfl))); (try simp only [Act.put, List.getElem_toArray, List.getElem_cons_succ, List.getElem_cons_zero, List.setIfInBounds_toArray, List.set_cons_zero, List.set_cons_succ])
  refine wpAnyH_take (i := 1) (v := ?_) (by rfl) (by kernel_rfl) (by kernel_rfl) (by kernel_rfl) (fun _ _ _ h => h) (Or.inl ⟨by kernel_rfl, ?_⟩) (by assumption) ?_; rotate_left 1; (focus (intro w hSw; (try dsimp only at hSw); simp only [List.getElem_toArray, List.getElem_cons_succ, List.getElem_cons_zero]; all_goals go_simp; all_goals (try with_reducible rfl))); (try simp only [Act.put, List.getElem_toArray, List.getElem_cons_succ, List.getElem_cons_zero, List.setIfInBounds_toArray, List.set_cons_zero, List.set_cons_succ])
  refine wpAnyH_take (i := 2) (v := ?_) (by rfl) (by kernel_rfl) (by kernel_rfl) (by kernel_rfl) (fun _ _ _ h => h) (Or.inl ⟨by kernel_rfl, ?_⟩) (by assumption) ?_; rotate_left 1; (focus (intro w hSw; (try dsimp only at hSw); simp only [List.getElem_toArray, List.getElem_cons_succ, List.getElem_cons_zero]; all_goals go_simp; all_goals (try with_reducible rfl))); (try simp only [Act.put, List.getElem_toArray, List.getElem_cons_succ, List.getElem_cons_zero, List.setIfInBounds_toArray, List.set_cons_zero, List.set_cons_succ])
  refine wpAnyH_take (i := 3) (v := ?_) (by rfl) (by kernel_rfl) (by kernel_rfl) (by kernel_rfl) (fun _ _ _ h => h) (Or.inl ⟨by kernel_rfl, ?_⟩) (by assumption) ?_; rotate_left 1; (focus (intro w hSw; (try dsimp only at hSw); simp only [List.getElem_toArray, List.getElem_cons_succ, List.getElem_cons_zero]; all_goals go_simp; all_goals (try with_reducible rfl))); (try simp only [Act.put, List.getElem_toArray, List.getElem_cons_succ, List.getElem_cons_zero, List.setIfInBounds_toArray, List.set_cons_zero, List.set_cons_succ])
  refine wpAnyH_take (i := 4) (v := ?_) (by rfl) (by kernel_rfl) (by kernel_rfl) (by kernel_rfl) (fun _ _ _ h => h) (Or.inl ⟨by kernel_rfl, ?_⟩) (by assumption) ?_; rotate_left 1; (focus (intro w hSw; (try dsimp only at hSw); simp only [List.getElem_toArray, List.getElem_cons_succ, List.getElem_cons_zero]; all_goals go_simp; all_goals (try with_reducible rfl))); (try simp only [Act.put, List.getElem_toArray, List.getElem_cons_succ, List.getElem_cons_zero, List.setIfInBounds_toArray, List.set_cons_zero, List.set_cons_succ])
  refine wpAnyH_take (i := 5) (v := ?_) (by rfl) (by kernel_rfl) (by kernel_rfl) (by kernel_rfl) (fun _ _ _ h => h) (Or.inl ⟨by kernel_rfl, ?_⟩) (by assumption) ?_; rotate_left 1; (focus (intro w hSw; (try dsimp only at hSw); simp only [List.getElem_toArray, List.getElem_cons_succ, List.getElem_cons_zero]; all_goals go_simp; all_goals (try with_reducible rfl))); (try simp only [Act.put, List.getElem_toArray, List.getElem_cons_succ, List.getElem_cons_zero, List.setIfInBounds_toArray, List.set_cons_zero, List.set_cons_succ])
  refine wpAnyH_take (i := 6) (v := ?_) (by rfl) (by kernel_rfl) (by kernel_rfl) (by kernel_rfl) (fun _ _ _ h => h) (Or.inl ⟨by kernel_rfl, ?_⟩) (by assumption) ?_; rotate_left 1; (focus (intro w hSw; (try dsimp only at hSw); simp only [List.getElem_toArray, List.getElem_cons_succ, List.getElem_cons_zero]; all_goals go_simp; all_goals (try with_reducible rfl))); (try simp only [Act.put, List.getElem_toArray, List.getElem_cons_succ, List.getElem_cons_zero, List.setIfInBounds_toArray, List.set_cons_zero, List.set_cons_succ])
  refine wpAnyH_take (i := 7) (v := ?_) (by rfl) (by kernel_rfl) (by kernel_rfl) (by kernel_rfl) (fun _ _ _ h => h) (Or.inl ⟨by kernel_rfl, ?_⟩) (by assumption) ?_; rotate_left 1; (focus (intro w hSw; (try dsimp only at hSw); simp only [List.getElem_toArray, List.getElem_cons_succ, List.getElem_cons_zero]; all_goals go_simp; all_goals (try with_reducible rfl))); (try simp only [Act.put, List.getElem_toArray, List.getElem_cons_succ, List.getElem_cons_zero, List.setIfInBounds_toArray, List.set_cons_zero, List.set_cons_succ])
  refine wpAnyH_take (i := 8) (v := ?_) (by rfl) (by kernel_rfl) (by kernel_rfl) (by kernel_rfl) (fun _ _ _ h => h) (Or.inl ⟨by kernel_rfl, ?_⟩) (by assumption) ?_; rotate_left 1; (focus (intro w hSw; (try dsimp only at hSw); simp only [List.getElem_toArray, List.getElem_cons_succ, List.getElem_cons_zero]; all_goals go_simp; all_goals (try with_reducible rfl))); (try simp only [Act.put, List.getElem_toArray, List.getElem_cons_succ, List.getElem_cons_zero, List.setIfInBounds_toArray, List.set_cons_zero, List.set_cons_succ])
  refine wpAnyH_take (i := 9) (v := ?_) (by rfl) (by kernel_rfl) (by kernel_rfl) (by kernel_rfl) (fun _ _ _ h => h) (Or.inl ⟨by kernel_rfl, ?_⟩) (by assumption) ?_; rotate_left 1; (focus (intro w hSw; (try dsimp only at hSw); simp only [List.getElem_toArray, List.getElem_cons_succ, List.getElem_cons_zero]; all_goals go_simp; all_goals (try with_reducible rfl))); (try simp only [Act.put, List.getElem_toArray, List.getElem_cons_succ, List.getElem_cons_zero, List.setIfInBounds_toArray, List.set_cons_zero, List.set_cons_succ])
  refine wpAnyH_take (i := 10) (v := ?_) (by rfl) (by kernel_rfl) (by kernel_rfl) (by kernel_rfl) (fun _ _ _ h => h) (Or.inl ⟨by kernel_rfl, ?_⟩) (by assumption) ?_; rotate_left 1; (focus (intro w hSw; (try dsimp only at hSw); simp only [List.getElem_toArray, List.getElem_cons_succ, List.getElem_cons_zero]; all_goals go_simp; all_goals (try with_reducible rfl))); (try simp only [Act.put, List.getElem_toArray, List.getElem_cons_succ, List.getElem_cons_zero, List.setIfInBounds_toArray, List.set_cons_zero, List.set_cons_succ])
  refine wpAnyH_ready (rs := [11]) (by kernel_rfl) (by simp) ?_; refine AllReadyH.cons (by rfl) (fun K hK => ?_) AllReadyH.nil; rw [if_pos (by kernel_rfl)]; simp only [List.getElem_toArray, List.getElem_cons_succ, List.getElem_cons_zero]
  go_wp2_with (first
    | (go_at_call 29; (with_reducible refine (nmake_ok vs vr a m c2 kk hx hk j hj hyes hno v hv _ HEd.out HD.out.mm.sv.st.nd HSr.out).mono ?_); rintro e w2 ⟨rfl, hP2, hb2⟩; have HB2 := Lib.hid (HBD.out.trans hb2); have HW2 := Lib.hid (HD.out.node hP2 hb2); clear hP2 hb2))
  refine hK.out _ _ (HS7.out _ HW2.out (UpT.pb HB2.out (by have := HLT.out; omega) (by have := HLT.out; omega))) (fun hHeld => ?_)
  clear hK K
  (try simp only [Act.put, List.getElem_toArray, List.getElem_cons_succ, List.getElem_cons_zero, List.setIfInBounds_toArray, List.set_cons_zero, List.set_cons_succ])
  refine wpAnyH_take (i := 12) (v := ?_) (by rfl) (by kernel_rfl) (by kernel_rfl) (by kernel_rfl) (fun _ _ _ h => h) (Or.inl ⟨by kernel_rfl, ?_⟩) (by assumption) ?_; rotate_left 1; (focus (intro w hSw; (try dsimp only at hSw); simp only [List.getElem_toArray, List.getElem_cons_succ, List.getElem_cons_zero]; all_goals go_simp; all_goals (try with_reducible rfl))); (try simp only [Act.put, List.getElem_toArray, List.getElem_cons_succ, List.getElem_cons_zero, List.setIfInBounds_toArray, List.set_cons_zero, List.set_cons_succ])
  refine wpAnyH_take (i := 13) (v := ?_) (by rfl) (by kernel_rfl) (by kernel_rfl) (by kernel_rfl) (fun _ _ _ h => h) (Or.inl ⟨by kernel_rfl, ?_⟩) (by assumption) ?_; rotate_left 1; (focus (intro w hSw; (try dsimp only at hSw); simp only [List.getElem_toArray, List.getElem_cons_succ, List.getElem_cons_zero]; all_goals go_simp; all_goals (try with_reducible rfl))); (try simp only [Act.put, List.getElem_toArray, List.getElem_cons_succ, List.getElem_cons_zero, List.setIfInBounds_toArray, List.set_cons_zero, List.set_cons_succ])
  refine wpAnyH_take (i := 14) (v := ?_) (by rfl) (by kernel_rfl) (by kernel_rfl) (by kernel_rfl) (fun _ _ _ h => h) (Or.inl ⟨by kernel_rfl, ?_⟩) (by assumption) ?_; rotate_left 1; (focus (intro w hSw; (try dsimp only at hSw); simp only [List.getElem_toArray, List.getElem_cons_succ, List.getElem_cons_zero]; all_goals go_simp; all_goals (try with_reducible rfl))); (try simp only [Act.put, List.getElem_toArray, List.getElem_cons_succ, List.getElem_cons_zero, List.setIfInBounds_toArray, List.set_cons_zero, List.set_cons_succ])
  refine wpAnyH_take (i := 15) (v := ?_) (by rfl) (by kernel_rfl) (by kernel_rfl) (by kernel_rfl) (fun _ _ _ h => h) (Or.inl ⟨by kernel_rfl, ?_⟩) (by assumption) ?_; rotate_left 1; (focus (intro w hSw; (try dsimp only at hSw); simp only [List.getElem_toArray, List.getElem_cons_succ, List.getElem_cons_zero]; all_goals go_simp; all_goals (try with_reducible rfl))); (try simp only [Act.put, List.getElem_toArray, List.getElem_cons_succ, List.getElem_cons_zero, List.setIfInBounds_toArray, List.set_cons_zero, List.set_cons_succ])
  refine wpAnyH_take (i := 16) (v := ?_) (by rfl) (by kernel_rfl) (by kernel_rfl) (by kernel_rfl) (fun _ _ _ h => h) (Or.inl ⟨by kernel_rfl, ?_⟩) (by assumption) ?_; rotate_left 1; (focus (intro w hSw; (try dsimp only at hSw); simp only [List.getElem_toArray, List.getElem_cons_succ, List.getElem_cons_zero]; all_goals go_simp; all_goals (try with_reducible rfl))); (try simp only [Act.put, List.getElem_toArray, List.getElem_cons_succ, List.getElem_cons_zero, List.setIfInBounds_toArray, List.set_cons_zero, List.set_cons_succ])
  refine wpAnyH_take (i := 17) (v := ?_) (by rfl) (by kernel_rfl) (by kernel_rfl) (by kernel_rfl) (fun _ _ _ h => h) (Or.inl ⟨by kernel_rfl, ?_⟩) (by assumption) ?_; rotate_left 1; (focus (intro w hSw; (try dsimp only at hSw); simp only [List.getElem_toArray, List.getElem_cons_succ, List.getElem_cons_zero]; all_goals go_simp; all_goals (try with_reducible rfl))); (try simp only [Act.put, List.getElem_toArray, List.getElem_cons_succ, List.getElem_cons_zero, List.setIfInBounds_toArray, List.set_cons_zero, List.set_cons_succ])
  refine wpAnyH_done (by kernel_rfl) ?_ _
  refine NoPanic.normal ?_
  go_wp2_with fail
  go_ret3
  exact ⟨rfl, HW2.out, HB2.out⟩
set_option maxRecDepth 100000 in
set_option maxHeartbeats 2000000 in
theorem bbuyn_ok {w0 : World} {L : BLoc} {D : BSt} (q : Nat) (hq : q < D.nb) (x y j : Nat) (v : Int) (nW' : Nat → Nat → Value) (hj : j < L.a.n) (hfull : Hid ((chL D.pr q).any (fullB D.us D.lm) = false)) (hu : Hid (∀ i, i < L.n → -1000000 ≤ D.us i ∧ D.us i ≤ 1000000)) (w : World) (h : BW w0 w L D)
    (hcl : ∀ W, Below w.heap.size w W → Calls Tryd.prog 28 #[.pointer (some ⟨x, 0, none⟩), .pointer (some ⟨y, 0, none⟩)] W fun e w' => e = .returned (.tuple #[.int .i64 j, .int .i64 v, .nilIface]) ∧ BW w0 w' L { D with nt := upd D.nt j true, nW := nW' } ∧ PBelow W w' L.a.B L.a.G) :
    Calls Tryd.prog 26 #[.pointer (some ⟨L.P, 0, none⟩), .int .i64 (q : Int), .slice (some ⟨L.G1, 0, none⟩) 256 256, .nilIface, (Value.func (.func 28) #[] #[.pointer (some ⟨x, 0, none⟩), .pointer (some ⟨y, 0, none⟩)])] w fun e w' => e = .returned (.tuple #[.int .i64 j, .int .i64 v, .nilIface]) ∧ BW w0 w' L (boughtN D q j v nW') ∧ UpT L.T w w' := by
  have H := Lib.hid h
  have HCl := Lib.hid hcl
  have hn := h.n256
  have hpn := h.an
  have hnn := h.nn
  have hin := chL_in h.pk h.nn (by omega) q hq
  obtain ⟨l, hl⟩ : ∃ l, Hid (chL D.pr q = l) := ⟨_, Lib.hid rfl⟩
  rw [hl.out] at hin hfull
  obtain ⟨m, hm⟩ : ∃ m, Hid (l.length = m) := ⟨_, Lib.hid rfl⟩
  have hm1 : m ≤ 1000 := by rw [← hm.out]; omega
  have HIn := Lib.hid hin.1
  have HNd := Lib.hid hin.2.2
  have HPk := Lib.hid h.pk
  have HLT := Lib.hid h.lowT
  have HTT := Lib.hid h.tt
  have HTw := Lib.hid h.tw
  have f0 := h.kk.f0
  have k0 : (0 : Int) ≤ j := by omega
  have k1 : (j : Int) < 256 := by omega
  clear h hcl hin
  go_enter Tryd.func26, Tryd.ntmps26
  go_wp2_with (first
    | (go_at_call 17; (with_reducible refine (athere_in q (by omega) true (Lib.hid (thN_at hq)) _ H.out.kk.ar).mono ?_); rintro e w1 ⟨rfl, rfl⟩)
    | (go_at_call 35; (with_reducible refine (bchain_is (q : Int) D.nb (by omega) (by omega) hnn (Lib.hid (fun i hi => thN_at hi)) HPk _ H.out.kk).mono ?_); rintro e w1 ⟨v9, rfl, hr, hb⟩; rw [hl.out] at hr; obtain ⟨a9, c9, hv9⟩ := own_slice hr m hm; have HRw := Lib.hid (rowT hr hv9 hm.out HTw.out); subst hv9; have H1 := Lib.hid (H.out.below hb); have HB1 := Lib.hid hb; clear hr hb f0)
    | (go_at_call 57; (with_reducible refine (bcf_is l m hm hm1 a9 c9 HIn false hfull _ H1.out.kk (fun i hi => by obtain ⟨g, h1, h2, h3, h4⟩ := HRw.out w1 (UpT.refl _ _) i hi; exact ⟨g, h1, h3, h4⟩)).mono ?_); rintro e w2 ⟨rfl, hb⟩; have HB2 := Lib.hid hb; clear hb)
    | (go_at_call 28; (with_reducible refine (HCl.out _ (HB1.out.trans (HB2.out.mono HB1.out.size))).mono ?_); rintro e w3 ⟨rfl, hW, hb⟩; have H3 := Lib.hid hW; have HU3 := Lib.hid ((UpT.below HB2.out).trans (UpT.pb hb (T := L.T) (by have := HLT.out; omega) (by have := HLT.out; omega))); have ht := hW.kk.t1.ti j (by omega); obtain ⟨c0, c1⟩ := ht; have z0 := hW.kk.t1.fr (j * 2); have z1 := hW.kk.t1.fr (j * 2 + 1); have HS := Lib.hid (hW.kk.t1.title j (by omega) q v); have H4 := Lib.hid (hW.kk.ti1 HS.out.1 HS.out.2); have HU4 := Lib.hid (HU3.out.trans (UpT.grown HS.out.2 (T := L.T) (by have := HTT.out; omega))); clear hW hb)
    | (go_at_call 45; (with_reducible refine (bcount_is l m hm hm1 a9 c9 HIn HNd 1 (by decide) hu _ H4.out (fun i hi => by obtain ⟨g, h1, h2, h3, h4⟩ := HRw.out _ HU4.out i hi; exact ⟨g, h1, h3, by have := HTT.out; omega, h4⟩)).mono ?_); rintro e w5 ⟨rfl, hB, hg⟩; have H5 := Lib.hid hB; have HG5 := Lib.hid hg; clear hB hg c0 c1 z0 z1))
  go_ret3
  refine ⟨rfl, ?_, ((UpT.below HB1.out).trans HU4.out).trans (UpT.grown HG5.out (by have := HTT.out; omega))⟩
  have hlo : Below L.bB w3 w5 := by
    refine (low_of HS.out.2 H3.out.kk.t1.lt.1 H3.out.bl).trans (low_of HG5.out H3.out.kk.ac.lt.1 ?_)
    exact Nat.le_trans H3.out.bl HS.out.2.size
  refine BW.bank H3.out (D' := boughtN D q j v nW') ?_ hlo rfl HPk.out hnn
  have := H5.out
  rw [← hl.out] at this
  exact this
set_option maxRecDepth 100000 in
set_option maxHeartbeats 2000000 in
theorem bnode_ok {w0 : World} {L : BLoc} {D : BSt} (q : Nat) (hq : q < D.nb) (vs vr : Value) (a : Option Addr) (m c2 : Nat) (kk : Nat → Nat → Int) (hk : Hid (∀ i, i < m → KRight kk i)) (hx0 : m ≤ 16) (j : Nat) (hj : j < L.a.n) (hyes : Hid (freeB D.nt D.nv j = true)) (hno : Hid (∀ i, i < j → freeB D.nt D.nv i = false)) (v : Int) (hv : Hid (D.nv j = v)) (hfull : Hid ((chL D.pr q).any (fullB D.us D.lm) = false)) (hu : Hid (∀ i, i < L.n → -1000000 ≤ D.us i ∧ D.us i ≤ 1000000)) (w : World) (h : BW w0 w L D) (hE : ErrsAt vs vr w) (hs : SrcV L w a m kk) :
    Calls Tryd.prog 9 #[.pointer (some ⟨L.P, 0, none⟩), .int .i64 (q : Int), .slice a m c2] w fun e w' => e = .returned (.tuple #[.int .i64 j, .int .i64 v, .nilIface]) ∧ BW w0 w' L (boughtN D q j v (freshV D.nW j (kcs kk m))) ∧ UpT L.T w w' := by
  have H := Lib.hid h
  have HS := Lib.hid hs
  have HLT := Lib.hid h.lowT
  have HTw := Lib.hid h.tw
  have HE := Lib.hid hE
  clear h hs hE
  go_enter Tryd.func9, Tryd.ntmps9
  go_upto_region 1 with fail
  generalize hw2 : World.alloc (World.alloc w _) _ = w2
  have HB2 : Hid (Below w.heap.size w w2) := Lib.hid (by rw [← hw2]; exact ((Below.refl _ _).alloc (Nat.le_refl _) _).alloc (by simp) _)
  have HX : Hid (∀ W, UpT w.heap.size w2 W → World.cell? W ⟨w.heap.size, 0, none⟩ = some (.pointer (some ⟨L.P, 0, none⟩)) ∧ World.cell? W ⟨w.heap.size + 1, 0, none⟩ = some (.slice a m c2)) := Lib.hid (fun W hu => by
    have e1 : w2.cell? ⟨w.heap.size, 0, none⟩ = some (.pointer (some ⟨L.P, 0, none⟩)) := by rw [← hw2]; simp
    have e2 : w2.cell? ⟨w.heap.size + 1, 0, none⟩ = some (.slice a m c2) := by rw [← hw2]; simp
    have sz : w2.heap.size = w.heap.size + 1 + 1 := by rw [← hw2]; simp
    exact ⟨(World.cell?_of_block (a := ⟨w.heap.size, 0, none⟩) (hu.2 w.heap.size (by omega) (by omega))).trans e1, (World.cell?_of_block (a := ⟨w.heap.size + 1, 0, none⟩) (hu.2 (w.heap.size + 1) (by omega) (by omega))).trans e2⟩)
  have HSz : Hid (w2.heap.size = w.heap.size + 1 + 1) := Lib.hid (by rw [← hw2]; simp)
  clear hw2
  obtain ⟨wD, hwD⟩ : ∃ wD, wD = w2.drew := ⟨_, rfl⟩
  have HBD : Hid (Below w2.heap.size w2 wD) := Lib.hid (by rw [hwD]; exact (Below.refl _ _).drew)
  have HS7 : Hid (∀ W D', BW w0 W L D' → UpT w.heap.size w2 W → (World.cell? W ⟨w.heap.size, 0, none⟩ = some (.pointer (some ⟨L.P, 0, none⟩)) ∧ World.cell? W ⟨L.P, 4, none⟩ = some (.slice (some ⟨L.G1, 0, none⟩) 256 256) ∧ World.cell? W ⟨w.heap.size + 1, 0, none⟩ = some (.slice a m c2))) := Lib.hid (fun W D' hW hu => ⟨(HX.out W hu).1, hW.kk.f4, (HX.out W hu).2⟩)
  have HWD := Lib.hid ((H.out.below HB2.out).below HBD.out)
  have HEd := Lib.hid ((HE.out.up HB2.out).up HBD.out)
  have hS0 := HS7.out _ _ HWD.out (UpT.below HBD.out)
  refine wp_region_noPanic ?_
  refine wp_region_held_drew (S := fun w' => (World.cell? w' ⟨w.heap.size, 0, none⟩ = some (.pointer (some ⟨L.P, 0, none⟩)) ∧ World.cell? w' ⟨L.P, 4, none⟩ = some (.slice (some ⟨L.G1, 0, none⟩) 256 256) ∧ World.cell? w' ⟨w.heap.size + 1, 0, none⟩ = some (.slice a m c2))) (by kernel_rfl) (by rw [← hwD]; exact hS0) (fun hHeld => ?_)
  rw [← hwD] at hHeld ⊢
  clear hwD hS0
  refine wpAnyH_take (i := 0) (v := ?_) (by rfl) (by kernel_rfl) (by kernel_rfl) (by kernel_rfl) (fun _ _ _ h => h) (Or.inl ⟨by kernel_rfl, ?_⟩) (by assumption) ?_; rotate_left 1; (focus (intro w hSw; (try dsimp only at hSw); simp only [List.getElem_toArray, List.getElem_cons_succ, List.getElem_cons_zero]; all_goals go_simp; all_goals (try with_reducible rfl))); (try simp only [Act.put, List.getElem_toArray, List.getElem_cons_succ, List.getElem_cons_zero, List.setIfInBounds_toArray, List.set_cons_zero, List.set_cons_succ])
  refine wpAnyH_take (i := 1) (v := ?_) (by rfl) (by kernel_rfl) (by kernel_rfl) (by kernel_rfl) (fun _ _ _ h => h) (Or.inl ⟨by kernel_rfl, ?_⟩) (by assumption) ?_; rotate_left 1; (focus (intro w hSw; (try dsimp only at hSw); simp only [List.getElem_toArray, List.getElem_cons_succ, List.getElem_cons_zero]; all_goals go_simp; all_goals (try with_reducible rfl))); (try simp only [Act.put, List.getElem_toArray, List.getElem_cons_succ, List.getElem_cons_zero, List.setIfInBounds_toArray, List.set_cons_zero, List.set_cons_succ])
  refine wpAnyH_take (i := 2) (v := ?_) (by rfl) (by kernel_rfl) (by kernel_rfl) (by kernel_rfl) (fun _ _ _ h => h) (Or.inl ⟨by kernel_rfl, ?_⟩) (by assumption) ?_; rotate_left 1; (focus (intro w hSw; (try dsimp only at hSw); simp only [List.getElem_toArray, List.getElem_cons_succ, List.getElem_cons_zero]; all_goals go_simp; all_goals (try with_reducible rfl))); (try simp only [Act.put, List.getElem_toArray, List.getElem_cons_succ, List.getElem_cons_zero, List.setIfInBounds_toArray, List.set_cons_zero, List.set_cons_succ])
  refine wpAnyH_take (i := 3) (v := ?_) (by rfl) (by kernel_rfl) (by kernel_rfl) (by kernel_rfl) (fun _ _ _ h => h) (Or.inl ⟨by kernel_rfl, ?_⟩) (by assumption) ?_; rotate_left 1; (focus (intro w hSw; (try dsimp only at hSw); simp only [List.getElem_toArray, List.getElem_cons_succ, List.getElem_cons_zero]; all_goals go_simp; all_goals (try with_reducible rfl))); (try simp only [Act.put, List.getElem_toArray, List.getElem_cons_succ, List.getElem_cons_zero, List.setIfInBounds_toArray, List.set_cons_zero, List.set_cons_succ])
  refine wpAnyH_take (i := 4) (v := ?_) (by rfl) (by kernel_rfl) (by kernel_rfl) (by kernel_rfl) (fun _ _ _ h => h) (Or.inl ⟨by kernel_rfl, ?_⟩) (by assumption) ?_; rotate_left 1; (focus (intro w hSw; (try dsimp only at hSw); simp only [List.getElem_toArray, List.getElem_cons_succ, List.getElem_cons_zero]; all_goals go_simp; all_goals (try with_reducible rfl))); (try simp only [Act.put, List.getElem_toArray, List.getElem_cons_succ, List.getElem_cons_zero, List.setIfInBounds_toArray, List.set_cons_zero, List.set_cons_succ])
  refine wpAnyH_take (i := 5) (v := ?_) (by rfl) (by kernel_rfl) (by kernel_rfl) (by kernel_rfl) (fun _ _ _ h => h) (Or.inl ⟨by kernel_rfl, ?_⟩) (by assumption) ?_; rotate_left 1; (focus (intro w hSw; (try dsimp only at hSw); simp only [List.getElem_toArray, List.getElem_cons_succ, List.getElem_cons_zero]; all_goals go_simp; all_goals (try with_reducible rfl))); (try simp only [Act.put, List.getElem_toArray, List.getElem_cons_succ, List.getElem_cons_zero, List.setIfInBounds_toArray, List.set_cons_zero, List.set_cons_succ])
  refine wpAnyH_take (i := 6) (v := ?_) (by rfl) (by kernel_rfl) (by kernel_rfl) (by kernel_rfl) (fun _ _ _ h => h) (Or.inl ⟨by kernel_rfl, ?_⟩) (by assumption) ?_; rotate_left 1; (focus (intro w hSw; (try dsimp only at hSw); simp only [List.getElem_toArray, List.getElem_cons_succ, List.getElem_cons_zero]; all_goals go_simp; all_goals (try with_reducible rfl))); (try simp only [Act.put, List.getElem_toArray, List.getElem_cons_succ, List.getElem_cons_zero, List.setIfInBounds_toArray, List.set_cons_zero, List.set_cons_succ])
  refine wpAnyH_take (i := 8) (v := ?_) (by rfl) (by kernel_rfl) (by kernel_rfl) (by kernel_rfl) (fun _ _ _ h => h) (Or.inl ⟨by kernel_rfl, ?_⟩) (by assumption) ?_; rotate_left 1; (focus (intro w hSw; (try dsimp only at hSw); simp only [List.getElem_toArray, List.getElem_cons_succ, List.getElem_cons_zero]; all_goals go_simp; all_goals (try with_reducible rfl))); (try simp only [Act.put, List.getElem_toArray, List.getElem_cons_succ, List.getElem_cons_zero, List.setIfInBounds_toArray, List.set_cons_zero, List.set_cons_succ])
  refine wpAnyH_ready (rs := [7]) (by kernel_rfl) (by simp) ?_; refine AllReadyH.cons (by rfl) (fun K hK => ?_) AllReadyH.nil; rw [if_pos (by kernel_rfl)]; simp only [List.getElem_toArray, List.getElem_cons_succ, List.getElem_cons_zero]
  go_wp2_with (first
    | (go_at_call 27; (with_reducible refine (bnodeof_ok vs vr a m c2 kk hk hx0 _ HEd.out (fun B G hB hG => HS.out.run _ (HB2.out.trans (HBD.out.mono HB2.out.size)) B G (.inr (Nat.le_trans (Nat.le_trans HB2.out.size HBD.out.size) hB)) (.inr (Nat.le_trans (Nat.le_trans HB2.out.size HBD.out.size) hG)))).mono ?_); rintro e w3 ⟨rfl, hb⟩; have HB3 := Lib.hid (HBD.out.trans (hb.mono HBD.out.size)); have HW3 := Lib.hid (HWD.out.below hb); clear hb))
  refine hK.out _ _ (HS7.out _ _ HW3.out (UpT.below HB3.out)) (fun hHeld => ?_)
  clear hK K
  (try simp only [Act.put, List.getElem_toArray, List.getElem_cons_succ, List.getElem_cons_zero, List.setIfInBounds_toArray, List.set_cons_zero, List.set_cons_succ])
  refine wpAnyH_ready (rs := [9]) (by kernel_rfl) (by simp) ?_; refine AllReadyH.cons (by rfl) (fun K hK => ?_) AllReadyH.nil; rw [if_pos (by kernel_rfl)]; simp only [List.getElem_toArray, List.getElem_cons_succ, List.getElem_cons_zero]
  have HCl : Hid (∀ W, Below w3.heap.size w3 W → Calls Tryd.prog 28 #[.pointer (some ⟨w.heap.size, 0, none⟩), .pointer (some ⟨w.heap.size + 1, 0, none⟩)] W fun e w' => e = .returned (.tuple #[.int .i64 j, .int .i64 v, .nilIface]) ∧ BW w0 w' L { D with nt := upd D.nt j true, nW := freshV D.nW j (kcs kk m) } ∧ PBelow W w' L.a.B L.a.G) := Lib.hid (fun W hb => by
    have hbw : Below w2.heap.size w2 W := HB3.out.trans (hb.mono HB3.out.size)
    have hx := HX.out W (UpT.below hbw)
    have h1 := hbw.size
    have h2 := HSz.out
    have h3 := HTw.out
    have h4 := HLT.out
    exact bndcl_ok w.heap.size (w.heap.size + 1) vs vr a m c2 kk hk hx0 j hj hyes hno v hv W (HW3.out.below hb) (by omega) hx.1 hx.2 ((HE.out.up (HB2.out.trans (hbw.mono HB2.out.size)))) (HS.out.run W (HB2.out.trans (hbw.mono HB2.out.size)) _ _ (.inl (by omega)) (.inl (by omega))))
  go_wp2_with (first
    | (go_at_call 26; (with_reducible refine (bbuyn_ok q hq w.heap.size (w.heap.size + 1) j v _ hj hfull hu _ HW3.out HCl.out).mono ?_); rintro e w4 ⟨rfl, hW, hu4⟩; have HW4 := Lib.hid hW; have HU4 := Lib.hid hu4; clear hW hu4))
  refine hK.out _ _ (HS7.out _ _ HW4.out ((UpT.below HB3.out).trans ⟨HU4.out.1, fun k h1 h2 => HU4.out.2 k (Nat.le_trans HTw.out h1) h2⟩)) (fun hHeld => ?_)
  clear hK K
  (try simp only [Act.put, List.getElem_toArray, List.getElem_cons_succ, List.getElem_cons_zero, List.setIfInBounds_toArray, List.set_cons_zero, List.set_cons_succ])
  refine wpAnyH_take (i := 10) (v := ?_) (by rfl) (by kernel_rfl) (by kernel_rfl) (by kernel_rfl) (fun _ _ _ h => h) (Or.inl ⟨by kernel_rfl, ?_⟩) (by assumption) ?_; rotate_left 1; (focus (intro w hSw; (try dsimp only at hSw); simp only [List.getElem_toArray, List.getElem_cons_succ, List.getElem_cons_zero]; all_goals go_simp; all_goals (try with_reducible rfl))); (try simp only [Act.put, List.getElem_toArray, List.getElem_cons_succ, List.getElem_cons_zero, List.setIfInBounds_toArray, List.set_cons_zero, List.set_cons_succ])
  refine wpAnyH_take (i := 11) (v := ?_) (by rfl) (by kernel_rfl) (by kernel_rfl) (by kernel_rfl) (fun _ _ _ h => h) (Or.inl ⟨by kernel_rfl, ?_⟩) (by assumption) ?_; rotate_left 1; (focus (intro w hSw; (try dsimp only at hSw); simp only [List.getElem_toArray, List.getElem_cons_succ, List.getElem_cons_zero]; all_goals go_simp; all_goals (try with_reducible rfl))); (try simp only [Act.put, List.getElem_toArray, List.getElem_cons_succ, List.getElem_cons_zero, List.setIfInBounds_toArray, List.set_cons_zero, List.set_cons_succ])
  refine wpAnyH_take (i := 12) (v := ?_) (by rfl) (by kernel_rfl) (by kernel_rfl) (by kernel_rfl) (fun _ _ _ h => h) (Or.inl ⟨by kernel_rfl, ?_⟩) (by assumption) ?_; rotate_left 1; (focus (intro w hSw; (try dsimp only at hSw); simp only [List.getElem_toArray, List.getElem_cons_succ, List.getElem_cons_zero]; all_goals go_simp; all_goals (try with_reducible rfl))); (try simp only [Act.put, List.getElem_toArray, List.getElem_cons_succ, List.getElem_cons_zero, List.setIfInBounds_toArray, List.set_cons_zero, List.set_cons_succ])
  refine wpAnyH_take (i := 13) (v := ?_) (by rfl) (by kernel_rfl) (by kernel_rfl) (by kernel_rfl) (fun _ _ _ h => h) (Or.inl ⟨by kernel_rfl, ?_⟩) (by assumption) ?_; rotate_left 1; (focus (intro w hSw; (try dsimp only at hSw); simp only [List.getElem_toArray, List.getElem_cons_succ, List.getElem_cons_zero]; all_goals go_simp; all_goals (try with_reducible rfl))); (try simp only [Act.put, List.getElem_toArray, List.getElem_cons_succ, List.getElem_cons_zero, List.setIfInBounds_toArray, List.set_cons_zero, List.set_cons_succ])
  refine wpAnyH_take (i := 14) (v := ?_) (by rfl) (by kernel_rfl) (by kernel_rfl) (by kernel_rfl) (fun _ _ _ h => h) (Or.inl ⟨by kernel_rfl, ?_⟩) (by assumption) ?_; rotate_left 1; (focus (intro w hSw; (try dsimp only at hSw); simp only [List.getElem_toArray, List.getElem_cons_succ, List.getElem_cons_zero]; all_goals go_simp; all_goals (try with_reducible rfl))); (try simp only [Act.put, List.getElem_toArray, List.getElem_cons_succ, List.getElem_cons_zero, List.setIfInBounds_toArray, List.set_cons_zero, List.set_cons_succ])
  refine wpAnyH_take (i := 15) (v := ?_) (by rfl) (by kernel_rfl) (by kernel_rfl) (by kernel_rfl) (fun _ _ _ h => h) (Or.inl ⟨by kernel_rfl, ?_⟩) (by assumption) ?_; rotate_left 1; (focus (intro w hSw; (try dsimp only at hSw); simp only [List.getElem_toArray, List.getElem_cons_succ, List.getElem_cons_zero]; all_goals go_simp; all_goals (try with_reducible rfl))); (try simp only [Act.put, List.getElem_toArray, List.getElem_cons_succ, List.getElem_cons_zero, List.setIfInBounds_toArray, List.set_cons_zero, List.set_cons_succ])
  refine wpAnyH_done (by kernel_rfl) ?_ _
  refine NoPanic.normal ?_
  go_wp2_with fail
  go_ret3
  exact ⟨rfl, HW4.out, ((UpT.below HB2.out).trans (UpT.below HB3.out)).trans HU4.out⟩
end Go.Proofs.YtagiabcmbihoaaaDoor
namespace Go.Proofs.YtagiabcmbihoaaaDoor
open Go.ChangeShapes Go.WideShapes Go.ChangeAt Go.RowKit
set_option linter.unusedVariables false
set_option linter.unusedSimpArgs false
def boughtD (D : BSt) (q j : Nat) (v : Int) : BSt := { D with dt := upd D.dt j true, dW := updS D.dW j 0 zsD1, us := addL D.us (chL D.pr q) 1, o3 := upd D.o3 j q, v3 := upd D.v3 j v }
set_option maxRecDepth 100000 in
set_option maxHeartbeats 2000000 in
theorem bbuyd_ok {w0 : World} {L : BLoc} {D : BSt} (q : Nat) (hq : q < D.nb) (j : Nat) (v : Int) (hj : j < L.dn) (hyes : Hid (freeB D.dt D.dv j = true)) (hno : Hid (∀ i, i < j → freeB D.dt D.dv i = false)) (hv : Hid (D.dv j = v)) (hfull : Hid ((chL D.pr q).any (fullB D.us D.lm) = false)) (hu : Hid (∀ i, i < L.n → -1000000 ≤ D.us i ∧ D.us i ≤ 1000000)) (w : World) (h : BW w0 w L D) :
    Calls Tryd.prog 26 #[.pointer (some ⟨L.P, 0, none⟩), .int .i64 (q : Int), .slice (some ⟨L.G3, 0, none⟩) 256 256, .nilIface, (Value.func (.func 33) #[.pointer (some ⟨L.dP, 0, none⟩)] #[])] w fun e w' => e = .returned (.tuple #[.int .i64 j, .int .i64 v, .nilIface]) ∧ BW w0 w' L (boughtD D q j v) ∧ UpT L.T w w' := by
  have H := Lib.hid h
  have hn := h.n256
  have hpn := h.dn256
  have hnn := h.nn
  have hin := chL_in h.pk h.nn (by omega) q hq
  obtain ⟨l, hl⟩ : ∃ l, Hid (chL D.pr q = l) := ⟨_, Lib.hid rfl⟩
  rw [hl.out] at hin hfull
  obtain ⟨m, hm⟩ : ∃ m, Hid (l.length = m) := ⟨_, Lib.hid rfl⟩
  have hm1 : m ≤ 1000 := by rw [← hm.out]; omega
  have HIn := Lib.hid hin.1
  have HNd := Lib.hid hin.2.2
  have HPk := Lib.hid h.pk
  have HLT := Lib.hid h.lowT
  have HTT := Lib.hid h.tt
  have HTw := Lib.hid h.tw
  have f0 := h.kk.f0
  have k0 : (0 : Int) ≤ j := by omega
  have k1 : (j : Int) < 256 := by omega
  clear h hin
  go_enter Tryd.func26, Tryd.ntmps26
  go_wp2_with (first
    | (go_at_call 17; (with_reducible refine (athere_in q (by omega) true (Lib.hid (thN_at hq)) _ H.out.kk.ar).mono ?_); rintro e w1 ⟨rfl, rfl⟩)
    | (go_at_call 35; (with_reducible refine (bchain_is (q : Int) D.nb (by omega) (by omega) hnn (Lib.hid (fun i hi => thN_at hi)) HPk _ H.out.kk).mono ?_); rintro e w1 ⟨v9, rfl, hr, hb⟩; rw [hl.out] at hr; obtain ⟨a9, c9, hv9⟩ := own_slice hr m hm; have HRw := Lib.hid (rowT hr hv9 hm.out HTw.out); subst hv9; have H1 := Lib.hid (H.out.below hb); have HB1 := Lib.hid hb; clear hr hb f0)
    | (go_at_call 57; (with_reducible refine (bcf_is l m hm hm1 a9 c9 HIn false hfull _ H1.out.kk (fun i hi => by obtain ⟨g, h1, h2, h3, h4⟩ := HRw.out w1 (UpT.refl _ _) i hi; exact ⟨g, h1, h3, h4⟩)).mono ?_); rintro e w2 ⟨rfl, hb⟩; have HB2 := Lib.hid hb; clear hb)
    | (go_at_call 33; (with_reducible refine (dmake_ok j hj hyes hno v hv _ (H1.out.below HB2.out).dd).mono ?_); rintro e w3 ⟨rfl, hd, hb⟩; have hW := (H1.out.below HB2.out).doms hd hb; have H3 := Lib.hid hW; have HU3 := Lib.hid ((UpT.below HB2.out).trans (UpT.pb hb (T := L.T) (by have := HLT.out; omega) (by have := HLT.out; omega))); have ht := hW.kk.t3.ti j (by omega); obtain ⟨c0, c1⟩ := ht; have z0 := hW.kk.t3.fr (j * 2); have z1 := hW.kk.t3.fr (j * 2 + 1); have HS := Lib.hid (hW.kk.t3.title j (by omega) q v); have H4 := Lib.hid (hW.kk.ti3 HS.out.1 HS.out.2); have HU4 := Lib.hid (HU3.out.trans (UpT.grown HS.out.2 (T := L.T) (by have := HTT.out; omega))); clear hW hb hd)
    | (go_at_call 45; (with_reducible refine (bcount_is l m hm hm1 a9 c9 HIn HNd 1 (by decide) hu _ H4.out (fun i hi => by obtain ⟨g, h1, h2, h3, h4⟩ := HRw.out _ HU4.out i hi; exact ⟨g, h1, h3, by have := HTT.out; omega, h4⟩)).mono ?_); rintro e w5 ⟨rfl, hB, hg⟩; have H5 := Lib.hid hB; have HG5 := Lib.hid hg; clear hB hg c0 c1 z0 z1))
  go_ret3
  refine ⟨rfl, ?_, ((UpT.below HB1.out).trans HU4.out).trans (UpT.grown HG5.out (by have := HTT.out; omega))⟩
  have hlo : Below L.bB w3 w5 := by
    refine (low_of HS.out.2 H3.out.kk.t3.lt.1 H3.out.bl).trans (low_of HG5.out H3.out.kk.ac.lt.1 ?_)
    exact Nat.le_trans H3.out.bl HS.out.2.size
  refine BW.bank H3.out (D' := boughtD D q j v) ?_ hlo rfl HPk.out hnn
  have := H5.out
  rw [← hl.out] at this
  exact this
set_option maxRecDepth 100000 in
set_option maxHeartbeats 2000000 in
theorem bdomain_ok {w0 : World} {L : BLoc} {D : BSt} (q : Nat) (hq : q < D.nb) (j : Nat) (v : Int) (hj : j < L.dn) (hyes : Hid (freeB D.dt D.dv j = true)) (hno : Hid (∀ i, i < j → freeB D.dt D.dv i = false)) (hv : Hid (D.dv j = v)) (hfull : Hid ((chL D.pr q).any (fullB D.us D.lm) = false)) (hu : Hid (∀ i, i < L.n → -1000000 ≤ D.us i ∧ D.us i ≤ 1000000)) (w : World) (h : BW w0 w L D) :
    Calls Tryd.prog 11 #[.pointer (some ⟨L.P, 0, none⟩), .int .i64 (q : Int)] w fun e w' => e = .returned (.tuple #[.int .i64 j, .int .i64 v, .nilIface]) ∧ BW w0 w' L (boughtD D q j v) ∧ UpT L.T w w' := by
  obtain ⟨wD, hwD⟩ : ∃ wD, wD = w.drew := ⟨_, rfl⟩
  have HBD : Hid (Below w.heap.size w wD) := Lib.hid (by rw [hwD]; exact (Below.refl _ _).drew)
  have HD := Lib.hid (h.below HBD.out)
  have HTw := Lib.hid h.tw
  clear h
  go_enter Tryd.func11, Tryd.ntmps11
  go_upto_region 1 with fail
  refine wp_region_noPanic ?_
  refine wp_region_held_drew (S := fun w' => (World.cell? w' ⟨L.P, 6, none⟩ = some (.slice (some ⟨L.G3, 0, none⟩) 256 256) ∧ World.cell? w' ⟨L.P, 2, none⟩ = some (.pointer (some ⟨L.dP, 0, none⟩)))) (by kernel_rfl) (by rw [← hwD]; exact ⟨HD.out.kk.f6, HD.out.kk.f2⟩) (fun hHeld => ?_)
  rw [← hwD] at hHeld ⊢
  clear hwD
  refine wpAnyH_take (i := 0) (v := ?_) (by rfl) (by kernel_rfl) (by kernel_rfl) (by kernel_rfl) (fun _ _ _ h => h) (Or.inl ⟨by kernel_rfl, ?_⟩) (by assumption) ?_; rotate_left 1; (focus (intro w hSw; (try dsimp only at hSw); simp only [List.getElem_toArray, List.getElem_cons_succ, List.getElem_cons_zero]; all_goals go_simp; all_goals (try with_reducible rfl))); (try simp only [Act.put, List.getElem_toArray, List.getElem_cons_succ, List.getElem_cons_zero, List.setIfInBounds_toArray, List.set_cons_zero, List.set_cons_succ])
  refine wpAnyH_take (i := 1) (v := ?_) (by rfl) (by kernel_rfl) (by kernel_rfl) (by kernel_rfl) (fun _ _ _ h => h) (Or.inl ⟨by kernel_rfl, ?_⟩) (by assumption) ?_; rotate_left 1; (focus (intro w hSw; (try dsimp only at hSw); simp only [List.getElem_toArray, List.getElem_cons_succ, List.getElem_cons_zero]; all_goals go_simp; all_goals (try with_reducible rfl))); (try simp only [Act.put, List.getElem_toArray, List.getElem_cons_succ, List.getElem_cons_zero, List.setIfInBounds_toArray, List.set_cons_zero, List.set_cons_succ])
  refine wpAnyH_take (i := 2) (v := ?_) (by rfl) (by kernel_rfl) (by kernel_rfl) (by kernel_rfl) (fun _ _ _ h => h) (Or.inl ⟨by kernel_rfl, ?_⟩) (by assumption) ?_; rotate_left 1; (focus (intro w hSw; (try dsimp only at hSw); simp only [List.getElem_toArray, List.getElem_cons_succ, List.getElem_cons_zero]; all_goals go_simp; all_goals (try with_reducible rfl))); (try simp only [Act.put, List.getElem_toArray, List.getElem_cons_succ, List.getElem_cons_zero, List.setIfInBounds_toArray, List.set_cons_zero, List.set_cons_succ])
  refine wpAnyH_take (i := 3) (v := ?_) (by rfl) (by kernel_rfl) (by kernel_rfl) (by kernel_rfl) (fun _ _ _ h => h) (Or.inl ⟨by kernel_rfl, ?_⟩) (by assumption) ?_; rotate_left 1; (focus (intro w hSw; (try dsimp only at hSw); simp only [List.getElem_toArray, List.getElem_cons_succ, List.getElem_cons_zero]; all_goals go_simp; all_goals (try with_reducible rfl))); (try simp only [Act.put, List.getElem_toArray, List.getElem_cons_succ, List.getElem_cons_zero, List.setIfInBounds_toArray, List.set_cons_zero, List.set_cons_succ])
  refine wpAnyH_take (i := 4) (v := ?_) (by rfl) (by kernel_rfl) (by kernel_rfl) (by kernel_rfl) (fun _ _ _ h => h) (Or.inl ⟨by kernel_rfl, ?_⟩) (by assumption) ?_; rotate_left 1; (focus (intro w hSw; (try dsimp only at hSw); simp only [List.getElem_toArray, List.getElem_cons_succ, List.getElem_cons_zero]; all_goals go_simp; all_goals (try with_reducible rfl))); (try simp only [Act.put, List.getElem_toArray, List.getElem_cons_succ, List.getElem_cons_zero, List.setIfInBounds_toArray, List.set_cons_zero, List.set_cons_succ])
  refine wpAnyH_take (i := 5) (v := ?_) (by rfl) (by kernel_rfl) (by kernel_rfl) (by kernel_rfl) (fun _ _ _ h => h) (Or.inl ⟨by kernel_rfl, ?_⟩) (by assumption) ?_; rotate_left 1; (focus (intro w hSw; (try dsimp only at hSw); simp only [List.getElem_toArray, List.getElem_cons_succ, List.getElem_cons_zero]; all_goals go_simp; all_goals (try with_reducible rfl))); (try simp only [Act.put, List.getElem_toArray, List.getElem_cons_succ, List.getElem_cons_zero, List.setIfInBounds_toArray, List.set_cons_zero, List.set_cons_succ])
  refine wpAnyH_take (i := 6) (v := ?_) (by rfl) (by kernel_rfl) (by kernel_rfl) (by kernel_rfl) (fun _ _ _ h => h) (Or.inl ⟨by kernel_rfl, ?_⟩) (by assumption) ?_; rotate_left 1; (focus (intro w hSw; (try dsimp only at hSw); simp only [List.getElem_toArray, List.getElem_cons_succ, List.getElem_cons_zero]; all_goals go_simp; all_goals (try with_reducible rfl))); (try simp only [Act.put, List.getElem_toArray, List.getElem_cons_succ, List.getElem_cons_zero, List.setIfInBounds_toArray, List.set_cons_zero, List.set_cons_succ])
  refine wpAnyH_take (i := 7) (v := ?_) (by rfl) (by kernel_rfl) (by kernel_rfl) (by kernel_rfl) (fun _ _ _ h => h) (Or.inl ⟨by kernel_rfl, ?_⟩) (by assumption) ?_; rotate_left 1; (focus (intro w hSw; (try dsimp only at hSw); simp only [List.getElem_toArray, List.getElem_cons_succ, List.getElem_cons_zero]; all_goals go_simp; all_goals (try with_reducible rfl))); (try simp only [Act.put, List.getElem_toArray, List.getElem_cons_succ, List.getElem_cons_zero, List.setIfInBounds_toArray, List.set_cons_zero, List.set_cons_succ])
  refine wpAnyH_take (i := 8) (v := ?_) (by rfl) (by kernel_rfl) (by kernel_rfl) (by kernel_rfl) (fun _ _ _ h => h) (Or.inl ⟨by kernel_rfl, ?_⟩) (by assumption) ?_; rotate_left 1; (focus (intro w hSw; (try dsimp only at hSw); simp only [List.getElem_toArray, List.getElem_cons_succ, List.getElem_cons_zero]; all_goals go_simp; all_goals (try with_reducible rfl))); (try simp only [Act.put, List.getElem_toArray, List.getElem_cons_succ, List.getElem_cons_zero, List.setIfInBounds_toArray, List.set_cons_zero, List.set_cons_succ])
  refine wpAnyH_take (i := 9) (v := ?_) (by rfl) (by kernel_rfl) (by kernel_rfl) (by kernel_rfl) (fun _ _ _ h => h) (Or.inl ⟨by kernel_rfl, ?_⟩) (by assumption) ?_; rotate_left 1; (focus (intro w hSw; (try dsimp only at hSw); simp only [List.getElem_toArray, List.getElem_cons_succ, List.getElem_cons_zero]; all_goals go_simp; all_goals (try with_reducible rfl))); (try simp only [Act.put, List.getElem_toArray, List.getElem_cons_succ, List.getElem_cons_zero, List.setIfInBounds_toArray, List.set_cons_zero, List.set_cons_succ])
  refine wpAnyH_take (i := 10) (v := ?_) (by rfl) (by kernel_rfl) (by kernel_rfl) (by kernel_rfl) (fun _ _ _ h => h) (Or.inl ⟨by kernel_rfl, ?_⟩) (by assumption) ?_; rotate_left 1; (focus (intro w hSw; (try dsimp only at hSw); simp only [List.getElem_toArray, List.getElem_cons_succ, List.getElem_cons_zero]; all_goals go_simp; all_goals (try with_reducible rfl))); (try simp only [Act.put, List.getElem_toArray, List.getElem_cons_succ, List.getElem_cons_zero, List.setIfInBounds_toArray, List.set_cons_zero, List.set_cons_succ])
  refine wpAnyH_ready (rs := [11]) (by kernel_rfl) (by simp) ?_; refine AllReadyH.cons (by rfl) (fun K hK => ?_) AllReadyH.nil; rw [if_pos (by kernel_rfl)]; simp only [List.getElem_toArray, List.getElem_cons_succ, List.getElem_cons_zero]
  go_wp2_with (first
    | (go_at_call 26; (with_reducible refine (bbuyd_ok q hq j v hj hyes hno hv hfull hu _ HD.out).mono ?_); rintro e w4 ⟨rfl, hW, hu4⟩; have HW4 := Lib.hid hW; have HU4 := Lib.hid hu4; clear hW hu4))
  refine hK.out _ _ ⟨HW4.out.kk.f6, HW4.out.kk.f2⟩ (fun hHeld => ?_)
  clear hK K
  (try simp only [Act.put, List.getElem_toArray, List.getElem_cons_succ, List.getElem_cons_zero, List.setIfInBounds_toArray, List.set_cons_zero, List.set_cons_succ])
  refine wpAnyH_take (i := 12) (v := ?_) (by rfl) (by kernel_rfl) (by kernel_rfl) (by kernel_rfl) (fun _ _ _ h => h) (Or.inl ⟨by kernel_rfl, ?_⟩) (by assumption) ?_; rotate_left 1; (focus (intro w hSw; (try dsimp only at hSw); simp only [List.getElem_toArray, List.getElem_cons_succ, List.getElem_cons_zero]; all_goals go_simp; all_goals (try with_reducible rfl))); (try simp only [Act.put, List.getElem_toArray, List.getElem_cons_succ, List.getElem_cons_zero, List.setIfInBounds_toArray, List.set_cons_zero, List.set_cons_succ])
  refine wpAnyH_take (i := 13) (v := ?_) (by rfl) (by kernel_rfl) (by kernel_rfl) (by kernel_rfl) (fun _ _ _ h => h) (Or.inl ⟨by kernel_rfl, ?_⟩) (by assumption) ?_; rotate_left 1; (focus (intro w hSw; (try dsimp only at hSw); simp only [List.getElem_toArray, List.getElem_cons_succ, List.getElem_cons_zero]; all_goals go_simp; all_goals (try with_reducible rfl))); (try simp only [Act.put, List.getElem_toArray, List.getElem_cons_succ, List.getElem_cons_zero, List.setIfInBounds_toArray, List.set_cons_zero, List.set_cons_succ])
  refine wpAnyH_take (i := 14) (v := ?_) (by rfl) (by kernel_rfl) (by kernel_rfl) (by kernel_rfl) (fun _ _ _ h => h) (Or.inl ⟨by kernel_rfl, ?_⟩) (by assumption) ?_; rotate_left 1; (focus (intro w hSw; (try dsimp only at hSw); simp only [List.getElem_toArray, List.getElem_cons_succ, List.getElem_cons_zero]; all_goals go_simp; all_goals (try with_reducible rfl))); (try simp only [Act.put, List.getElem_toArray, List.getElem_cons_succ, List.getElem_cons_zero, List.setIfInBounds_toArray, List.set_cons_zero, List.set_cons_succ])
  refine wpAnyH_take (i := 15) (v := ?_) (by rfl) (by kernel_rfl) (by kernel_rfl) (by kernel_rfl) (fun _ _ _ h => h) (Or.inl ⟨by kernel_rfl, ?_⟩) (by assumption) ?_; rotate_left 1; (focus (intro w hSw; (try dsimp only at hSw); simp only [List.getElem_toArray, List.getElem_cons_succ, List.getElem_cons_zero]; all_goals go_simp; all_goals (try with_reducible rfl))); (try simp only [Act.put, List.getElem_toArray, List.getElem_cons_succ, List.getElem_cons_zero, List.setIfInBounds_toArray, List.set_cons_zero, List.set_cons_succ])
  refine wpAnyH_take (i := 16) (v := ?_) (by rfl) (by kernel_rfl) (by kernel_rfl) (by kernel_rfl) (fun _ _ _ h => h) (Or.inl ⟨by kernel_rfl, ?_⟩) (by assumption) ?_; rotate_left 1; (focus (intro w hSw; (try dsimp only at hSw); simp only [List.getElem_toArray, List.getElem_cons_succ, List.getElem_cons_zero]; all_goals go_simp; all_goals (try with_reducible rfl))); (try simp only [Act.put, List.getElem_toArray, List.getElem_cons_succ, List.getElem_cons_zero, List.setIfInBounds_toArray, List.set_cons_zero, List.set_cons_succ])
  refine wpAnyH_take (i := 17) (v := ?_) (by rfl) (by kernel_rfl) (by kernel_rfl) (by kernel_rfl) (fun _ _ _ h => h) (Or.inl ⟨by kernel_rfl, ?_⟩) (by assumption) ?_; rotate_left 1; (focus (intro w hSw; (try dsimp only at hSw); simp only [List.getElem_toArray, List.getElem_cons_succ, List.getElem_cons_zero]; all_goals go_simp; all_goals (try with_reducible rfl))); (try simp only [Act.put, List.getElem_toArray, List.getElem_cons_succ, List.getElem_cons_zero, List.setIfInBounds_toArray, List.set_cons_zero, List.set_cons_succ])
  refine wpAnyH_done (by kernel_rfl) ?_ _
  refine NoPanic.normal ?_
  go_wp2_with fail
  go_ret3
  exact ⟨rfl, HW4.out, (UpT.below HBD.out).trans HU4.out⟩
end Go.Proofs.YtagiabcmbihoaaaDoor
