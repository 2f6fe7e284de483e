/-
  BkQ, BkS, BkZ, Ea, Eb, Ec, Em, En, Eo, Ep, Eq, Si, Ke, Er, Ed, Es: what ObjectBanks reaches of them.
-/
import Derived.Test.YtncopdhhchmpeaaGreatDoorQB3
namespace Go.Proofs.YtncopdhhchmpeaaGreatDoor
open Go.ChangeShapes Go.WideShapes Go.ChangeAt Go.RowKit
set_option linter.unusedVariables false
set_option linter.unusedSimpArgs false
/-- The keys' cells of these places. -/
def okc (k0 : Int) (V : Nat → Int) (ids : List Nat) : List Value := ids.flatMap (fun (i : Nat) => [.int .i64 k0, .int .i64 (i : Int), .int .i64 (V i), .int .i64 0, .int .u32 0])
/-- The places below n that are there and whose title names q. -/
def oks (T : Nat → Bool) (o : Nat → Int) (q : Nat) (n : Nat) : List Nat := (List.range n).filter (fun i => T i && (o i == (q : Int)))
theorem oks_zero (T : Nat → Bool) (o : Nat → Int) (q : Nat) : oks T o q 0 = [] := rfl
theorem oks_yes (T : Nat → Bool) (o : Nat → Int) (q n : Nat) (h : T n = true) (h2 : o n = (q : Int)) : oks T o q (n + 1) = oks T o q n ++ [n] := by
  unfold oks; rw [List.range_succ, List.filter_append]; simp [h, h2]
theorem oks_dead (T : Nat → Bool) (o : Nat → Int) (q n : Nat) (h : T n = false) : oks T o q (n + 1) = oks T o q n := by
  unfold oks; rw [List.range_succ, List.filter_append]; simp [h]
theorem oks_no (T : Nat → Bool) (o : Nat → Int) (q n : Nat) (h2 : ¬ o n = (q : Int)) : oks T o q (n + 1) = oks T o q n := by
  unfold oks; rw [List.range_succ, List.filter_append]; simp [h2]
theorem oks_len (T : Nat → Bool) (o : Nat → Int) (q n : Nat) : (oks T o q n).length ≤ n := by
  have := List.length_filter_le (fun i => T i && (o i == (q : Int))) (List.range n)
  simpa [oks] using this
theorem okc_snoc (k0 : Int) (V : Nat → Int) (l : List Nat) (i : Nat) : okc k0 V (l ++ [i]) = okc k0 V l ++ [.int .i64 k0, .int .i64 (i : Int), .int .i64 (V i), .int .i64 0, .int .u32 0] := by
  simp [okc]
theorem ok5_at {w : World} {T : TypeId} {y0 y1 y2 y3 y4 : Int} : ∀ j u, [Value.int .i64 y0, .int .i64 y1, .int .i64 y2, .int .i64 y3, .int .u32 y4][j]? = some u → (w.alloc (.cells #[.int .i64 y0, .int .i64 y1, .int .i64 y2, .int .i64 y3, .int .u32 y4] T (0, 0))).cell? (Addr.add ⟨w.heap.size, 0, none⟩ j) = some u := by
  intro j u hj
  have e : Addr.add ⟨w.heap.size, 0, none⟩ j = ⟨w.heap.size, j, none⟩ := by unfold Addr.add; split <;> simp_all
  rw [e]
  match j, hj with
  | 0, hj | 1, hj | 2, hj | 3, hj | 4, hj => simp at hj; subst hj; simp
  | j + 5, hj => simp at hj
theorem ok5_one (y0 y1 y2 y3 y4 : Int) : ∀ u ∈ [Value.int .i64 y0, .int .i64 y1, .int .i64 y2, .int .i64 y3, .int .u32 y4], u.oneCell' = true := by
  intro u hu
  simp only [List.mem_cons, List.not_mem_nil, or_false] at hu
  rcases hu with rfl | rfl | rfl | rfl | rfl <;> rfl
/-- Owned at work: its boxes, and the row behind them. -/
structure OwS (M w : World) (P bb ib ob : Nat) (q : Nat) (v : Value) (m : Nat) (xs : List Value) : Prop where
  bel : Below M.heap.size M w
  nb : M.heap.size ≤ bb ∧ M.heap.size ≤ ib ∧ M.heap.size ≤ ob ∧ bb < ob ∧ ib < ob
  lt : ob < w.heap.size
  b0 : w.cell? ⟨bb, 0, none⟩ = some (.pointer (some ⟨P, 0, none⟩))
  i0 : w.cell? ⟨ib, 0, none⟩ = some (.int .i64 (q : Int))
  o0 : w.cell? ⟨ob, 0, none⟩ = some v
  fr : w.frozen? ⟨ob, 0, none⟩ = false
  row : w.ownsRow (ob + 1) 42 5 v m xs
section
variable {M w w' : World} {P bb ib ob q m : Nat} {v : Value} {xs : List Value}
theorem OwS.below (h : OwS M w P bb ib ob q v m xs) (hb : Below w.heap.size w w') : OwS M w' P bb ib ob q v m xs :=
  ⟨h.bel.trans (hb.mono h.bel.size), h.nb, Nat.lt_of_lt_of_le h.lt hb.size, (hb.cell (p := ⟨bb, 0, none⟩) (Nat.lt_trans h.nb.2.2.2.1 h.lt)).trans h.b0, (hb.cell (p := ⟨ib, 0, none⟩) (Nat.lt_trans h.nb.2.2.2.2 h.lt)).trans h.i0, (hb.cell (p := ⟨ob, 0, none⟩) h.lt).trans h.o0, (World.frozen?_of_block (a := ⟨ob, 0, none⟩) (hb.block ob h.lt)).trans h.fr,
    row_same' h.row (fun g hg => hb.block g (h.row.lt g hg).2)⟩
/-- Grown by one row, but not yet stored. -/
structure OwG (M w : World) (P bb ib ob : Nat) (q : Nat) (v : Value) (m : Nat) (xs : List Value) (u : Value) : Prop where
  bel : Below M.heap.size M w
  nb : M.heap.size ≤ bb ∧ M.heap.size ≤ ib ∧ M.heap.size ≤ ob ∧ bb < ob ∧ ib < ob
  lt : ob < w.heap.size
  b0 : w.cell? ⟨bb, 0, none⟩ = some (.pointer (some ⟨P, 0, none⟩))
  i0 : w.cell? ⟨ib, 0, none⟩ = some (.int .i64 (q : Int))
  o0 : w.cell? ⟨ob, 0, none⟩ = some u
  fr : w.frozen? ⟨ob, 0, none⟩ = false
  row : w.ownsRow (ob + 1) 42 5 v m xs
theorem OwS.grown {v' : Value} {m' : Nat} {xs' : List Value} (h : OwS M w P bb ib ob q v m xs) (hg : w.grownBy w' v.ownBlock) (hr : w'.ownsRow (ob + 1) 42 5 v' m' xs') : OwG M w' P bb ib ob q v' m' xs' v := by
  have hn : ∀ k, k ≤ ob → some k ≠ v.ownBlock := fun k hk e => by have := (h.row.lt k e.symm).1; omega
  have hk : ∀ k, k ≤ ob → w'.heap[k]? = w.heap[k]? := fun k hk => hg.block k (Nat.lt_of_le_of_lt hk h.lt) (hn k hk)
  have hnb := h.nb
  refine ⟨h.bel.grown hg h.bel.size (fun g hg' => by have := (h.row.lt g hg').1; omega), h.nb, Nat.lt_of_lt_of_le h.lt hg.size, ?_, ?_, ?_, ?_, hr⟩
  · exact (World.cell?_of_block (a := ⟨bb, 0, none⟩) (hk bb (by omega))).trans h.b0
  · exact (World.cell?_of_block (a := ⟨ib, 0, none⟩) (hk ib (by omega))).trans h.i0
  · exact (World.cell?_of_block (a := ⟨ob, 0, none⟩) (hk ob (by omega))).trans h.o0
  · exact (World.frozen?_of_block (a := ⟨ob, 0, none⟩) (hk ob (by omega))).trans h.fr
theorem OwG.put {u : Value} (h : OwG M w P bb ib ob q v m xs u) : OwS M (w.setCell ⟨ob, 0, none⟩ v) P bb ib ob q v m xs := by
  have hnb := h.nb
  refine ⟨h.bel.setCell (by show M.heap.size ≤ ob; omega) _, h.nb, by simpa using h.lt, ?_, ?_, ?_, ?_, ?_⟩
  · rw [World.cell?_setCell_far _ _ _ _ (by show ob ≠ bb; omega)]; exact h.b0
  · rw [World.cell?_setCell_far _ _ _ _ (by show ob ≠ ib; omega)]; exact h.i0
  · exact World.cell?_setCell_same _ _ _ h.o0
  · rw [World.frozen?_setCell]; exact h.fr
  · exact row_same' h.row (fun g hg => Below.heap_setCell _ _ _ _ (by have := (h.row.lt g hg).1; show g ≠ ob; omega))
end
theorem infoKeyO : (Tryz.prog.info? 42).map (fun i => (i.zero, i.size, i.bytes)) = some (some (.agg #[.int .i64 0, .int .i64 0, .int .i64 0, .int .i64 0, .int .u32 0]), 5, 40) := by kernel_rfl

set_option maxRecDepth 100000 in
set_option maxHeartbeats 2000000 in
theorem badd_page {w0 : World} {L : BLoc} {D : BSt} (M : World) (bb ib ob q n m0 : Nat) (xs0 : List Value) (o vv : Nat → Int) (T : Nat → Bool) (V : Nat → Int) (hn : n ≤ 256) (hm0 : m0 ≤ 1000)
    (hlive : Hid (∀ i, i < n → T i = true → liveK L D 3 (i : Int) (V i) = true))
    (htit : Hid (∀ W, BW w0 W L D → ∀ i, i < n → TiAt W L 3 L.G2 i (o i) (vv i)))
    (how : Hid (∀ i, i < n → T i = true → ∃ q' : Nat, q' < D.nb ∧ o i = (q' : Int) ∧ vv i = V i))
    (hyes : Hid (∀ i, i < n → T i = true → ∀ W, BW w0 W L D → True → Calls Tryz.prog 54 #[.pointer (some ⟨L.S, 0, none⟩), .int .i64 (i : Int)] W fun e w' => e = .returned (.agg #[.int .i64 3, .int .i64 (i : Int), .int .i64 (V i), .int .i64 0, .int .u32 0]) ∧ Below W.heap.size W w'))
    (hno : Hid (∀ i, i < n → T i = false → ∀ W, BW w0 W L D → True → Calls Tryz.prog 54 #[.pointer (some ⟨L.S, 0, none⟩), .int .i64 (i : Int)] W fun e w' => e = .returned (Value.agg #[.int .i64 0, .int .i64 0, .int .i64 0, .int .i64 0, .int .u32 0]) ∧ Below W.heap.size W w'))
    (hM : BW w0 M L D) (w : World) (v0 : Value) (h : OwS M w L.P bb ib ob q v0 m0 xs0) :
    Calls Tryz.prog 105 #[.int .i64 (n : Int), .func (.func 54) #[.pointer (some ⟨L.S, 0, none⟩)] #[], .pointer (some ⟨bb, 0, none⟩), .pointer (some ⟨ib, 0, none⟩), .pointer (some ⟨ob, 0, none⟩)] w fun e w' => e = .returned (.tuple #[]) ∧ ∃ v, OwS M w' L.P bb ib ob q v (m0 + (oks T o q n).length) (xs0 ++ okc 3 V (oks T o q n)) := by
  have H := Lib.hid h
  have HM := Lib.hid hM
  obtain ⟨i0, hi, hz0, hz1, hz2⟩ := info_parts infoKeyO
  have HI := Lib.hid (⟨hi, hz0, hz1, hz2⟩ : Tryz.prog.info? 42 = some i0 ∧ i0.zero = some (.agg #[.int .i64 0, .int .i64 0, .int .i64 0, .int .i64 0, .int .u32 0]) ∧ i0.size = 5 ∧ i0.bytes = 40)
  clear h hM hi hz0 hz1 hz2
  go_enter Tryz.func105, Tryz.ntmps105
  go_wp2_with fail
  go_loopw [10] (fun x wr => ∃ (i : Nat) (v : Value), i ≤ n ∧ x = .int .i64 (i : Int) ∧ OwS M wr L.P bb ib ob q v (m0 + (oks T o q i).length) (xs0 ++ okc 3 V (oks T o q i))) (fun x _ => n - (intOf x).toNat)
  case atStart => exact ⟨0, v0, Nat.zero_le _, rfl, by simpa [oks_zero, okc] using H.out⟩
  case round =>
    obtain ⟨i, v, hin, rfl, hO⟩ := hrel
    have HO := Lib.hid hO
    have HW := Lib.hid (HM.out.below hO.bel)
    clear hO
    have g0 : (0 : Int) ≤ i := by omega
    have hle := oks_len T o q i
    obtain ⟨m, hm⟩ : ∃ m, Hid (m = m0 + (oks T o q i).length) := ⟨_, Lib.hid rfl⟩
    obtain ⟨xs, hxs⟩ : ∃ xs, Hid (xs = xs0 ++ okc 3 V (oks T o q i)) := ⟨_, Lib.hid rfl⟩
    rw [← hm.out, ← hxs.out] at HO
    have hmb : m ≤ 1256 := by have := hm.out; omega
    clear hle
    by_cases hlt : i < n
    · by_cases hT : T i = true
      · obtain ⟨q', hq', ho', hv'⟩ := how.out i hlt hT
        have HLv := Lib.hid (hlive.out i hlt hT)
        have HC := Lib.hid (hyes.out i hlt hT)
        obtain ⟨vi, hvi⟩ : ∃ vi, Hid (V i = vi) := ⟨_, Lib.hid rfl⟩
        have HTt := Lib.hid (fun W hW => by have := htit.out W hW i hlt; rw [ho', hv', hvi.out] at this; exact this)
        rw [hvi.out] at HLv HC
        have HT := Lib.hid hT
        have Ho := Lib.hid ho'
        have i256 : i < 256 := by omega
        clear hT ho' hv'
        go_upto_region 4 with (first
          | (go_at_call 54; (with_reducible refine (HC.out _ HW.out trivial).mono ?_); rintro e w1 ⟨rfl, hb⟩; have HB1 := Lib.hid hb; clear hb))
        obtain ⟨kb, hkb⟩ : ∃ kb, kb = w1.heap.size := ⟨_, rfl⟩
        generalize hw2 : World.alloc w1 _ = w2
        have HB2 : Hid (Below w1.heap.size w1 w2) := Lib.hid (by rw [← hw2]; exact (Below.refl _ _).alloc (Nat.le_refl _) _)
        have HK2 : Hid (KeyC w2 kb 3 (i : Int) vi 0 0) := Lib.hid (by rw [← hw2, hkb]; exact KeyC.new w1 3 (i : Int) vi 0 0 _)
        rw [← hkb]
        clear hw2 hkb
        obtain ⟨wD, hwD⟩ : ∃ wD, wD = w2.drew := ⟨_, rfl⟩
        have HBD : Hid (Below wr.heap.size wr wD) := Lib.hid (by rw [hwD]; exact (HB1.out.trans (HB2.out.mono HB1.out.size)).drew)
        have HKD : Hid (KeyC wD kb 3 (i : Int) vi 0 0) := Lib.hid (by rw [hwD]; exact HK2.out.below (Below.refl _ _).drew)
        have HOD := Lib.hid (HO.out.below HBD.out)
        have HWD := Lib.hid (HW.out.below HBD.out)
        have HS : Hid (∀ W, Below wD.heap.size wD W → ((World.cell? W ⟨kb, 0, none⟩ = some (.int .i64 3) ∧ World.cell? W ⟨kb, 1, none⟩ = some (.int .i64 (i : Int)) ∧ World.cell? W ⟨kb, 2, none⟩ = some (.int .i64 vi) ∧ World.cell? W ⟨kb, 3, none⟩ = some (.int .i64 0) ∧ World.cell? W ⟨kb, 4, none⟩ = some (.int .u32 0)) ∧ World.cell? W ⟨bb, 0, none⟩ = some (.pointer (some ⟨L.P, 0, none⟩)) ∧ World.cell? W ⟨ib, 0, none⟩ = some (.int .i64 (q : Int)))) := Lib.hid (fun W hb => ⟨(HKD.out.below hb).k5, (HOD.out.below hb).b0, (HOD.out.below hb).i0⟩)
        refine wp_region_noPanic ?_
        refine wp_region_held_drew (S := fun w' => ((World.cell? w' ⟨kb, 0, none⟩ = some (.int .i64 3) ∧ World.cell? w' ⟨kb, 1, none⟩ = some (.int .i64 (i : Int)) ∧ World.cell? w' ⟨kb, 2, none⟩ = some (.int .i64 vi) ∧ World.cell? w' ⟨kb, 3, none⟩ = some (.int .i64 0) ∧ World.cell? w' ⟨kb, 4, none⟩ = some (.int .u32 0)) ∧ World.cell? w' ⟨bb, 0, none⟩ = some (.pointer (some ⟨L.P, 0, none⟩)) ∧ World.cell? w' ⟨ib, 0, none⟩ = some (.int .i64 (q : Int)))) (by kernel_rfl) (by rw [← hwD]; exact HS.out _ (Below.refl _ _)) (fun hHeld => ?_)
        rw [← hwD] at hHeld ⊢
        clear hwD
        refine wpAnyH_take (i := 0) (v := ?_) (by rfl) (by kernel_rfl) (by kernel_rfl) (by kernel_rfl) (fun _ _ _ h => h) (Or.inl ⟨by kernel_rfl, ?_⟩) (by assumption) ?_; rotate_left 1; (focus (intro w hSw; (try dsimp only at hSw); simp only [List.getElem_toArray, List.getElem_cons_succ, List.getElem_cons_zero]; all_goals go_simp; all_goals (try with_reducible rfl))); (try simp only [Act.put, List.getElem_toArray, List.getElem_cons_succ, List.getElem_cons_zero, List.setIfInBounds_toArray, List.set_cons_zero, List.set_cons_succ])
        refine wpAnyH_take (i := 1) (v := ?_) (by rfl) (by kernel_rfl) (by kernel_rfl) (by kernel_rfl) (fun _ _ _ h => h) (Or.inl ⟨by kernel_rfl, ?_⟩) (by assumption) ?_; rotate_left 1; (focus (intro w hSw; (try dsimp only at hSw); simp only [List.getElem_toArray, List.getElem_cons_succ, List.getElem_cons_zero]; all_goals go_simp; all_goals (try with_reducible rfl))); (try simp only [Act.put, List.getElem_toArray, List.getElem_cons_succ, List.getElem_cons_zero, List.setIfInBounds_toArray, List.set_cons_zero, List.set_cons_succ])
        refine wpAnyH_take (i := 2) (v := ?_) (by rfl) (by kernel_rfl) (by kernel_rfl) (by kernel_rfl) (fun _ _ _ h => h) (Or.inl ⟨by kernel_rfl, ?_⟩) (by assumption) ?_; rotate_left 1; (focus (intro w hSw; (try dsimp only at hSw); simp only [List.getElem_toArray, List.getElem_cons_succ, List.getElem_cons_zero]; all_goals go_simp; all_goals (try with_reducible rfl))); (try simp only [Act.put, List.getElem_toArray, List.getElem_cons_succ, List.getElem_cons_zero, List.setIfInBounds_toArray, List.set_cons_zero, List.set_cons_succ])
        refine wpAnyH_take (i := 3) (v := ?_) (by rfl) (by kernel_rfl) (by kernel_rfl) (by kernel_rfl) (fun _ _ _ h => h) (Or.inl ⟨by kernel_rfl, ?_⟩) (by assumption) ?_; rotate_left 1; (focus (intro w hSw; (try dsimp only at hSw); simp only [List.getElem_toArray, List.getElem_cons_succ, List.getElem_cons_zero]; all_goals go_simp; all_goals (try with_reducible rfl))); (try simp only [Act.put, List.getElem_toArray, List.getElem_cons_succ, List.getElem_cons_zero, List.setIfInBounds_toArray, List.set_cons_zero, List.set_cons_succ])
        refine wpAnyH_take (i := 4) (v := ?_) (by rfl) (by kernel_rfl) (by kernel_rfl) (by kernel_rfl) (fun _ _ _ h => h) (Or.inl ⟨by kernel_rfl, ?_⟩) (by assumption) ?_; rotate_left 1; (focus (intro w hSw; (try dsimp only at hSw); simp only [List.getElem_toArray, List.getElem_cons_succ, List.getElem_cons_zero]; all_goals go_simp; all_goals (try with_reducible rfl))); (try simp only [Act.put, List.getElem_toArray, List.getElem_cons_succ, List.getElem_cons_zero, List.setIfInBounds_toArray, List.set_cons_zero, List.set_cons_succ])
        refine wpAnyH_take (i := 5) (v := ?_) (by rfl) (by kernel_rfl) (by kernel_rfl) (by kernel_rfl) (fun _ _ _ h => h) (Or.inl ⟨by kernel_rfl, ?_⟩) (by assumption) ?_; rotate_left 1; (focus (intro w hSw; (try dsimp only at hSw); simp only [List.getElem_toArray, List.getElem_cons_succ, List.getElem_cons_zero]; all_goals go_simp; all_goals (try with_reducible rfl))); (try simp only [Act.put, List.getElem_toArray, List.getElem_cons_succ, List.getElem_cons_zero, List.setIfInBounds_toArray, List.set_cons_zero, List.set_cons_succ])
        refine wpAnyH_take (i := 7) (v := ?_) (by rfl) (by kernel_rfl) (by kernel_rfl) (by kernel_rfl) (fun _ _ _ h => h) (Or.inl ⟨by kernel_rfl, ?_⟩) (by assumption) ?_; rotate_left 1; (focus (intro w hSw; (try dsimp only at hSw); simp only [List.getElem_toArray, List.getElem_cons_succ, List.getElem_cons_zero]; all_goals go_simp; all_goals (try with_reducible rfl))); (try simp only [Act.put, List.getElem_toArray, List.getElem_cons_succ, List.getElem_cons_zero, List.setIfInBounds_toArray, List.set_cons_zero, List.set_cons_succ])
        refine wpAnyH_ready (rs := [6]) (by kernel_rfl) (by simp) ?_; refine AllReadyH.cons (by rfl) (fun K hK => ?_) AllReadyH.nil; rw [if_pos (by kernel_rfl)]; simp only [List.getElem_toArray, List.getElem_cons_succ, List.getElem_cons_zero]
        go_wp2_with (first
          | (go_at_call 79; (with_reducible refine (bowner_live 3 i vi 0 0 L.G2 q' i256 hq' HLv _ HWD.out (HTt.out _ HWD.out)).mono ?_); rintro e w3 ⟨rfl, hb⟩; have HB3 := Lib.hid hb; clear hb))
        refine hK.out _ _ (HS.out _ HB3.out) (fun hHeld => ?_)
        clear hK K
        (try simp only [Act.put, List.getElem_toArray, List.getElem_cons_succ, List.getElem_cons_zero, List.setIfInBounds_toArray, List.set_cons_zero, List.set_cons_succ])
        have HO3 := Lib.hid (HOD.out.below HB3.out)
        have HK3 := Lib.hid (HKD.out.below HB3.out)
        have r0 := HK3.out.c0
        have r1 := HK3.out.c1
        have r2 := HK3.out.c2
        have r3 := HK3.out.c3
        have r4 := HK3.out.c4
        have z0 := HO3.out.o0
        have zf := HO3.out.fr
        by_cases heq : (q' : Int) = (q : Int)
        · have te : ((q' : Int) == (q : Int)) = true := by simpa using heq
          have HE := Lib.hid heq
          clear heq
          refine wpAnyH_take (i := 8) (v := ?_) (by rfl) (by kernel_rfl) (by kernel_rfl) (by kernel_rfl) (fun _ _ _ h => h) (Or.inl ⟨by kernel_rfl, ?_⟩) (by assumption) ?_; rotate_left 1; (focus (intro w hSw; (try dsimp only at hSw); simp only [List.getElem_toArray, List.getElem_cons_succ, List.getElem_cons_zero]; all_goals go_simp; all_goals (try with_reducible rfl))); (try simp only [Act.put, List.getElem_toArray, List.getElem_cons_succ, List.getElem_cons_zero, List.setIfInBounds_toArray, List.set_cons_zero, List.set_cons_succ])
          refine wpAnyH_take (i := 9) (v := ?_) (by rfl) (by kernel_rfl) (by kernel_rfl) (by kernel_rfl) (fun _ _ _ h => h) (Or.inl ⟨by kernel_rfl, ?_⟩) (by assumption) ?_; rotate_left 1; (focus (intro w hSw; (try dsimp only at hSw); simp only [List.getElem_toArray, List.getElem_cons_succ, List.getElem_cons_zero]; all_goals go_simp; all_goals (try with_reducible rfl))); (try simp only [Act.put, List.getElem_toArray, List.getElem_cons_succ, List.getElem_cons_zero, List.setIfInBounds_toArray, List.set_cons_zero, List.set_cons_succ])
          refine wpAnyH_done (by kernel_rfl) ?_ _
          refine NoPanic.normal ?_
          clear hHeld
          obtain ⟨va, vc, hva⟩ := own_shape' HO3.out.row
          subst hva
          have HO4 := Lib.hid (fun X => HO3.out.below ((Below.refl _ _).alloc (Nat.le_refl _) _ : Below w3.heap.size w3 (w3.alloc X)))
          go_wp2_with (first
            | (at_builtin; refine wpList_append_own _ rfl _ _ 73 rfl (ob + 1) 42 i0 (.agg #[.int .i64 0, .int .i64 0, .int .i64 0, .int .i64 0, .int .u32 0]) 5 40 Tryz.underlying73 HI.out.1 HI.out.2.1 HI.out.2.2.1 HI.out.2.2.2 rfl (by decide) _ _ _ rfl (HO4.out _).row ⟨w3.heap.size, 0, none⟩ 1 1 [.int .i64 3, .int .i64 (i : Int), .int .i64 vi, .int .i64 0, .int .u32 0] rfl rfl ok5_at (ok5_one _ _ _ _ _) (by unfold maxLen; omega) (by omega) (by have := HO3.out.lt; simp; omega) ?_; intro v' w5 hown hgrow _; obtain ⟨vb, vd, hvb⟩ := own_shape' hown; subst hvb; have HG5 := Lib.hid ((HO4.out _).grown hgrow hown); clear hown hgrow; have y0 := HG5.out.o0; have yf := HG5.out.fr))
          have HS5 := Lib.hid HG5.out.put
          go_roundw
          case rel => exact ⟨i + 1, _, by omega, by go_num, by rw [oks_yes T o q i HT.out (by rw [Ho.out, HE.out]), okc_snoc, ← List.append_assoc, ← hxs.out, List.length_append, ← Nat.add_assoc, ← hm.out, hvi.out]; exact HS5.out⟩
          case measure => simp [intOf]; omega
        · have te : ((q' : Int) == (q : Int)) = false := by simpa using heq
          have HE := Lib.hid heq
          clear heq
          refine wpAnyH_take (i := 8) (v := ?_) (by rfl) (by kernel_rfl) (by kernel_rfl) (by kernel_rfl) (fun _ _ _ h => h) (Or.inl ⟨by kernel_rfl, ?_⟩) (by assumption) ?_; rotate_left 1; (focus (intro w hSw; (try dsimp only at hSw); simp only [List.getElem_toArray, List.getElem_cons_succ, List.getElem_cons_zero]; all_goals go_simp; all_goals (try with_reducible rfl))); (try simp only [Act.put, List.getElem_toArray, List.getElem_cons_succ, List.getElem_cons_zero, List.setIfInBounds_toArray, List.set_cons_zero, List.set_cons_succ])
          refine wpAnyH_take (i := 9) (v := ?_) (by rfl) (by kernel_rfl) (by kernel_rfl) (by kernel_rfl) (fun _ _ _ h => h) (Or.inl ⟨by kernel_rfl, ?_⟩) (by assumption) ?_; rotate_left 1; (focus (intro w hSw; (try dsimp only at hSw); simp only [List.getElem_toArray, List.getElem_cons_succ, List.getElem_cons_zero]; all_goals go_simp; all_goals (try with_reducible rfl))); (try simp only [Act.put, List.getElem_toArray, List.getElem_cons_succ, List.getElem_cons_zero, List.setIfInBounds_toArray, List.set_cons_zero, List.set_cons_succ])
          refine wpAnyH_done (by kernel_rfl) ?_ _
          refine NoPanic.normal ?_
          clear hHeld
          go_wp2_with fail
          go_roundw
          case rel => exact ⟨i + 1, v, by omega, by go_num, by rw [oks_no T o q i (by rw [Ho.out]; exact HE.out), ← hm.out, ← hxs.out]; exact HO3.out⟩
          case measure => simp [intOf]; omega
      · have hT' : T i = false := by simpa using hT
        have HC := Lib.hid (hno.out i hlt hT')
        have HT := Lib.hid hT'
        clear hT hT'
        go_upto_region 4 with (first
          | (go_at_call 54; (with_reducible refine (HC.out _ HW.out trivial).mono ?_); rintro e w1 ⟨rfl, hb⟩; have HB1 := Lib.hid hb; clear hb))
        obtain ⟨kb, hkb⟩ : ∃ kb, kb = w1.heap.size := ⟨_, rfl⟩
        generalize hw2 : World.alloc w1 _ = w2
        have HB2 : Hid (Below w1.heap.size w1 w2) := Lib.hid (by rw [← hw2]; exact (Below.refl _ _).alloc (Nat.le_refl _) _)
        have HK2 : Hid (KeyC w2 kb 0 0 0 0 0) := Lib.hid (by rw [← hw2, hkb]; exact KeyC.new w1 0 0 0 0 0 _)
        rw [← hkb]
        clear hw2 hkb
        obtain ⟨wD, hwD⟩ : ∃ wD, wD = w2.drew := ⟨_, rfl⟩
        have HBD : Hid (Below wr.heap.size wr wD) := Lib.hid (by rw [hwD]; exact (HB1.out.trans (HB2.out.mono HB1.out.size)).drew)
        have HKD : Hid (KeyC wD kb 0 0 0 0 0) := Lib.hid (by rw [hwD]; exact HK2.out.below (Below.refl _ _).drew)
        have HOD := Lib.hid (HO.out.below HBD.out)
        refine wp_region_noPanic ?_
        refine wp_region_held_drew (S := fun w' => World.cell? w' ⟨kb, 0, none⟩ = some (.int .i64 0)) (by kernel_rfl) (by rw [← hwD]; exact HKD.out.c0) (fun hHeld => ?_)
        rw [← hwD] at hHeld ⊢
        clear hwD
        refine wpAnyH_take (i := 0) (v := ?_) (by rfl) (by kernel_rfl) (by kernel_rfl) (by kernel_rfl) (fun _ _ _ h => h) (Or.inl ⟨by kernel_rfl, ?_⟩) (by assumption) ?_; rotate_left 1; (focus (intro w hSw; (try dsimp only at hSw); simp only [List.getElem_toArray, List.getElem_cons_succ, List.getElem_cons_zero]; all_goals go_simp; all_goals (try with_reducible rfl))); (try simp only [Act.put, List.getElem_toArray, List.getElem_cons_succ, List.getElem_cons_zero, List.setIfInBounds_toArray, List.set_cons_zero, List.set_cons_succ])
        refine wpAnyH_take (i := 1) (v := ?_) (by rfl) (by kernel_rfl) (by kernel_rfl) (by kernel_rfl) (fun _ _ _ h => h) (Or.inl ⟨by kernel_rfl, ?_⟩) (by assumption) ?_; rotate_left 1; (focus (intro w hSw; (try dsimp only at hSw); simp only [List.getElem_toArray, List.getElem_cons_succ, List.getElem_cons_zero]; all_goals go_simp; all_goals (try with_reducible rfl))); (try simp only [Act.put, List.getElem_toArray, List.getElem_cons_succ, List.getElem_cons_zero, List.setIfInBounds_toArray, List.set_cons_zero, List.set_cons_succ])
        refine wpAnyH_take (i := 2) (v := ?_) (by rfl) (by kernel_rfl) (by kernel_rfl) (by kernel_rfl) (fun _ _ _ h => h) (Or.inl ⟨by kernel_rfl, ?_⟩) (by assumption) ?_; rotate_left 1; (focus (intro w hSw; (try dsimp only at hSw); simp only [List.getElem_toArray, List.getElem_cons_succ, List.getElem_cons_zero]; all_goals go_simp; all_goals (try with_reducible rfl))); (try simp only [Act.put, List.getElem_toArray, List.getElem_cons_succ, List.getElem_cons_zero, List.setIfInBounds_toArray, List.set_cons_zero, List.set_cons_succ])
        refine wpAnyH_take (i := 3) (v := ?_) (by rfl) (by kernel_rfl) (by kernel_rfl) (by kernel_rfl) (fun _ _ _ h => h) (Or.inl ⟨by kernel_rfl, ?_⟩) (by assumption) ?_; rotate_left 1; (focus (intro w hSw; (try dsimp only at hSw); simp only [List.getElem_toArray, List.getElem_cons_succ, List.getElem_cons_zero]; all_goals go_simp; all_goals (try with_reducible rfl))); (try simp only [Act.put, List.getElem_toArray, List.getElem_cons_succ, List.getElem_cons_zero, List.setIfInBounds_toArray, List.set_cons_zero, List.set_cons_succ])
        refine wpAnyH_take (i := 4) (v := undef) (by rfl) (by kernel_rfl) (by kernel_rfl) (by kernel_rfl) (fun _ _ _ h => h) (Or.inr ⟨by kernel_rfl, rfl⟩) (by assumption) ?_; (try simp only [Act.put, List.getElem_toArray, List.getElem_cons_succ, List.getElem_cons_zero, List.setIfInBounds_toArray, List.set_cons_zero, List.set_cons_succ])
        refine wpAnyH_take (i := 5) (v := undef) (by rfl) (by kernel_rfl) (by kernel_rfl) (by kernel_rfl) (fun _ _ _ h => h) (Or.inr ⟨by kernel_rfl, rfl⟩) (by assumption) ?_; (try simp only [Act.put, List.getElem_toArray, List.getElem_cons_succ, List.getElem_cons_zero, List.setIfInBounds_toArray, List.set_cons_zero, List.set_cons_succ])
        refine wpAnyH_take (i := 6) (v := undef) (by rfl) (by kernel_rfl) (by kernel_rfl) (by kernel_rfl) (fun _ _ _ h => h) (Or.inr ⟨by kernel_rfl, rfl⟩) (by assumption) ?_; (try simp only [Act.put, List.getElem_toArray, List.getElem_cons_succ, List.getElem_cons_zero, List.setIfInBounds_toArray, List.set_cons_zero, List.set_cons_succ])
        refine wpAnyH_take (i := 7) (v := undef) (by rfl) (by kernel_rfl) (by kernel_rfl) (by kernel_rfl) (fun _ _ _ h => h) (Or.inr ⟨by kernel_rfl, rfl⟩) (by assumption) ?_; (try simp only [Act.put, List.getElem_toArray, List.getElem_cons_succ, List.getElem_cons_zero, List.setIfInBounds_toArray, List.set_cons_zero, List.set_cons_succ])
        refine wpAnyH_take (i := 8) (v := undef) (by rfl) (by kernel_rfl) (by kernel_rfl) (by kernel_rfl) (fun _ _ _ h => h) (Or.inr ⟨by kernel_rfl, rfl⟩) (by assumption) ?_; (try simp only [Act.put, List.getElem_toArray, List.getElem_cons_succ, List.getElem_cons_zero, List.setIfInBounds_toArray, List.set_cons_zero, List.set_cons_succ])
        refine wpAnyH_take (i := 9) (v := ?_) (by rfl) (by kernel_rfl) (by kernel_rfl) (by kernel_rfl) (fun _ _ _ h => h) (Or.inl ⟨by kernel_rfl, ?_⟩) (by assumption) ?_; rotate_left 1; (focus (intro w hSw; (try dsimp only at hSw); simp only [List.getElem_toArray, List.getElem_cons_succ, List.getElem_cons_zero]; all_goals go_simp; all_goals (try with_reducible rfl))); (try simp only [Act.put, List.getElem_toArray, List.getElem_cons_succ, List.getElem_cons_zero, List.setIfInBounds_toArray, List.set_cons_zero, List.set_cons_succ])
        refine wpAnyH_done (by kernel_rfl) ?_ _
        refine NoPanic.normal ?_
        clear hHeld
        go_wp2_with fail
        go_roundw
        case rel => exact ⟨i + 1, v, by omega, by go_num, by rw [oks_dead T o q i HT.out, ← hm.out, ← hxs.out]; exact HOD.out⟩
        case measure => simp [intOf]; omega
    · obtain ⟨rfl⟩ : i = n := (by omega)
      go_wp2_with fail
      go_end0
      exact ⟨rfl, v, by rw [← hm.out, ← hxs.out]; exact HO.out⟩

set_option maxRecDepth 100000 in
set_option maxHeartbeats 2000000 in
theorem badd_node {w0 : World} {L : BLoc} {D : BSt} (M : World) (bb ib ob q n m0 : Nat) (xs0 : List Value) (o vv : Nat → Int) (T : Nat → Bool) (V : Nat → Int) (hn : n ≤ 256) (hm0 : m0 ≤ 1000)
    (hlive : Hid (∀ i, i < n → T i = true → liveK L D 2 (i : Int) (V i) = true))
    (htit : Hid (∀ W, BW w0 W L D → ∀ i, i < n → TiAt W L 2 L.G1 i (o i) (vv i)))
    (how : Hid (∀ i, i < n → T i = true → ∃ q' : Nat, q' < D.nb ∧ o i = (q' : Int) ∧ vv i = V i))
    (hyes : Hid (∀ i, i < n → T i = true → ∀ W, BW w0 W L D → (W.cell? ⟨bb, 0, none⟩ = some (.pointer (some ⟨L.P, 0, none⟩)) ∧ bb < W.heap.size) → Calls Tryz.prog 107 #[.int .i64 (i : Int), .pointer (some ⟨bb, 0, none⟩)] W fun e w' => e = .returned (.agg #[.int .i64 2, .int .i64 (i : Int), .int .i64 (V i), .int .i64 0, .int .u32 0]) ∧ Below W.heap.size W w'))
    (hno : Hid (∀ i, i < n → T i = false → ∀ W, BW w0 W L D → (W.cell? ⟨bb, 0, none⟩ = some (.pointer (some ⟨L.P, 0, none⟩)) ∧ bb < W.heap.size) → Calls Tryz.prog 107 #[.int .i64 (i : Int), .pointer (some ⟨bb, 0, none⟩)] W fun e w' => e = .returned (Value.agg #[.int .i64 0, .int .i64 0, .int .i64 0, .int .i64 0, .int .u32 0]) ∧ Below W.heap.size W w'))
    (hM : BW w0 M L D) (w : World) (v0 : Value) (h : OwS M w L.P bb ib ob q v0 m0 xs0) :
    Calls Tryz.prog 105 #[.int .i64 (n : Int), .func (.func 107) #[] #[.pointer (some ⟨bb, 0, none⟩)], .pointer (some ⟨bb, 0, none⟩), .pointer (some ⟨ib, 0, none⟩), .pointer (some ⟨ob, 0, none⟩)] w fun e w' => e = .returned (.tuple #[]) ∧ ∃ v, OwS M w' L.P bb ib ob q v (m0 + (oks T o q n).length) (xs0 ++ okc 2 V (oks T o q n)) := by
  have H := Lib.hid h
  have HM := Lib.hid hM
  obtain ⟨i0, hi, hz0, hz1, hz2⟩ := info_parts infoKeyO
  have HI := Lib.hid (⟨hi, hz0, hz1, hz2⟩ : Tryz.prog.info? 42 = some i0 ∧ i0.zero = some (.agg #[.int .i64 0, .int .i64 0, .int .i64 0, .int .i64 0, .int .u32 0]) ∧ i0.size = 5 ∧ i0.bytes = 40)
  clear h hM hi hz0 hz1 hz2
  go_enter Tryz.func105, Tryz.ntmps105
  go_wp2_with fail
  go_loopw [10] (fun x wr => ∃ (i : Nat) (v : Value), i ≤ n ∧ x = .int .i64 (i : Int) ∧ OwS M wr L.P bb ib ob q v (m0 + (oks T o q i).length) (xs0 ++ okc 2 V (oks T o q i))) (fun x _ => n - (intOf x).toNat)
  case atStart => exact ⟨0, v0, Nat.zero_le _, rfl, by simpa [oks_zero, okc] using H.out⟩
  case round =>
    obtain ⟨i, v, hin, rfl, hO⟩ := hrel
    have HO := Lib.hid hO
    have HW := Lib.hid (HM.out.below hO.bel)
    clear hO
    have g0 : (0 : Int) ≤ i := by omega
    have hle := oks_len T o q i
    obtain ⟨m, hm⟩ : ∃ m, Hid (m = m0 + (oks T o q i).length) := ⟨_, Lib.hid rfl⟩
    obtain ⟨xs, hxs⟩ : ∃ xs, Hid (xs = xs0 ++ okc 2 V (oks T o q i)) := ⟨_, Lib.hid rfl⟩
    rw [← hm.out, ← hxs.out] at HO
    have hmb : m ≤ 1256 := by have := hm.out; omega
    clear hle
    by_cases hlt : i < n
    · by_cases hT : T i = true
      · obtain ⟨q', hq', ho', hv'⟩ := how.out i hlt hT
        have HLv := Lib.hid (hlive.out i hlt hT)
        have HC := Lib.hid (hyes.out i hlt hT)
        obtain ⟨vi, hvi⟩ : ∃ vi, Hid (V i = vi) := ⟨_, Lib.hid rfl⟩
        have HTt := Lib.hid (fun W hW => by have := htit.out W hW i hlt; rw [ho', hv', hvi.out] at this; exact this)
        rw [hvi.out] at HLv HC
        have HT := Lib.hid hT
        have Ho := Lib.hid ho'
        have i256 : i < 256 := by omega
        clear hT ho' hv'
        go_upto_region 4 with (first
          | (go_at_call 107; (with_reducible refine (HC.out _ HW.out ⟨HO.out.b0, Nat.lt_trans HO.out.nb.2.2.2.1 HO.out.lt⟩).mono ?_); rintro e w1 ⟨rfl, hb⟩; have HB1 := Lib.hid hb; clear hb))
        obtain ⟨kb, hkb⟩ : ∃ kb, kb = w1.heap.size := ⟨_, rfl⟩
        generalize hw2 : World.alloc w1 _ = w2
        have HB2 : Hid (Below w1.heap.size w1 w2) := Lib.hid (by rw [← hw2]; exact (Below.refl _ _).alloc (Nat.le_refl _) _)
        have HK2 : Hid (KeyC w2 kb 2 (i : Int) vi 0 0) := Lib.hid (by rw [← hw2, hkb]; exact KeyC.new w1 2 (i : Int) vi 0 0 _)
        rw [← hkb]
        clear hw2 hkb
        obtain ⟨wD, hwD⟩ : ∃ wD, wD = w2.drew := ⟨_, rfl⟩
        have HBD : Hid (Below wr.heap.size wr wD) := Lib.hid (by rw [hwD]; exact (HB1.out.trans (HB2.out.mono HB1.out.size)).drew)
        have HKD : Hid (KeyC wD kb 2 (i : Int) vi 0 0) := Lib.hid (by rw [hwD]; exact HK2.out.below (Below.refl _ _).drew)
        have HOD := Lib.hid (HO.out.below HBD.out)
        have HWD := Lib.hid (HW.out.below HBD.out)
        have HS : Hid (∀ W, Below wD.heap.size wD W → ((World.cell? W ⟨kb, 0, none⟩ = some (.int .i64 2) ∧ World.cell? W ⟨kb, 1, none⟩ = some (.int .i64 (i : Int)) ∧ World.cell? W ⟨kb, 2, none⟩ = some (.int .i64 vi) ∧ World.cell? W ⟨kb, 3, none⟩ = some (.int .i64 0) ∧ World.cell? W ⟨kb, 4, none⟩ = some (.int .u32 0)) ∧ World.cell? W ⟨bb, 0, none⟩ = some (.pointer (some ⟨L.P, 0, none⟩)) ∧ World.cell? W ⟨ib, 0, none⟩ = some (.int .i64 (q : Int)))) := Lib.hid (fun W hb => ⟨(HKD.out.below hb).k5, (HOD.out.below hb).b0, (HOD.out.below hb).i0⟩)
        refine wp_region_noPanic ?_
        refine wp_region_held_drew (S := fun w' => ((World.cell? w' ⟨kb, 0, none⟩ = some (.int .i64 2) ∧ World.cell? w' ⟨kb, 1, none⟩ = some (.int .i64 (i : Int)) ∧ World.cell? w' ⟨kb, 2, none⟩ = some (.int .i64 vi) ∧ World.cell? w' ⟨kb, 3, none⟩ = some (.int .i64 0) ∧ World.cell? w' ⟨kb, 4, none⟩ = some (.int .u32 0)) ∧ World.cell? w' ⟨bb, 0, none⟩ = some (.pointer (some ⟨L.P, 0, none⟩)) ∧ World.cell? w' ⟨ib, 0, none⟩ = some (.int .i64 (q : Int)))) (by kernel_rfl) (by rw [← hwD]; exact HS.out _ (Below.refl _ _)) (fun hHeld => ?_)
        rw [← hwD] at hHeld ⊢
        clear hwD
        refine wpAnyH_take (i := 0) (v := ?_) (by rfl) (by kernel_rfl) (by kernel_rfl) (by kernel_rfl) (fun _ _ _ h => h) (Or.inl ⟨by kernel_rfl, ?_⟩) (by assumption) ?_; rotate_left 1; (focus (intro w hSw; (try dsimp only at hSw); simp only [List.getElem_toArray, List.getElem_cons_succ, List.getElem_cons_zero]; all_goals go_simp; all_goals (try with_reducible rfl))); (try simp only [Act.put, List.getElem_toArray, List.getElem_cons_succ, List.getElem_cons_zero, List.setIfInBounds_toArray, List.set_cons_zero, List.set_cons_succ])
        refine wpAnyH_take (i := 1) (v := ?_) (by rfl) (by kernel_rfl) (by kernel_rfl) (by kernel_rfl) (fun _ _ _ h => h) (Or.inl ⟨by kernel_rfl, ?_⟩) (by assumption) ?_; rotate_left 1; (focus (intro w hSw; (try dsimp only at hSw); simp only [List.getElem_toArray, List.getElem_cons_succ, List.getElem_cons_zero]; all_goals go_simp; all_goals (try with_reducible rfl))); (try simp only [Act.put, List.getElem_toArray, List.getElem_cons_succ, List.getElem_cons_zero, List.setIfInBounds_toArray, List.set_cons_zero, List.set_cons_succ])
        refine wpAnyH_take (i := 2) (v := ?_) (by rfl) (by kernel_rfl) (by kernel_rfl) (by kernel_rfl) (fun _ _ _ h => h) (Or.inl ⟨by kernel_rfl, ?_⟩) (by assumption) ?_; rotate_left 1; (focus (intro w hSw; (try dsimp only at hSw); simp only [List.getElem_toArray, List.getElem_cons_succ, List.getElem_cons_zero]; all_goals go_simp; all_goals (try with_reducible rfl))); (try simp only [Act.put, List.getElem_toArray, List.getElem_cons_succ, List.getElem_cons_zero, List.setIfInBounds_toArray, List.set_cons_zero, List.set_cons_succ])
        refine wpAnyH_take (i := 3) (v := ?_) (by rfl) (by kernel_rfl) (by kernel_rfl) (by kernel_rfl) (fun _ _ _ h => h) (Or.inl ⟨by kernel_rfl, ?_⟩) (by assumption) ?_; rotate_left 1; (focus (intro w hSw; (try dsimp only at hSw); simp only [List.getElem_toArray, List.getElem_cons_succ, List.getElem_cons_zero]; all_goals go_simp; all_goals (try with_reducible rfl))); (try simp only [Act.put, List.getElem_toArray, List.getElem_cons_succ, List.getElem_cons_zero, List.setIfInBounds_toArray, List.set_cons_zero, List.set_cons_succ])
        refine wpAnyH_take (i := 4) (v := ?_) (by rfl) (by kernel_rfl) (by kernel_rfl) (by kernel_rfl) (fun _ _ _ h => h) (Or.inl ⟨by kernel_rfl, ?_⟩) (by assumption) ?_; rotate_left 1; (focus (intro w hSw; (try dsimp only at hSw); simp only [List.getElem_toArray, List.getElem_cons_succ, List.getElem_cons_zero]; all_goals go_simp; all_goals (try with_reducible rfl))); (try simp only [Act.put, List.getElem_toArray, List.getElem_cons_succ, List.getElem_cons_zero, List.setIfInBounds_toArray, List.set_cons_zero, List.set_cons_succ])
        refine wpAnyH_take (i := 5) (v := ?_) (by rfl) (by kernel_rfl) (by kernel_rfl) (by kernel_rfl) (fun _ _ _ h => h) (Or.inl ⟨by kernel_rfl, ?_⟩) (by assumption) ?_; rotate_left 1; (focus (intro w hSw; (try dsimp only at hSw); simp only [List.getElem_toArray, List.getElem_cons_succ, List.getElem_cons_zero]; all_goals go_simp; all_goals (try with_reducible rfl))); (try simp only [Act.put, List.getElem_toArray, List.getElem_cons_succ, List.getElem_cons_zero, List.setIfInBounds_toArray, List.set_cons_zero, List.set_cons_succ])
        refine wpAnyH_take (i := 7) (v := ?_) (by rfl) (by kernel_rfl) (by kernel_rfl) (by kernel_rfl) (fun _ _ _ h => h) (Or.inl ⟨by kernel_rfl, ?_⟩) (by assumption) ?_; rotate_left 1; (focus (intro w hSw; (try dsimp only at hSw); simp only [List.getElem_toArray, List.getElem_cons_succ, List.getElem_cons_zero]; all_goals go_simp; all_goals (try with_reducible rfl))); (try simp only [Act.put, List.getElem_toArray, List.getElem_cons_succ, List.getElem_cons_zero, List.setIfInBounds_toArray, List.set_cons_zero, List.set_cons_succ])
        refine wpAnyH_ready (rs := [6]) (by kernel_rfl) (by simp) ?_; refine AllReadyH.cons (by rfl) (fun K hK => ?_) AllReadyH.nil; rw [if_pos (by kernel_rfl)]; simp only [List.getElem_toArray, List.getElem_cons_succ, List.getElem_cons_zero]
        go_wp2_with (first
          | (go_at_call 79; (with_reducible refine (bowner_live 2 i vi 0 0 L.G1 q' i256 hq' HLv _ HWD.out (HTt.out _ HWD.out)).mono ?_); rintro e w3 ⟨rfl, hb⟩; have HB3 := Lib.hid hb; clear hb))
        refine hK.out _ _ (HS.out _ HB3.out) (fun hHeld => ?_)
        clear hK K
        (try simp only [Act.put, List.getElem_toArray, List.getElem_cons_succ, List.getElem_cons_zero, List.setIfInBounds_toArray, List.set_cons_zero, List.set_cons_succ])
        have HO3 := Lib.hid (HOD.out.below HB3.out)
        have HK3 := Lib.hid (HKD.out.below HB3.out)
        have r0 := HK3.out.c0
        have r1 := HK3.out.c1
        have r2 := HK3.out.c2
        have r3 := HK3.out.c3
        have r4 := HK3.out.c4
        have z0 := HO3.out.o0
        have zf := HO3.out.fr
        by_cases heq : (q' : Int) = (q : Int)
        · have te : ((q' : Int) == (q : Int)) = true := by simpa using heq
          have HE := Lib.hid heq
          clear heq
          refine wpAnyH_take (i := 8) (v := ?_) (by rfl) (by kernel_rfl) (by kernel_rfl) (by kernel_rfl) (fun _ _ _ h => h) (Or.inl ⟨by kernel_rfl, ?_⟩) (by assumption) ?_; rotate_left 1; (focus (intro w hSw; (try dsimp only at hSw); simp only [List.getElem_toArray, List.getElem_cons_succ, List.getElem_cons_zero]; all_goals go_simp; all_goals (try with_reducible rfl))); (try simp only [Act.put, List.getElem_toArray, List.getElem_cons_succ, List.getElem_cons_zero, List.setIfInBounds_toArray, List.set_cons_zero, List.set_cons_succ])
          refine wpAnyH_take (i := 9) (v := ?_) (by rfl) (by kernel_rfl) (by kernel_rfl) (by kernel_rfl) (fun _ _ _ h => h) (Or.inl ⟨by kernel_rfl, ?_⟩) (by assumption) ?_; rotate_left 1; (focus (intro w hSw; (try dsimp only at hSw); simp only [List.getElem_toArray, List.getElem_cons_succ, List.getElem_cons_zero]; all_goals go_simp; all_goals (try with_reducible rfl))); (try simp only [Act.put, List.getElem_toArray, List.getElem_cons_succ, List.getElem_cons_zero, List.setIfInBounds_toArray, List.set_cons_zero, List.set_cons_succ])
          refine wpAnyH_done (by kernel_rfl) ?_ _
          refine NoPanic.normal ?_
          clear hHeld
          obtain ⟨va, vc, hva⟩ := own_shape' HO3.out.row
          subst hva
          have HO4 := Lib.hid (fun X => HO3.out.below ((Below.refl _ _).alloc (Nat.le_refl _) _ : Below w3.heap.size w3 (w3.alloc X)))
          go_wp2_with (first
            | (at_builtin; refine wpList_append_own _ rfl _ _ 73 rfl (ob + 1) 42 i0 (.agg #[.int .i64 0, .int .i64 0, .int .i64 0, .int .i64 0, .int .u32 0]) 5 40 Tryz.underlying73 HI.out.1 HI.out.2.1 HI.out.2.2.1 HI.out.2.2.2 rfl (by decide) _ _ _ rfl (HO4.out _).row ⟨w3.heap.size, 0, none⟩ 1 1 [.int .i64 2, .int .i64 (i : Int), .int .i64 vi, .int .i64 0, .int .u32 0] rfl rfl ok5_at (ok5_one _ _ _ _ _) (by unfold maxLen; omega) (by omega) (by have := HO3.out.lt; simp; omega) ?_; intro v' w5 hown hgrow _; obtain ⟨vb, vd, hvb⟩ := own_shape' hown; subst hvb; have HG5 := Lib.hid ((HO4.out _).grown hgrow hown); clear hown hgrow; have y0 := HG5.out.o0; have yf := HG5.out.fr))
          have HS5 := Lib.hid HG5.out.put
          go_roundw
          case rel => exact ⟨i + 1, _, by omega, by go_num, by rw [oks_yes T o q i HT.out (by rw [Ho.out, HE.out]), okc_snoc, ← List.append_assoc, ← hxs.out, List.length_append, ← Nat.add_assoc, ← hm.out, hvi.out]; exact HS5.out⟩
          case measure => simp [intOf]; omega
        · have te : ((q' : Int) == (q : Int)) = false := by simpa using heq
          have HE := Lib.hid heq
          clear heq
          refine wpAnyH_take (i := 8) (v := ?_) (by rfl) (by kernel_rfl) (by kernel_rfl) (by kernel_rfl) (fun _ _ _ h => h) (Or.inl ⟨by kernel_rfl, ?_⟩) (by assumption) ?_; rotate_left 1; (focus (intro w hSw; (try dsimp only at hSw); simp only [List.getElem_toArray, List.getElem_cons_succ, List.getElem_cons_zero]; all_goals go_simp; all_goals (try with_reducible rfl))); (try simp only [Act.put, List.getElem_toArray, List.getElem_cons_succ, List.getElem_cons_zero, List.setIfInBounds_toArray, List.set_cons_zero, List.set_cons_succ])
          refine wpAnyH_take (i := 9) (v := ?_) (by rfl) (by kernel_rfl) (by kernel_rfl) (by kernel_rfl) (fun _ _ _ h => h) (Or.inl ⟨by kernel_rfl, ?_⟩) (by assumption) ?_; rotate_left 1; (focus (intro w hSw; (try dsimp only at hSw); simp only [List.getElem_toArray, List.getElem_cons_succ, List.getElem_cons_zero]; all_goals go_simp; all_goals (try with_reducible rfl))); (try simp only [Act.put, List.getElem_toArray, List.getElem_cons_succ, List.getElem_cons_zero, List.setIfInBounds_toArray, List.set_cons_zero, List.set_cons_succ])
          refine wpAnyH_done (by kernel_rfl) ?_ _
          refine NoPanic.normal ?_
          clear hHeld
          go_wp2_with fail
          go_roundw
          case rel => exact ⟨i + 1, v, by omega, by go_num, by rw [oks_no T o q i (by rw [Ho.out]; exact HE.out), ← hm.out, ← hxs.out]; exact HO3.out⟩
          case measure => simp [intOf]; omega
      · have hT' : T i = false := by simpa using hT
        have HC := Lib.hid (hno.out i hlt hT')
        have HT := Lib.hid hT'
        clear hT hT'
        go_upto_region 4 with (first
          | (go_at_call 107; (with_reducible refine (HC.out _ HW.out ⟨HO.out.b0, Nat.lt_trans HO.out.nb.2.2.2.1 HO.out.lt⟩).mono ?_); rintro e w1 ⟨rfl, hb⟩; have HB1 := Lib.hid hb; clear hb))
        obtain ⟨kb, hkb⟩ : ∃ kb, kb = w1.heap.size := ⟨_, rfl⟩
        generalize hw2 : World.alloc w1 _ = w2
        have HB2 : Hid (Below w1.heap.size w1 w2) := Lib.hid (by rw [← hw2]; exact (Below.refl _ _).alloc (Nat.le_refl _) _)
        have HK2 : Hid (KeyC w2 kb 0 0 0 0 0) := Lib.hid (by rw [← hw2, hkb]; exact KeyC.new w1 0 0 0 0 0 _)
        rw [← hkb]
        clear hw2 hkb
        obtain ⟨wD, hwD⟩ : ∃ wD, wD = w2.drew := ⟨_, rfl⟩
        have HBD : Hid (Below wr.heap.size wr wD) := Lib.hid (by rw [hwD]; exact (HB1.out.trans (HB2.out.mono HB1.out.size)).drew)
        have HKD : Hid (KeyC wD kb 0 0 0 0 0) := Lib.hid (by rw [hwD]; exact HK2.out.below (Below.refl _ _).drew)
        have HOD := Lib.hid (HO.out.below HBD.out)
        refine wp_region_noPanic ?_
        refine wp_region_held_drew (S := fun w' => World.cell? w' ⟨kb, 0, none⟩ = some (.int .i64 0)) (by kernel_rfl) (by rw [← hwD]; exact HKD.out.c0) (fun hHeld => ?_)
        rw [← hwD] at hHeld ⊢
        clear hwD
        refine wpAnyH_take (i := 0) (v := ?_) (by rfl) (by kernel_rfl) (by kernel_rfl) (by kernel_rfl) (fun _ _ _ h => h) (Or.inl ⟨by kernel_rfl, ?_⟩) (by assumption) ?_; rotate_left 1; (focus (intro w hSw; (try dsimp only at hSw); simp only [List.getElem_toArray, List.getElem_cons_succ, List.getElem_cons_zero]; all_goals go_simp; all_goals (try with_reducible rfl))); (try simp only [Act.put, List.getElem_toArray, List.getElem_cons_succ, List.getElem_cons_zero, List.setIfInBounds_toArray, List.set_cons_zero, List.set_cons_succ])
        refine wpAnyH_take (i := 1) (v := ?_) (by rfl) (by kernel_rfl) (by kernel_rfl) (by kernel_rfl) (fun _ _ _ h => h) (Or.inl ⟨by kernel_rfl, ?_⟩) (by assumption) ?_; rotate_left 1; (focus (intro w hSw; (try dsimp only at hSw); simp only [List.getElem_toArray, List.getElem_cons_succ, List.getElem_cons_zero]; all_goals go_simp; all_goals (try with_reducible rfl))); (try simp only [Act.put, List.getElem_toArray, List.getElem_cons_succ, List.getElem_cons_zero, List.setIfInBounds_toArray, List.set_cons_zero, List.set_cons_succ])
        refine wpAnyH_take (i := 2) (v := ?_) (by rfl) (by kernel_rfl) (by kernel_rfl) (by kernel_rfl) (fun _ _ _ h => h) (Or.inl ⟨by kernel_rfl, ?_⟩) (by assumption) ?_; rotate_left 1; (focus (intro w hSw; (try dsimp only at hSw); simp only [List.getElem_toArray, List.getElem_cons_succ, List.getElem_cons_zero]; all_goals go_simp; all_goals (try with_reducible rfl))); (try simp only [Act.put, List.getElem_toArray, List.getElem_cons_succ, List.getElem_cons_zero, List.setIfInBounds_toArray, List.set_cons_zero, List.set_cons_succ])
        refine wpAnyH_take (i := 3) (v := ?_) (by rfl) (by kernel_rfl) (by kernel_rfl) (by kernel_rfl) (fun _ _ _ h => h) (Or.inl ⟨by kernel_rfl, ?_⟩) (by assumption) ?_; rotate_left 1; (focus (intro w hSw; (try dsimp only at hSw); simp only [List.getElem_toArray, List.getElem_cons_succ, List.getElem_cons_zero]; all_goals go_simp; all_goals (try with_reducible rfl))); (try simp only [Act.put, List.getElem_toArray, List.getElem_cons_succ, List.getElem_cons_zero, List.setIfInBounds_toArray, List.set_cons_zero, List.set_cons_succ])
        refine wpAnyH_take (i := 4) (v := undef) (by rfl) (by kernel_rfl) (by kernel_rfl) (by kernel_rfl) (fun _ _ _ h => h) (Or.inr ⟨by kernel_rfl, rfl⟩) (by assumption) ?_; (try simp only [Act.put, List.getElem_toArray, List.getElem_cons_succ, List.getElem_cons_zero, List.setIfInBounds_toArray, List.set_cons_zero, List.set_cons_succ])
        refine wpAnyH_take (i := 5) (v := undef) (by rfl) (by kernel_rfl) (by kernel_rfl) (by kernel_rfl) (fun _ _ _ h => h) (Or.inr ⟨by kernel_rfl, rfl⟩) (by assumption) ?_; (try simp only [Act.put, List.getElem_toArray, List.getElem_cons_succ, List.getElem_cons_zero, List.setIfInBounds_toArray, List.set_cons_zero, List.set_cons_succ])
        refine wpAnyH_take (i := 6) (v := undef) (by rfl) (by kernel_rfl) (by kernel_rfl) (by kernel_rfl) (fun _ _ _ h => h) (Or.inr ⟨by kernel_rfl, rfl⟩) (by assumption) ?_; (try simp only [Act.put, List.getElem_toArray, List.getElem_cons_succ, List.getElem_cons_zero, List.setIfInBounds_toArray, List.set_cons_zero, List.set_cons_succ])
        refine wpAnyH_take (i := 7) (v := undef) (by rfl) (by kernel_rfl) (by kernel_rfl) (by kernel_rfl) (fun _ _ _ h => h) (Or.inr ⟨by kernel_rfl, rfl⟩) (by assumption) ?_; (try simp only [Act.put, List.getElem_toArray, List.getElem_cons_succ, List.getElem_cons_zero, List.setIfInBounds_toArray, List.set_cons_zero, List.set_cons_succ])
        refine wpAnyH_take (i := 8) (v := undef) (by rfl) (by kernel_rfl) (by kernel_rfl) (by kernel_rfl) (fun _ _ _ h => h) (Or.inr ⟨by kernel_rfl, rfl⟩) (by assumption) ?_; (try simp only [Act.put, List.getElem_toArray, List.getElem_cons_succ, List.getElem_cons_zero, List.setIfInBounds_toArray, List.set_cons_zero, List.set_cons_succ])
        refine wpAnyH_take (i := 9) (v := ?_) (by rfl) (by kernel_rfl) (by kernel_rfl) (by kernel_rfl) (fun _ _ _ h => h) (Or.inl ⟨by kernel_rfl, ?_⟩) (by assumption) ?_; rotate_left 1; (focus (intro w hSw; (try dsimp only at hSw); simp only [List.getElem_toArray, List.getElem_cons_succ, List.getElem_cons_zero]; all_goals go_simp; all_goals (try with_reducible rfl))); (try simp only [Act.put, List.getElem_toArray, List.getElem_cons_succ, List.getElem_cons_zero, List.setIfInBounds_toArray, List.set_cons_zero, List.set_cons_succ])
        refine wpAnyH_done (by kernel_rfl) ?_ _
        refine NoPanic.normal ?_
        clear hHeld
        go_wp2_with fail
        go_roundw
        case rel => exact ⟨i + 1, v, by omega, by go_num, by rw [oks_dead T o q i HT.out, ← hm.out, ← hxs.out]; exact HOD.out⟩
        case measure => simp [intOf]; omega
    · obtain ⟨rfl⟩ : i = n := (by omega)
      go_wp2_with fail
      go_end0
      exact ⟨rfl, v, by rw [← hm.out, ← hxs.out]; exact HO.out⟩

set_option maxRecDepth 100000 in
set_option maxHeartbeats 2000000 in
theorem badd_dom {w0 : World} {L : BLoc} {D : BSt} (M : World) (bb ib ob q n m0 : Nat) (xs0 : List Value) (o vv : Nat → Int) (T : Nat → Bool) (V : Nat → Int) (hn : n ≤ 256) (hm0 : m0 ≤ 1000)
    (hlive : Hid (∀ i, i < n → T i = true → liveK L D 4 (i : Int) (V i) = true))
    (htit : Hid (∀ W, BW w0 W L D → ∀ i, i < n → TiAt W L 4 L.G3 i (o i) (vv i)))
    (how : Hid (∀ i, i < n → T i = true → ∃ q' : Nat, q' < D.nb ∧ o i = (q' : Int) ∧ vv i = V i))
    (hyes : Hid (∀ i, i < n → T i = true → ∀ W, BW w0 W L D → True → Calls Tryz.prog 55 #[.pointer (some ⟨L.dP, 0, none⟩), .int .i64 (i : Int)] W fun e w' => e = .returned (.agg #[.int .i64 4, .int .i64 (i : Int), .int .i64 (V i), .int .i64 0, .int .u32 0]) ∧ Below W.heap.size W w'))
    (hno : Hid (∀ i, i < n → T i = false → ∀ W, BW w0 W L D → True → Calls Tryz.prog 55 #[.pointer (some ⟨L.dP, 0, none⟩), .int .i64 (i : Int)] W fun e w' => e = .returned (Value.agg #[.int .i64 0, .int .i64 0, .int .i64 0, .int .i64 0, .int .u32 0]) ∧ Below W.heap.size W w'))
    (hM : BW w0 M L D) (w : World) (v0 : Value) (h : OwS M w L.P bb ib ob q v0 m0 xs0) :
    Calls Tryz.prog 105 #[.int .i64 (n : Int), .func (.func 55) #[.pointer (some ⟨L.dP, 0, none⟩)] #[], .pointer (some ⟨bb, 0, none⟩), .pointer (some ⟨ib, 0, none⟩), .pointer (some ⟨ob, 0, none⟩)] w fun e w' => e = .returned (.tuple #[]) ∧ ∃ v, OwS M w' L.P bb ib ob q v (m0 + (oks T o q n).length) (xs0 ++ okc 4 V (oks T o q n)) := by
  have H := Lib.hid h
  have HM := Lib.hid hM
  obtain ⟨i0, hi, hz0, hz1, hz2⟩ := info_parts infoKeyO
  have HI := Lib.hid (⟨hi, hz0, hz1, hz2⟩ : Tryz.prog.info? 42 = some i0 ∧ i0.zero = some (.agg #[.int .i64 0, .int .i64 0, .int .i64 0, .int .i64 0, .int .u32 0]) ∧ i0.size = 5 ∧ i0.bytes = 40)
  clear h hM hi hz0 hz1 hz2
  go_enter Tryz.func105, Tryz.ntmps105
  go_wp2_with fail
  go_loopw [10] (fun x wr => ∃ (i : Nat) (v : Value), i ≤ n ∧ x = .int .i64 (i : Int) ∧ OwS M wr L.P bb ib ob q v (m0 + (oks T o q i).length) (xs0 ++ okc 4 V (oks T o q i))) (fun x _ => n - (intOf x).toNat)
  case atStart => exact ⟨0, v0, Nat.zero_le _, rfl, by simpa [oks_zero, okc] using H.out⟩
  case round =>
    obtain ⟨i, v, hin, rfl, hO⟩ := hrel
    have HO := Lib.hid hO
    have HW := Lib.hid (HM.out.below hO.bel)
    clear hO
    have g0 : (0 : Int) ≤ i := by omega
    have hle := oks_len T o q i
    obtain ⟨m, hm⟩ : ∃ m, Hid (m = m0 + (oks T o q i).length) := ⟨_, Lib.hid rfl⟩
    obtain ⟨xs, hxs⟩ : ∃ xs, Hid (xs = xs0 ++ okc 4 V (oks T o q i)) := ⟨_, Lib.hid rfl⟩
    rw [← hm.out, ← hxs.out] at HO
    have hmb : m ≤ 1256 := by have := hm.out; omega
    clear hle
    by_cases hlt : i < n
    · by_cases hT : T i = true
      · obtain ⟨q', hq', ho', hv'⟩ := how.out i hlt hT
        have HLv := Lib.hid (hlive.out i hlt hT)
        have HC := Lib.hid (hyes.out i hlt hT)
        obtain ⟨vi, hvi⟩ : ∃ vi, Hid (V i = vi) := ⟨_, Lib.hid rfl⟩
        have HTt := Lib.hid (fun W hW => by have := htit.out W hW i hlt; rw [ho', hv', hvi.out] at this; exact this)
        rw [hvi.out] at HLv HC
        have HT := Lib.hid hT
        have Ho := Lib.hid ho'
        have i256 : i < 256 := by omega
        clear hT ho' hv'
        go_upto_region 4 with (first
          | (go_at_call 55; (with_reducible refine (HC.out _ HW.out trivial).mono ?_); rintro e w1 ⟨rfl, hb⟩; have HB1 := Lib.hid hb; clear hb))
        obtain ⟨kb, hkb⟩ : ∃ kb, kb = w1.heap.size := ⟨_, rfl⟩
        generalize hw2 : World.alloc w1 _ = w2
        have HB2 : Hid (Below w1.heap.size w1 w2) := Lib.hid (by rw [← hw2]; exact (Below.refl _ _).alloc (Nat.le_refl _) _)
        have HK2 : Hid (KeyC w2 kb 4 (i : Int) vi 0 0) := Lib.hid (by rw [← hw2, hkb]; exact KeyC.new w1 4 (i : Int) vi 0 0 _)
        rw [← hkb]
        clear hw2 hkb
        obtain ⟨wD, hwD⟩ : ∃ wD, wD = w2.drew := ⟨_, rfl⟩
        have HBD : Hid (Below wr.heap.size wr wD) := Lib.hid (by rw [hwD]; exact (HB1.out.trans (HB2.out.mono HB1.out.size)).drew)
        have HKD : Hid (KeyC wD kb 4 (i : Int) vi 0 0) := Lib.hid (by rw [hwD]; exact HK2.out.below (Below.refl _ _).drew)
        have HOD := Lib.hid (HO.out.below HBD.out)
        have HWD := Lib.hid (HW.out.below HBD.out)
        have HS : Hid (∀ W, Below wD.heap.size wD W → ((World.cell? W ⟨kb, 0, none⟩ = some (.int .i64 4) ∧ World.cell? W ⟨kb, 1, none⟩ = some (.int .i64 (i : Int)) ∧ World.cell? W ⟨kb, 2, none⟩ = some (.int .i64 vi) ∧ World.cell? W ⟨kb, 3, none⟩ = some (.int .i64 0) ∧ World.cell? W ⟨kb, 4, none⟩ = some (.int .u32 0)) ∧ World.cell? W ⟨bb, 0, none⟩ = some (.pointer (some ⟨L.P, 0, none⟩)) ∧ World.cell? W ⟨ib, 0, none⟩ = some (.int .i64 (q : Int)))) := Lib.hid (fun W hb => ⟨(HKD.out.below hb).k5, (HOD.out.below hb).b0, (HOD.out.below hb).i0⟩)
        refine wp_region_noPanic ?_
        refine wp_region_held_drew (S := fun w' => ((World.cell? w' ⟨kb, 0, none⟩ = some (.int .i64 4) ∧ World.cell? w' ⟨kb, 1, none⟩ = some (.int .i64 (i : Int)) ∧ World.cell? w' ⟨kb, 2, none⟩ = some (.int .i64 vi) ∧ World.cell? w' ⟨kb, 3, none⟩ = some (.int .i64 0) ∧ World.cell? w' ⟨kb, 4, none⟩ = some (.int .u32 0)) ∧ World.cell? w' ⟨bb, 0, none⟩ = some (.pointer (some ⟨L.P, 0, none⟩)) ∧ World.cell? w' ⟨ib, 0, none⟩ = some (.int .i64 (q : Int)))) (by kernel_rfl) (by rw [← hwD]; exact HS.out _ (Below.refl _ _)) (fun hHeld => ?_)
        rw [← hwD] at hHeld ⊢
        clear hwD
        refine wpAnyH_take (i := 0) (v := ?_) (by rfl) (by kernel_rfl) (by kernel_rfl) (by kernel_rfl) (fun _ _ _ h => h) (Or.inl ⟨by kernel_rfl, ?_⟩) (by assumption) ?_; rotate_left 1; (focus (intro w hSw; (try dsimp only at hSw); simp only [List.getElem_toArray, List.getElem_cons_succ, List.getElem_cons_zero]; all_goals go_simp; all_goals (try with_reducible rfl))); (try simp only [Act.put, List.getElem_toArray, List.getElem_cons_succ, List.getElem_cons_zero, List.setIfInBounds_toArray, List.set_cons_zero, List.set_cons_succ])
        refine wpAnyH_take (i := 1) (v := ?_) (by rfl) (by kernel_rfl) (by kernel_rfl) (by kernel_rfl) (fun _ _ _ h => h) (Or.inl ⟨by kernel_rfl, ?_⟩) (by assumption) ?_; rotate_left 1; (focus (intro w hSw; (try dsimp only at hSw); simp only [List.getElem_toArray, List.getElem_cons_succ, List.getElem_cons_zero]; all_goals go_simp; all_goals (try with_reducible rfl))); (try simp only [Act.put, List.getElem_toArray, List.getElem_cons_succ, List.getElem_cons_zero, List.setIfInBounds_toArray, List.set_cons_zero, List.set_cons_succ])
        refine wpAnyH_take (i := 2) (v := ?_) (by rfl) (by kernel_rfl) (by kernel_rfl) (by kernel_rfl) (fun _ _ _ h => h) (Or.inl ⟨by kernel_rfl, ?_⟩) (by assumption) ?_; rotate_left 1; (focus (intro w hSw; (try dsimp only at hSw); simp only [List.getElem_toArray, List.getElem_cons_succ, List.getElem_cons_zero]; all_goals go_simp; all_goals (try with_reducible rfl))); (try simp only [Act.put, List.getElem_toArray, List.getElem_cons_succ, List.getElem_cons_zero, List.setIfInBounds_toArray, List.set_cons_zero, List.set_cons_succ])
        refine wpAnyH_take (i := 3) (v := ?_) (by rfl) (by kernel_rfl) (by kernel_rfl) (by kernel_rfl) (fun _ _ _ h => h) (Or.inl ⟨by kernel_rfl, ?_⟩) (by assumption) ?_; rotate_left 1; (focus (intro w hSw; (try dsimp only at hSw); simp only [List.getElem_toArray, List.getElem_cons_succ, List.getElem_cons_zero]; all_goals go_simp; all_goals (try with_reducible rfl))); (try simp only [Act.put, List.getElem_toArray, List.getElem_cons_succ, List.getElem_cons_zero, List.setIfInBounds_toArray, List.set_cons_zero, List.set_cons_succ])
        refine wpAnyH_take (i := 4) (v := ?_) (by rfl) (by kernel_rfl) (by kernel_rfl) (by kernel_rfl) (fun _ _ _ h => h) (Or.inl ⟨by kernel_rfl, ?_⟩) (by assumption) ?_; rotate_left 1; (focus (intro w hSw; (try dsimp only at hSw); simp only [List.getElem_toArray, List.getElem_cons_succ, List.getElem_cons_zero]; all_goals go_simp; all_goals (try with_reducible rfl))); (try simp only [Act.put, List.getElem_toArray, List.getElem_cons_succ, List.getElem_cons_zero, List.setIfInBounds_toArray, List.set_cons_zero, List.set_cons_succ])
        refine wpAnyH_take (i := 5) (v := ?_) (by rfl) (by kernel_rfl) (by kernel_rfl) (by kernel_rfl) (fun _ _ _ h => h) (Or.inl ⟨by kernel_rfl, ?_⟩) (by assumption) ?_; rotate_left 1; (focus (intro w hSw; (try dsimp only at hSw); simp only [List.getElem_toArray, List.getElem_cons_succ, List.getElem_cons_zero]; all_goals go_simp; all_goals (try with_reducible rfl))); (try simp only [Act.put, List.getElem_toArray, List.getElem_cons_succ, List.getElem_cons_zero, List.setIfInBounds_toArray, List.set_cons_zero, List.set_cons_succ])
        refine wpAnyH_take (i := 7) (v := ?_) (by rfl) (by kernel_rfl) (by kernel_rfl) (by kernel_rfl) (fun _ _ _ h => h) (Or.inl ⟨by kernel_rfl, ?_⟩) (by assumption) ?_; rotate_left 1; (focus (intro w hSw; (try dsimp only at hSw); simp only [List.getElem_toArray, List.getElem_cons_succ, List.getElem_cons_zero]; all_goals go_simp; all_goals (try with_reducible rfl))); (try simp only [Act.put, List.getElem_toArray, List.getElem_cons_succ, List.getElem_cons_zero, List.setIfInBounds_toArray, List.set_cons_zero, List.set_cons_succ])
        refine wpAnyH_ready (rs := [6]) (by kernel_rfl) (by simp) ?_; refine AllReadyH.cons (by rfl) (fun K hK => ?_) AllReadyH.nil; rw [if_pos (by kernel_rfl)]; simp only [List.getElem_toArray, List.getElem_cons_succ, List.getElem_cons_zero]
        go_wp2_with (first
          | (go_at_call 79; (with_reducible refine (bowner_live 4 i vi 0 0 L.G3 q' i256 hq' HLv _ HWD.out (HTt.out _ HWD.out)).mono ?_); rintro e w3 ⟨rfl, hb⟩; have HB3 := Lib.hid hb; clear hb))
        refine hK.out _ _ (HS.out _ HB3.out) (fun hHeld => ?_)
        clear hK K
        (try simp only [Act.put, List.getElem_toArray, List.getElem_cons_succ, List.getElem_cons_zero, List.setIfInBounds_toArray, List.set_cons_zero, List.set_cons_succ])
        have HO3 := Lib.hid (HOD.out.below HB3.out)
        have HK3 := Lib.hid (HKD.out.below HB3.out)
        have r0 := HK3.out.c0
        have r1 := HK3.out.c1
        have r2 := HK3.out.c2
        have r3 := HK3.out.c3
        have r4 := HK3.out.c4
        have z0 := HO3.out.o0
        have zf := HO3.out.fr
        by_cases heq : (q' : Int) = (q : Int)
        · have te : ((q' : Int) == (q : Int)) = true := by simpa using heq
          have HE := Lib.hid heq
          clear heq
          refine wpAnyH_take (i := 8) (v := ?_) (by rfl) (by kernel_rfl) (by kernel_rfl) (by kernel_rfl) (fun _ _ _ h => h) (Or.inl ⟨by kernel_rfl, ?_⟩) (by assumption) ?_; rotate_left 1; (focus (intro w hSw; (try dsimp only at hSw); simp only [List.getElem_toArray, List.getElem_cons_succ, List.getElem_cons_zero]; all_goals go_simp; all_goals (try with_reducible rfl))); (try simp only [Act.put, List.getElem_toArray, List.getElem_cons_succ, List.getElem_cons_zero, List.setIfInBounds_toArray, List.set_cons_zero, List.set_cons_succ])
          refine wpAnyH_take (i := 9) (v := ?_) (by rfl) (by kernel_rfl) (by kernel_rfl) (by kernel_rfl) (fun _ _ _ h => h) (Or.inl ⟨by kernel_rfl, ?_⟩) (by assumption) ?_; rotate_left 1; (focus (intro w hSw; (try dsimp only at hSw); simp only [List.getElem_toArray, List.getElem_cons_succ, List.getElem_cons_zero]; all_goals go_simp; all_goals (try with_reducible rfl))); (try simp only [Act.put, List.getElem_toArray, List.getElem_cons_succ, List.getElem_cons_zero, List.setIfInBounds_toArray, List.set_cons_zero, List.set_cons_succ])
          refine wpAnyH_done (by kernel_rfl) ?_ _
          refine NoPanic.normal ?_
          clear hHeld
          obtain ⟨va, vc, hva⟩ := own_shape' HO3.out.row
          subst hva
          have HO4 := Lib.hid (fun X => HO3.out.below ((Below.refl _ _).alloc (Nat.le_refl _) _ : Below w3.heap.size w3 (w3.alloc X)))
          go_wp2_with (first
            | (at_builtin; refine wpList_append_own _ rfl _ _ 73 rfl (ob + 1) 42 i0 (.agg #[.int .i64 0, .int .i64 0, .int .i64 0, .int .i64 0, .int .u32 0]) 5 40 Tryz.underlying73 HI.out.1 HI.out.2.1 HI.out.2.2.1 HI.out.2.2.2 rfl (by decide) _ _ _ rfl (HO4.out _).row ⟨w3.heap.size, 0, none⟩ 1 1 [.int .i64 4, .int .i64 (i : Int), .int .i64 vi, .int .i64 0, .int .u32 0] rfl rfl ok5_at (ok5_one _ _ _ _ _) (by unfold maxLen; omega) (by omega) (by have := HO3.out.lt; simp; omega) ?_; intro v' w5 hown hgrow _; obtain ⟨vb, vd, hvb⟩ := own_shape' hown; subst hvb; have HG5 := Lib.hid ((HO4.out _).grown hgrow hown); clear hown hgrow; have y0 := HG5.out.o0; have yf := HG5.out.fr))
          have HS5 := Lib.hid HG5.out.put
          go_roundw
          case rel => exact ⟨i + 1, _, by omega, by go_num, by rw [oks_yes T o q i HT.out (by rw [Ho.out, HE.out]), okc_snoc, ← List.append_assoc, ← hxs.out, List.length_append, ← Nat.add_assoc, ← hm.out, hvi.out]; exact HS5.out⟩
          case measure => simp [intOf]; omega
        · have te : ((q' : Int) == (q : Int)) = false := by simpa using heq
          have HE := Lib.hid heq
          clear heq
          refine wpAnyH_take (i := 8) (v := ?_) (by rfl) (by kernel_rfl) (by kernel_rfl) (by kernel_rfl) (fun _ _ _ h => h) (Or.inl ⟨by kernel_rfl, ?_⟩) (by assumption) ?_; rotate_left 1; (focus (intro w hSw; (try dsimp only at hSw); simp only [List.getElem_toArray, List.getElem_cons_succ, List.getElem_cons_zero]; all_goals go_simp; all_goals (try with_reducible rfl))); (try simp only [Act.put, List.getElem_toArray, List.getElem_cons_succ, List.getElem_cons_zero, List.setIfInBounds_toArray, List.set_cons_zero, List.set_cons_succ])
          refine wpAnyH_take (i := 9) (v := ?_) (by rfl) (by kernel_rfl) (by kernel_rfl) (by kernel_rfl) (fun _ _ _ h => h) (Or.inl ⟨by kernel_rfl, ?_⟩) (by assumption) ?_; rotate_left 1; (focus (intro w hSw; (try dsimp only at hSw); simp only [List.getElem_toArray, List.getElem_cons_succ, List.getElem_cons_zero]; all_goals go_simp; all_goals (try with_reducible rfl))); (try simp only [Act.put, List.getElem_toArray, List.getElem_cons_succ, List.getElem_cons_zero, List.setIfInBounds_toArray, List.set_cons_zero, List.set_cons_succ])
          refine wpAnyH_done (by kernel_rfl) ?_ _
          refine NoPanic.normal ?_
          clear hHeld
          go_wp2_with fail
          go_roundw
          case rel => exact ⟨i + 1, v, by omega, by go_num, by rw [oks_no T o q i (by rw [Ho.out]; exact HE.out), ← hm.out, ← hxs.out]; exact HO3.out⟩
          case measure => simp [intOf]; omega
      · have hT' : T i = false := by simpa using hT
        have HC := Lib.hid (hno.out i hlt hT')
        have HT := Lib.hid hT'
        clear hT hT'
        go_upto_region 4 with (first
          | (go_at_call 55; (with_reducible refine (HC.out _ HW.out trivial).mono ?_); rintro e w1 ⟨rfl, hb⟩; have HB1 := Lib.hid hb; clear hb))
        obtain ⟨kb, hkb⟩ : ∃ kb, kb = w1.heap.size := ⟨_, rfl⟩
        generalize hw2 : World.alloc w1 _ = w2
        have HB2 : Hid (Below w1.heap.size w1 w2) := Lib.hid (by rw [← hw2]; exact (Below.refl _ _).alloc (Nat.le_refl _) _)
        have HK2 : Hid (KeyC w2 kb 0 0 0 0 0) := Lib.hid (by rw [← hw2, hkb]; exact KeyC.new w1 0 0 0 0 0 _)
        rw [← hkb]
        clear hw2 hkb
        obtain ⟨wD, hwD⟩ : ∃ wD, wD = w2.drew := ⟨_, rfl⟩
        have HBD : Hid (Below wr.heap.size wr wD) := Lib.hid (by rw [hwD]; exact (HB1.out.trans (HB2.out.mono HB1.out.size)).drew)
        have HKD : Hid (KeyC wD kb 0 0 0 0 0) := Lib.hid (by rw [hwD]; exact HK2.out.below (Below.refl _ _).drew)
        have HOD := Lib.hid (HO.out.below HBD.out)
        refine wp_region_noPanic ?_
        refine wp_region_held_drew (S := fun w' => World.cell? w' ⟨kb, 0, none⟩ = some (.int .i64 0)) (by kernel_rfl) (by rw [← hwD]; exact HKD.out.c0) (fun hHeld => ?_)
        rw [← hwD] at hHeld ⊢
        clear hwD
        refine wpAnyH_take (i := 0) (v := ?_) (by rfl) (by kernel_rfl) (by kernel_rfl) (by kernel_rfl) (fun _ _ _ h => h) (Or.inl ⟨by kernel_rfl, ?_⟩) (by assumption) ?_; rotate_left 1; (focus (intro w hSw; (try dsimp only at hSw); simp only [List.getElem_toArray, List.getElem_cons_succ, List.getElem_cons_zero]; all_goals go_simp; all_goals (try with_reducible rfl))); (try simp only [Act.put, List.getElem_toArray, List.getElem_cons_succ, List.getElem_cons_zero, List.setIfInBounds_toArray, List.set_cons_zero, List.set_cons_succ])
        refine wpAnyH_take (i := 1) (v := ?_) (by rfl) (by kernel_rfl) (by kernel_rfl) (by kernel_rfl) (fun _ _ _ h => h) (Or.inl ⟨by kernel_rfl, ?_⟩) (by assumption) ?_; rotate_left 1; (focus (intro w hSw; (try dsimp only at hSw); simp only [List.getElem_toArray, List.getElem_cons_succ, List.getElem_cons_zero]; all_goals go_simp; all_goals (try with_reducible rfl))); (try simp only [Act.put, List.getElem_toArray, List.getElem_cons_succ, List.getElem_cons_zero, List.setIfInBounds_toArray, List.set_cons_zero, List.set_cons_succ])
        refine wpAnyH_take (i := 2) (v := ?_) (by rfl) (by kernel_rfl) (by kernel_rfl) (by kernel_rfl) (fun _ _ _ h => h) (Or.inl ⟨by kernel_rfl, ?_⟩) (by assumption) ?_; rotate_left 1; (focus (intro w hSw; (try dsimp only at hSw); simp only [List.getElem_toArray, List.getElem_cons_succ, List.getElem_cons_zero]; all_goals go_simp; all_goals (try with_reducible rfl))); (try simp only [Act.put, List.getElem_toArray, List.getElem_cons_succ, List.getElem_cons_zero, List.setIfInBounds_toArray, List.set_cons_zero, List.set_cons_succ])
        refine wpAnyH_take (i := 3) (v := ?_) (by rfl) (by kernel_rfl) (by kernel_rfl) (by kernel_rfl) (fun _ _ _ h => h) (Or.inl ⟨by kernel_rfl, ?_⟩) (by assumption) ?_; rotate_left 1; (focus (intro w hSw; (try dsimp only at hSw); simp only [List.getElem_toArray, List.getElem_cons_succ, List.getElem_cons_zero]; all_goals go_simp; all_goals (try with_reducible rfl))); (try simp only [Act.put, List.getElem_toArray, List.getElem_cons_succ, List.getElem_cons_zero, List.setIfInBounds_toArray, List.set_cons_zero, List.set_cons_succ])
        refine wpAnyH_take (i := 4) (v := undef) (by rfl) (by kernel_rfl) (by kernel_rfl) (by kernel_rfl) (fun _ _ _ h => h) (Or.inr ⟨by kernel_rfl, rfl⟩) (by assumption) ?_; (try simp only [Act.put, List.getElem_toArray, List.getElem_cons_succ, List.getElem_cons_zero, List.setIfInBounds_toArray, List.set_cons_zero, List.set_cons_succ])
        refine wpAnyH_take (i := 5) (v := undef) (by rfl) (by kernel_rfl) (by kernel_rfl) (by kernel_rfl) (fun _ _ _ h => h) (Or.inr ⟨by kernel_rfl, rfl⟩) (by assumption) ?_; (try simp only [Act.put, List.getElem_toArray, List.getElem_cons_succ, List.getElem_cons_zero, List.setIfInBounds_toArray, List.set_cons_zero, List.set_cons_succ])
        refine wpAnyH_take (i := 6) (v := undef) (by rfl) (by kernel_rfl) (by kernel_rfl) (by kernel_rfl) (fun _ _ _ h => h) (Or.inr ⟨by kernel_rfl, rfl⟩) (by assumption) ?_; (try simp only [Act.put, List.getElem_toArray, List.getElem_cons_succ, List.getElem_cons_zero, List.setIfInBounds_toArray, List.set_cons_zero, List.set_cons_succ])
        refine wpAnyH_take (i := 7) (v := undef) (by rfl) (by kernel_rfl) (by kernel_rfl) (by kernel_rfl) (fun _ _ _ h => h) (Or.inr ⟨by kernel_rfl, rfl⟩) (by assumption) ?_; (try simp only [Act.put, List.getElem_toArray, List.getElem_cons_succ, List.getElem_cons_zero, List.setIfInBounds_toArray, List.set_cons_zero, List.set_cons_succ])
        refine wpAnyH_take (i := 8) (v := undef) (by rfl) (by kernel_rfl) (by kernel_rfl) (by kernel_rfl) (fun _ _ _ h => h) (Or.inr ⟨by kernel_rfl, rfl⟩) (by assumption) ?_; (try simp only [Act.put, List.getElem_toArray, List.getElem_cons_succ, List.getElem_cons_zero, List.setIfInBounds_toArray, List.set_cons_zero, List.set_cons_succ])
        refine wpAnyH_take (i := 9) (v := ?_) (by rfl) (by kernel_rfl) (by kernel_rfl) (by kernel_rfl) (fun _ _ _ h => h) (Or.inl ⟨by kernel_rfl, ?_⟩) (by assumption) ?_; rotate_left 1; (focus (intro w hSw; (try dsimp only at hSw); simp only [List.getElem_toArray, List.getElem_cons_succ, List.getElem_cons_zero]; all_goals go_simp; all_goals (try with_reducible rfl))); (try simp only [Act.put, List.getElem_toArray, List.getElem_cons_succ, List.getElem_cons_zero, List.setIfInBounds_toArray, List.set_cons_zero, List.set_cons_succ])
        refine wpAnyH_done (by kernel_rfl) ?_ _
        refine NoPanic.normal ?_
        clear hHeld
        go_wp2_with fail
        go_roundw
        case rel => exact ⟨i + 1, v, by omega, by go_num, by rw [oks_dead T o q i HT.out, ← hm.out, ← hxs.out]; exact HOD.out⟩
        case measure => simp [intOf]; omega
    · obtain ⟨rfl⟩ : i = n := (by omega)
      go_wp2_with fail
      go_end0
      exact ⟨rfl, v, by rw [← hm.out, ← hxs.out]; exact HO.out⟩
end Go.Proofs.YtncopdhhchmpeaaGreatDoor
namespace Go.Proofs.YtncopdhhchmpeaaGreatDoor
open Go.ChangeShapes Go.WideShapes Go.ChangeAt Go.RowKit
set_option linter.unusedVariables false
set_option linter.unusedSimpArgs false
/-- Each thing that is there is a bank's, by a title as it is now. -/
structure OwI (L : BLoc) (D : BSt) : Prop where
  n : ∀ i, i < L.a.n → D.nt i = true → ∃ q' : Nat, q' < D.nb ∧ D.o1 i = (q' : Int) ∧ D.v1 i = D.nv i
  p : ∀ i, i < L.b.n → D.pt i = true → ∃ q' : Nat, q' < D.nb ∧ D.o2 i = (q' : Int) ∧ D.v2 i = D.pv i
  d : ∀ i, i < L.dn → D.dt i = true → ∃ q' : Nat, q' < D.nb ∧ D.o3 i = (q' : Int) ∧ D.v3 i = D.dv i
/-- What is bank q's, in numbers, and its keys. -/
def ownN (L : BLoc) (D : BSt) (q : Nat) : Nat := (oks D.nt D.o1 q L.a.n).length + (oks D.pt D.o2 q L.b.n).length + (oks D.dt D.o3 q L.dn).length
def ownK (L : BLoc) (D : BSt) (q : Nat) : List Value := okc 2 D.nv (oks D.nt D.o1 q L.a.n) ++ okc 3 D.pv (oks D.pt D.o2 q L.b.n) ++ okc 4 D.dv (oks D.dt D.o3 q L.dn)
section
variable {w0 w w' : World} {L : BLoc} {D : BSt}
theorem BW.titl1 (h : BW w0 w L D) (j : Nat) (hj : j < 256) : TiAt w L 2 L.G1 j (D.o1 j) (D.v1 j) := ⟨.inl ⟨rfl, rfl⟩, h.kk.t1.lt.2, (h.kk.t1.ti j hj).1, (h.kk.t1.ti j hj).2⟩
theorem BW.titl2 (h : BW w0 w L D) (j : Nat) (hj : j < 256) : TiAt w L 3 L.G2 j (D.o2 j) (D.v2 j) := ⟨.inr (.inl ⟨rfl, rfl⟩), h.kk.t2.lt.2, (h.kk.t2.ti j hj).1, (h.kk.t2.ti j hj).2⟩
theorem BW.titl3 (h : BW w0 w L D) (j : Nat) (hj : j < 256) : TiAt w L 4 L.G3 j (D.o3 j) (D.v3 j) := ⟨.inr (.inr ⟨by decide, by decide, rfl⟩), h.kk.t3.lt.2, (h.kk.t3.ti j hj).1, (h.kk.t3.ti j hj).2⟩
theorem liveK2 (i : Nat) (hi : i < L.a.n) (ht : D.nt i = true) : liveK L D 2 (i : Int) (D.nv i) = true := by simp [liveK, thereB, hi, ht]
theorem liveK3 (i : Nat) (hi : i < L.b.n) (ht : D.pt i = true) : liveK L D 3 (i : Int) (D.pv i) = true := by simp [liveK, thereB, hi, ht]
theorem liveK4 (i : Nat) (hi : i < L.dn) (ht : D.dt i = true) : liveK L D 4 (i : Int) (D.dv i) = true := by simp [liveK, thereB, hi, ht]
theorem badd_n (M : World) (bb ib ob q m0 : Nat) (xs0 : List Value) (hm0 : m0 ≤ 1000) (ho : OwI L D) (hM : BW w0 M L D) (w : World) (v0 : Value) (h : OwS M w L.P bb ib ob q v0 m0 xs0) :
    Calls Tryz.prog 105 #[.int .i64 (L.a.n : Int), .func (.func 107) #[] #[.pointer (some ⟨bb, 0, none⟩)], .pointer (some ⟨bb, 0, none⟩), .pointer (some ⟨ib, 0, none⟩), .pointer (some ⟨ob, 0, none⟩)] w fun e w' => e = .returned (.tuple #[]) ∧ ∃ v, OwS M w' L.P bb ib ob q v (m0 + (oks D.nt D.o1 q L.a.n).length) (xs0 ++ okc 2 D.nv (oks D.nt D.o1 q L.a.n)) :=
  badd_node M bb ib ob q L.a.n m0 xs0 D.o1 D.v1 D.nt D.nv hM.an hm0 (Lib.hid liveK2) (Lib.hid (fun W hW i hi => hW.titl1 i (by have := hW.an; omega))) (Lib.hid ho.n)
    (Lib.hid (fun i hi ht W hW hb => owned2_of bb (i : Int) 2 (i : Int) (D.nv i) 0 0 W hW hb.1 hb.2 (fun W2 hb2 => snodekey_in (i : Int) 0 i (Lib.hid rfl) (by decide) (by decide) hi (Lib.hid ht) _ (Lib.hid rfl) W2 (hW.below hb2).mm.sv.st)))
    (Lib.hid (fun i hi ht W hW hb => owned2_of bb (i : Int) 0 0 0 0 0 W hW hb.1 hb.2 (fun W2 hb2 => snodekey_dead (i : Int) 0 i (Lib.hid rfl) (Lib.hid ht) W2 (hW.below hb2).mm.sv.st)))
    hM w v0 h
theorem badd_p (M : World) (bb ib ob q m0 : Nat) (xs0 : List Value) (hm0 : m0 ≤ 1000) (ho : OwI L D) (hM : BW w0 M L D) (w : World) (v0 : Value) (h : OwS M w L.P bb ib ob q v0 m0 xs0) :
    Calls Tryz.prog 105 #[.int .i64 (L.b.n : Int), .func (.func 54) #[.pointer (some ⟨L.S, 0, none⟩)] #[], .pointer (some ⟨bb, 0, none⟩), .pointer (some ⟨ib, 0, none⟩), .pointer (some ⟨ob, 0, none⟩)] w fun e w' => e = .returned (.tuple #[]) ∧ ∃ v, OwS M w' L.P bb ib ob q v (m0 + (oks D.pt D.o2 q L.b.n).length) (xs0 ++ okc 3 D.pv (oks D.pt D.o2 q L.b.n)) :=
  badd_page M bb ib ob q L.b.n m0 xs0 D.o2 D.v2 D.pt D.pv hM.pn hm0 (Lib.hid liveK3) (Lib.hid (fun W hW i hi => hW.titl2 i (by have := hW.pn; omega))) (Lib.hid ho.p)
    (Lib.hid (fun i hi ht W hW _ => spagekey_in (i : Int) i (Lib.hid rfl) hi (Lib.hid ht) _ (Lib.hid rfl) W hW.mm.sv.st))
    (Lib.hid (fun i hi ht W hW _ => spagekey_dead (i : Int) i (Lib.hid rfl) (Lib.hid ht) W hW.mm.sv.st))
    hM w v0 h
theorem badd_d (M : World) (bb ib ob q m0 : Nat) (xs0 : List Value) (hm0 : m0 ≤ 1000) (ho : OwI L D) (hM : BW w0 M L D) (w : World) (v0 : Value) (h : OwS M w L.P bb ib ob q v0 m0 xs0) :
    Calls Tryz.prog 105 #[.int .i64 (L.dn : Int), .func (.func 55) #[.pointer (some ⟨L.dP, 0, none⟩)] #[], .pointer (some ⟨bb, 0, none⟩), .pointer (some ⟨ib, 0, none⟩), .pointer (some ⟨ob, 0, none⟩)] w fun e w' => e = .returned (.tuple #[]) ∧ ∃ v, OwS M w' L.P bb ib ob q v (m0 + (oks D.dt D.o3 q L.dn).length) (xs0 ++ okc 4 D.dv (oks D.dt D.o3 q L.dn)) :=
  badd_dom M bb ib ob q L.dn m0 xs0 D.o3 D.v3 D.dt D.dv hM.dn256 hm0 (Lib.hid liveK4) (Lib.hid (fun W hW i hi => hW.titl3 i (by have := hW.dn256; omega))) (Lib.hid ho.d)
    (Lib.hid (fun i hi ht W hW _ => dkey_of (i : Int) 4 (i : Int) (D.dv i) 0 0 W (fun W2 hb2 => dkeyof_in 4 (i : Int) 0 i (Lib.hid rfl) hi (Lib.hid ht) (by decide) _ (Lib.hid rfl) W2 (hW.below hb2).dd)))
    (Lib.hid (fun i hi ht W hW _ => dkey_of (i : Int) 0 0 0 0 0 W (fun W2 hb2 => dkeyof_dead 4 (i : Int) 0 i (Lib.hid rfl) (Lib.hid ht) W2 (hW.below hb2).dd)))
    hM w v0 h
end
set_option maxRecDepth 100000 in
set_option maxHeartbeats 2000000 in
theorem bowned_is {w0 : World} {L : BLoc} {D : BSt} (q : Nat) (hq : q < D.nb) (ho : OwI L D) (w : World) (h : BW w0 w L D) :
    Calls Tryz.prog 74 #[.pointer (some ⟨L.P, 0, none⟩), .int .i64 (q : Int)] w fun e w' => ∃ v, e = .returned v ∧ Below w.heap.size w w' ∧ w'.ownsRow w.heap.size 42 5 v (ownN L D q) (ownK L D q) := by
  have H := Lib.hid h
  have HO := Lib.hid ho
  have hn := h.n256
  have hnn := h.nn
  have hq256 : q < L.n := by omega
  have l1 := oks_len D.nt D.o1 q L.a.n
  have l2 := oks_len D.pt D.o2 q L.b.n
  have L1 : Hid (0 + (oks D.nt D.o1 q L.a.n).length ≤ 1000) := Lib.hid (by have := h.an; omega)
  have L2 : Hid (0 + (oks D.nt D.o1 q L.a.n).length + (oks D.pt D.o2 q L.b.n).length ≤ 1000) := Lib.hid (by have := h.an; have := h.pn; omega)
  have HTh : Hid (thN D.nb q = true) := Lib.hid (thN_at hq)
  clear l1 l2 h ho
  go_enter Tryz.func74, Tryz.ntmps74
  go_upto_region 1 with fail
  generalize hw2 : World.alloc (World.alloc w _) _ = w2
  obtain ⟨bb, hbb⟩ : ∃ bb, Hid (bb = w.heap.size) := ⟨_, Lib.hid rfl⟩
  have HB2 : Hid (Below w.heap.size w w2) := Lib.hid (by rw [← hw2]; exact ((Below.refl _ _).alloc (Nat.le_refl _) _).alloc (by simp) _)
  have HC2 : Hid (w2.cell? ⟨bb, 0, none⟩ = some (.pointer (some ⟨L.P, 0, none⟩)) ∧ w2.cell? ⟨bb + 1, 0, none⟩ = some (.int .i64 (q : Int)) ∧ w2.heap.size = bb + 2) := Lib.hid (by rw [← hw2, hbb.out]; simp)
  rw [← hbb.out]
  clear hw2
  obtain ⟨wD, hwD⟩ : ∃ wD, wD = w2.drew := ⟨_, rfl⟩
  have HBD : Hid (Below w.heap.size w wD) := Lib.hid (by rw [hwD]; exact HB2.out.drew)
  have HCD : Hid (wD.cell? ⟨bb, 0, none⟩ = some (.pointer (some ⟨L.P, 0, none⟩)) ∧ wD.cell? ⟨bb + 1, 0, none⟩ = some (.int .i64 (q : Int)) ∧ wD.heap.size = bb + 2) := Lib.hid (by rw [hwD]; exact HC2.out)
  have HWD := Lib.hid (H.out.below HBD.out)
  refine wp_region_noPanic ?_
  refine wp_region_held_drew (S := fun w' => (World.cell? w' ⟨bb, 0, none⟩ = some (.pointer (some ⟨L.P, 0, none⟩)) ∧ World.cell? w' ⟨bb + 1, 0, none⟩ = some (.int .i64 (q : Int)) ∧ World.cell? w' ⟨L.P, 0, none⟩ = some (.pointer (some ⟨L.p, 0, none⟩)))) (by kernel_rfl) (by rw [← hwD]; exact ⟨HCD.out.1, HCD.out.2.1, HWD.out.kk.f0⟩) (fun hHeld => ?_)
  rw [← hwD] at hHeld ⊢
  clear hwD
  refine wpAnyH_take (i := 0) (v := ?_) (by rfl) (by kernel_rfl) (by kernel_rfl) (by kernel_rfl) (fun _ _ _ h => h) (Or.inl ⟨by kernel_rfl, ?_⟩) (by assumption) ?_; rotate_left 1; (focus (intro w hSw; (try dsimp only at hSw); simp only [List.getElem_toArray, List.getElem_cons_succ, List.getElem_cons_zero]; all_goals go_simp; all_goals (try with_reducible rfl))); (try simp only [Act.put, List.getElem_toArray, List.getElem_cons_succ, List.getElem_cons_zero, List.setIfInBounds_toArray, List.set_cons_zero, List.set_cons_succ])
  refine wpAnyH_take (i := 1) (v := ?_) (by rfl) (by kernel_rfl) (by kernel_rfl) (by kernel_rfl) (fun _ _ _ h => h) (Or.inl ⟨by kernel_rfl, ?_⟩) (by assumption) ?_; rotate_left 1; (focus (intro w hSw; (try dsimp only at hSw); simp only [List.getElem_toArray, List.getElem_cons_succ, List.getElem_cons_zero]; all_goals go_simp; all_goals (try with_reducible rfl))); (try simp only [Act.put, List.getElem_toArray, List.getElem_cons_succ, List.getElem_cons_zero, List.setIfInBounds_toArray, List.set_cons_zero, List.set_cons_succ])
  refine wpAnyH_take (i := 2) (v := ?_) (by rfl) (by kernel_rfl) (by kernel_rfl) (by kernel_rfl) (fun _ _ _ h => h) (Or.inl ⟨by kernel_rfl, ?_⟩) (by assumption) ?_; rotate_left 1; (focus (intro w hSw; (try dsimp only at hSw); simp only [List.getElem_toArray, List.getElem_cons_succ, List.getElem_cons_zero]; all_goals go_simp; all_goals (try with_reducible rfl))); (try simp only [Act.put, List.getElem_toArray, List.getElem_cons_succ, List.getElem_cons_zero, List.setIfInBounds_toArray, List.set_cons_zero, List.set_cons_succ])
  refine wpAnyH_take (i := 3) (v := ?_) (by rfl) (by kernel_rfl) (by kernel_rfl) (by kernel_rfl) (fun _ _ _ h => h) (Or.inl ⟨by kernel_rfl, ?_⟩) (by assumption) ?_; rotate_left 1; (focus (intro w hSw; (try dsimp only at hSw); simp only [List.getElem_toArray, List.getElem_cons_succ, List.getElem_cons_zero]; all_goals go_simp; all_goals (try with_reducible rfl))); (try simp only [Act.put, List.getElem_toArray, List.getElem_cons_succ, List.getElem_cons_zero, List.setIfInBounds_toArray, List.set_cons_zero, List.set_cons_succ])
  refine wpAnyH_take (i := 4) (v := ?_) (by rfl) (by kernel_rfl) (by kernel_rfl) (by kernel_rfl) (fun _ _ _ h => h) (Or.inl ⟨by kernel_rfl, ?_⟩) (by assumption) ?_; rotate_left 1; (focus (intro w hSw; (try dsimp only at hSw); simp only [List.getElem_toArray, List.getElem_cons_succ, List.getElem_cons_zero]; all_goals go_simp; all_goals (try with_reducible rfl))); (try simp only [Act.put, List.getElem_toArray, List.getElem_cons_succ, List.getElem_cons_zero, List.setIfInBounds_toArray, List.set_cons_zero, List.set_cons_succ])
  refine wpAnyH_ready (rs := [5]) (by kernel_rfl) (by simp) ?_; refine AllReadyH.cons (by rfl) (fun K hK => ?_) AllReadyH.nil; rw [if_pos (by kernel_rfl)]; simp only [List.getElem_toArray, List.getElem_cons_succ, List.getElem_cons_zero]
  go_wp2_with (first
    | (go_at_call 63; (with_reducible refine (athere_in q hq256 true HTh _ HWD.out.kk.ar).mono ?_); rintro e w1 ⟨rfl, rfl⟩))
  refine hK.out _ _ ⟨HCD.out.1, HCD.out.2.1, HWD.out.kk.f0⟩ (fun hHeld => ?_)
  clear hK K
  (try simp only [Act.put, List.getElem_toArray, List.getElem_cons_succ, List.getElem_cons_zero, List.setIfInBounds_toArray, List.set_cons_zero, List.set_cons_succ])
  refine wpAnyH_take (i := 6) (v := ?_) (by rfl) (by kernel_rfl) (by kernel_rfl) (by kernel_rfl) (fun _ _ _ h => h) (Or.inl ⟨by kernel_rfl, ?_⟩) (by assumption) ?_; rotate_left 1; (focus (intro w hSw; (try dsimp only at hSw); simp only [List.getElem_toArray, List.getElem_cons_succ, List.getElem_cons_zero]; all_goals go_simp; all_goals (try with_reducible rfl))); (try simp only [Act.put, List.getElem_toArray, List.getElem_cons_succ, List.getElem_cons_zero, List.setIfInBounds_toArray, List.set_cons_zero, List.set_cons_succ])
  refine wpAnyH_done (by kernel_rfl) ?_ _
  refine NoPanic.normal ?_
  clear hHeld
  go_upto_region 4 with fail
  generalize hw3 : World.alloc wD _ = w3
  rw [HCD.out.2.2]
  have HS3 : Hid (OwS w w3 L.P bb (bb + 1) (bb + 2) q (.slice none 0 0) 0 []) := Lib.hid (by
    have hx := hbb.out
    have hsz := HCD.out.2.2
    have h0 : wD.heap.size < w3.heap.size := by rw [← hw3]; simp
    have hb3 : Below wD.heap.size wD w3 := by rw [← hw3]; exact (Below.refl _ _).alloc (Nat.le_refl _) _
    refine ⟨HBD.out.trans (hb3.mono HBD.out.size), ⟨by omega, by omega, by omega, by omega, by omega⟩, by omega, (hb3.cell (p := ⟨bb, 0, none⟩) (by show bb < wD.heap.size; omega)).trans HCD.out.1, (hb3.cell (p := ⟨bb + 1, 0, none⟩) (by show bb + 1 < wD.heap.size; omega)).trans HCD.out.2.1, ?_, ?_, World.ownsRow_nil _ _ _ _⟩
    · rw [← hsz, ← hw3]; simp
    · rw [← hsz, ← hw3]; simp)
  have HB3 : Hid (Below w.heap.size w w3) := Lib.hid HS3.out.bel
  have HW3 := Lib.hid (H.out.below HB3.out)
  clear hw3
  have c0 := HS3.out.b0
  have f1 := HW3.out.kk.f1
  have m0 := HW3.out.mm.m0
  have s0 := HW3.out.mm.sv.st.s0
  have p0 := HW3.out.mm.sv.st.nd.f0
  go_upto_region 6 with (first
    | (go_at_call 106; (with_reducible refine (acap_is _ HW3.out.mm.sv.st.nd.ar).mono ?_); rintro e w1 ⟨rfl, rfl⟩)
    | (go_at_call 105; (with_reducible refine (badd_n w bb (bb + 1) (bb + 2) q 0 [] (by decide) HO.out H.out _ _ HS3.out).mono ?_); rintro e w4 ⟨rfl, v4, h4⟩; have HS4 := Lib.hid h4; clear h4 c0 f1 m0 s0 p0))
  obtain ⟨wE, hwE⟩ : ∃ wE, wE = w4.drew := ⟨_, rfl⟩
  have HSE := Lib.hid (HS4.out.below (by rw [hwE]; exact (Below.refl _ _).drew) : OwS w wE L.P bb (bb + 1) (bb + 2) q v4 _ _)
  have HWE := Lib.hid (H.out.below HSE.out.bel)
  refine wp_region_noPanic ?_
  refine wp_region_held_drew (S := fun w' => (World.cell? w' ⟨bb, 0, none⟩ = some (.pointer (some ⟨L.P, 0, none⟩)) ∧ World.cell? w' ⟨L.P, 1, none⟩ = some (.pointer (some ⟨L.mb, 0, none⟩)) ∧ World.cell? w' ⟨L.mb, 0, none⟩ = some (.pointer (some ⟨L.S, 0, none⟩)) ∧ World.cell? w' ⟨L.S, 1, none⟩ = some (.pointer (some ⟨L.b.P, 0, none⟩)) ∧ World.cell? w' ⟨L.b.P, 0, none⟩ = some (.pointer (some ⟨L.b.p, 0, none⟩)))) (by kernel_rfl) (by rw [← hwE]; exact ⟨HSE.out.b0, HWE.out.kk.f1, HWE.out.mm.m0, HWE.out.mm.sv.st.s1, HWE.out.mm.sv.st.pg.f0⟩) (fun hHeld => ?_)
  rw [← hwE] at hHeld ⊢
  clear hwE
  refine wpAnyH_take (i := 0) (v := ?_) (by rfl) (by kernel_rfl) (by kernel_rfl) (by kernel_rfl) (fun _ _ _ h => h) (Or.inl ⟨by kernel_rfl, ?_⟩) (by assumption) ?_; rotate_left 1; (focus (intro w hSw; (try dsimp only at hSw); simp only [List.getElem_toArray, List.getElem_cons_succ, List.getElem_cons_zero]; all_goals go_simp; all_goals (try with_reducible rfl))); (try simp only [Act.put, List.getElem_toArray, List.getElem_cons_succ, List.getElem_cons_zero, List.setIfInBounds_toArray, List.set_cons_zero, List.set_cons_succ])
  refine wpAnyH_take (i := 1) (v := ?_) (by rfl) (by kernel_rfl) (by kernel_rfl) (by kernel_rfl) (fun _ _ _ h => h) (Or.inl ⟨by kernel_rfl, ?_⟩) (by assumption) ?_; rotate_left 1; (focus (intro w hSw; (try dsimp only at hSw); simp only [List.getElem_toArray, List.getElem_cons_succ, List.getElem_cons_zero]; all_goals go_simp; all_goals (try with_reducible rfl))); (try simp only [Act.put, List.getElem_toArray, List.getElem_cons_succ, List.getElem_cons_zero, List.setIfInBounds_toArray, List.set_cons_zero, List.set_cons_succ])
  refine wpAnyH_take (i := 2) (v := ?_) (by rfl) (by kernel_rfl) (by kernel_rfl) (by kernel_rfl) (fun _ _ _ h => h) (Or.inl ⟨by kernel_rfl, ?_⟩) (by assumption) ?_; rotate_left 1; (focus (intro w hSw; (try dsimp only at hSw); simp only [List.getElem_toArray, List.getElem_cons_succ, List.getElem_cons_zero]; all_goals go_simp; all_goals (try with_reducible rfl))); (try simp only [Act.put, List.getElem_toArray, List.getElem_cons_succ, List.getElem_cons_zero, List.setIfInBounds_toArray, List.set_cons_zero, List.set_cons_succ])
  refine wpAnyH_take (i := 3) (v := ?_) (by rfl) (by kernel_rfl) (by kernel_rfl) (by kernel_rfl) (fun _ _ _ h => h) (Or.inl ⟨by kernel_rfl, ?_⟩) (by assumption) ?_; rotate_left 1; (focus (intro w hSw; (try dsimp only at hSw); simp only [List.getElem_toArray, List.getElem_cons_succ, List.getElem_cons_zero]; all_goals go_simp; all_goals (try with_reducible rfl))); (try simp only [Act.put, List.getElem_toArray, List.getElem_cons_succ, List.getElem_cons_zero, List.setIfInBounds_toArray, List.set_cons_zero, List.set_cons_succ])
  refine wpAnyH_take (i := 4) (v := ?_) (by rfl) (by kernel_rfl) (by kernel_rfl) (by kernel_rfl) (fun _ _ _ h => h) (Or.inl ⟨by kernel_rfl, ?_⟩) (by assumption) ?_; rotate_left 1; (focus (intro w hSw; (try dsimp only at hSw); simp only [List.getElem_toArray, List.getElem_cons_succ, List.getElem_cons_zero]; all_goals go_simp; all_goals (try with_reducible rfl))); (try simp only [Act.put, List.getElem_toArray, List.getElem_cons_succ, List.getElem_cons_zero, List.setIfInBounds_toArray, List.set_cons_zero, List.set_cons_succ])
  refine wpAnyH_take (i := 5) (v := ?_) (by rfl) (by kernel_rfl) (by kernel_rfl) (by kernel_rfl) (fun _ _ _ h => h) (Or.inl ⟨by kernel_rfl, ?_⟩) (by assumption) ?_; rotate_left 1; (focus (intro w hSw; (try dsimp only at hSw); simp only [List.getElem_toArray, List.getElem_cons_succ, List.getElem_cons_zero]; all_goals go_simp; all_goals (try with_reducible rfl))); (try simp only [Act.put, List.getElem_toArray, List.getElem_cons_succ, List.getElem_cons_zero, List.setIfInBounds_toArray, List.set_cons_zero, List.set_cons_succ])
  refine wpAnyH_take (i := 6) (v := ?_) (by rfl) (by kernel_rfl) (by kernel_rfl) (by kernel_rfl) (fun _ _ _ h => h) (Or.inl ⟨by kernel_rfl, ?_⟩) (by assumption) ?_; rotate_left 1; (focus (intro w hSw; (try dsimp only at hSw); simp only [List.getElem_toArray, List.getElem_cons_succ, List.getElem_cons_zero]; all_goals go_simp; all_goals (try with_reducible rfl))); (try simp only [Act.put, List.getElem_toArray, List.getElem_cons_succ, List.getElem_cons_zero, List.setIfInBounds_toArray, List.set_cons_zero, List.set_cons_succ])
  refine wpAnyH_take (i := 7) (v := ?_) (by rfl) (by kernel_rfl) (by kernel_rfl) (by kernel_rfl) (fun _ _ _ h => h) (Or.inl ⟨by kernel_rfl, ?_⟩) (by assumption) ?_; rotate_left 1; (focus (intro w hSw; (try dsimp only at hSw); simp only [List.getElem_toArray, List.getElem_cons_succ, List.getElem_cons_zero]; all_goals go_simp; all_goals (try with_reducible rfl))); (try simp only [Act.put, List.getElem_toArray, List.getElem_cons_succ, List.getElem_cons_zero, List.setIfInBounds_toArray, List.set_cons_zero, List.set_cons_succ])
  refine wpAnyH_take (i := 8) (v := ?_) (by rfl) (by kernel_rfl) (by kernel_rfl) (by kernel_rfl) (fun _ _ _ h => h) (Or.inl ⟨by kernel_rfl, ?_⟩) (by assumption) ?_; rotate_left 1; (focus (intro w hSw; (try dsimp only at hSw); simp only [List.getElem_toArray, List.getElem_cons_succ, List.getElem_cons_zero]; all_goals go_simp; all_goals (try with_reducible rfl))); (try simp only [Act.put, List.getElem_toArray, List.getElem_cons_succ, List.getElem_cons_zero, List.setIfInBounds_toArray, List.set_cons_zero, List.set_cons_succ])
  refine wpAnyH_take (i := 9) (v := ?_) (by rfl) (by kernel_rfl) (by kernel_rfl) (by kernel_rfl) (fun _ _ _ h => h) (Or.inl ⟨by kernel_rfl, ?_⟩) (by assumption) ?_; rotate_left 1; (focus (intro w hSw; (try dsimp only at hSw); simp only [List.getElem_toArray, List.getElem_cons_succ, List.getElem_cons_zero]; all_goals go_simp; all_goals (try with_reducible rfl))); (try simp only [Act.put, List.getElem_toArray, List.getElem_cons_succ, List.getElem_cons_zero, List.setIfInBounds_toArray, List.set_cons_zero, List.set_cons_succ])
  refine wpAnyH_take (i := 10) (v := ?_) (by rfl) (by kernel_rfl) (by kernel_rfl) (by kernel_rfl) (fun _ _ _ h => h) (Or.inl ⟨by kernel_rfl, ?_⟩) (by assumption) ?_; rotate_left 1; (focus (intro w hSw; (try dsimp only at hSw); simp only [List.getElem_toArray, List.getElem_cons_succ, List.getElem_cons_zero]; all_goals go_simp; all_goals (try with_reducible rfl))); (try simp only [Act.put, List.getElem_toArray, List.getElem_cons_succ, List.getElem_cons_zero, List.setIfInBounds_toArray, List.set_cons_zero, List.set_cons_succ])
  refine wpAnyH_take (i := 11) (v := ?_) (by rfl) (by kernel_rfl) (by kernel_rfl) (by kernel_rfl) (fun _ _ _ h => h) (Or.inl ⟨by kernel_rfl, ?_⟩) (by assumption) ?_; rotate_left 1; (focus (intro w hSw; (try dsimp only at hSw); simp only [List.getElem_toArray, List.getElem_cons_succ, List.getElem_cons_zero]; all_goals go_simp; all_goals (try with_reducible rfl))); (try simp only [Act.put, List.getElem_toArray, List.getElem_cons_succ, List.getElem_cons_zero, List.setIfInBounds_toArray, List.set_cons_zero, List.set_cons_succ])
  refine wpAnyH_take (i := 12) (v := ?_) (by rfl) (by kernel_rfl) (by kernel_rfl) (by kernel_rfl) (fun _ _ _ h => h) (Or.inl ⟨by kernel_rfl, ?_⟩) (by assumption) ?_; rotate_left 1; (focus (intro w hSw; (try dsimp only at hSw); simp only [List.getElem_toArray, List.getElem_cons_succ, List.getElem_cons_zero]; all_goals go_simp; all_goals (try with_reducible rfl))); (try simp only [Act.put, List.getElem_toArray, List.getElem_cons_succ, List.getElem_cons_zero, List.setIfInBounds_toArray, List.set_cons_zero, List.set_cons_succ])
  refine wpAnyH_take (i := 13) (v := ?_) (by rfl) (by kernel_rfl) (by kernel_rfl) (by kernel_rfl) (fun _ _ _ h => h) (Or.inl ⟨by kernel_rfl, ?_⟩) (by assumption) ?_; rotate_left 1; (focus (intro w hSw; (try dsimp only at hSw); simp only [List.getElem_toArray, List.getElem_cons_succ, List.getElem_cons_zero]; all_goals go_simp; all_goals (try with_reducible rfl))); (try simp only [Act.put, List.getElem_toArray, List.getElem_cons_succ, List.getElem_cons_zero, List.setIfInBounds_toArray, List.set_cons_zero, List.set_cons_succ])
  refine wpAnyH_take (i := 15) (v := ?_) (by rfl) (by kernel_rfl) (by kernel_rfl) (by kernel_rfl) (fun _ _ _ h => h) (Or.inl ⟨by kernel_rfl, ?_⟩) (by assumption) ?_; rotate_left 1; (focus (intro w hSw; (try dsimp only at hSw); simp only [List.getElem_toArray, List.getElem_cons_succ, List.getElem_cons_zero]; all_goals go_simp; all_goals (try with_reducible rfl))); (try simp only [Act.put, List.getElem_toArray, List.getElem_cons_succ, List.getElem_cons_zero, List.setIfInBounds_toArray, List.set_cons_zero, List.set_cons_succ])
  refine wpAnyH_take (i := 16) (v := ?_) (by rfl) (by kernel_rfl) (by kernel_rfl) (by kernel_rfl) (fun _ _ _ h => h) (Or.inl ⟨by kernel_rfl, ?_⟩) (by assumption) ?_; rotate_left 1; (focus (intro w hSw; (try dsimp only at hSw); simp only [List.getElem_toArray, List.getElem_cons_succ, List.getElem_cons_zero]; all_goals go_simp; all_goals (try with_reducible rfl))); (try simp only [Act.put, List.getElem_toArray, List.getElem_cons_succ, List.getElem_cons_zero, List.setIfInBounds_toArray, List.set_cons_zero, List.set_cons_succ])
  refine wpAnyH_take (i := 17) (v := ?_) (by rfl) (by kernel_rfl) (by kernel_rfl) (by kernel_rfl) (fun _ _ _ h => h) (Or.inl ⟨by kernel_rfl, ?_⟩) (by assumption) ?_; rotate_left 1; (focus (intro w hSw; (try dsimp only at hSw); simp only [List.getElem_toArray, List.getElem_cons_succ, List.getElem_cons_zero]; all_goals go_simp; all_goals (try with_reducible rfl))); (try simp only [Act.put, List.getElem_toArray, List.getElem_cons_succ, List.getElem_cons_zero, List.setIfInBounds_toArray, List.set_cons_zero, List.set_cons_succ])
  refine wpAnyH_take (i := 18) (v := ?_) (by rfl) (by kernel_rfl) (by kernel_rfl) (by kernel_rfl) (fun _ _ _ h => h) (Or.inl ⟨by kernel_rfl, ?_⟩) (by assumption) ?_; rotate_left 1; (focus (intro w hSw; (try dsimp only at hSw); simp only [List.getElem_toArray, List.getElem_cons_succ, List.getElem_cons_zero]; all_goals go_simp; all_goals (try with_reducible rfl))); (try simp only [Act.put, List.getElem_toArray, List.getElem_cons_succ, List.getElem_cons_zero, List.setIfInBounds_toArray, List.set_cons_zero, List.set_cons_succ])
  refine wpAnyH_take (i := 19) (v := ?_) (by rfl) (by kernel_rfl) (by kernel_rfl) (by kernel_rfl) (fun _ _ _ h => h) (Or.inl ⟨by kernel_rfl, ?_⟩) (by assumption) ?_; rotate_left 1; (focus (intro w hSw; (try dsimp only at hSw); simp only [List.getElem_toArray, List.getElem_cons_succ, List.getElem_cons_zero]; all_goals go_simp; all_goals (try with_reducible rfl))); (try simp only [Act.put, List.getElem_toArray, List.getElem_cons_succ, List.getElem_cons_zero, List.setIfInBounds_toArray, List.set_cons_zero, List.set_cons_succ])
  refine wpAnyH_take (i := 20) (v := ?_) (by rfl) (by kernel_rfl) (by kernel_rfl) (by kernel_rfl) (fun _ _ _ h => h) (Or.inl ⟨by kernel_rfl, ?_⟩) (by assumption) ?_; rotate_left 1; (focus (intro w hSw; (try dsimp only at hSw); simp only [List.getElem_toArray, List.getElem_cons_succ, List.getElem_cons_zero]; all_goals go_simp; all_goals (try with_reducible rfl))); (try simp only [Act.put, List.getElem_toArray, List.getElem_cons_succ, List.getElem_cons_zero, List.setIfInBounds_toArray, List.set_cons_zero, List.set_cons_succ])
  refine wpAnyH_take (i := 21) (v := ?_) (by rfl) (by kernel_rfl) (by kernel_rfl) (by kernel_rfl) (fun _ _ _ h => h) (Or.inl ⟨by kernel_rfl, ?_⟩) (by assumption) ?_; rotate_left 1; (focus (intro w hSw; (try dsimp only at hSw); simp only [List.getElem_toArray, List.getElem_cons_succ, List.getElem_cons_zero]; all_goals go_simp; all_goals (try with_reducible rfl))); (try simp only [Act.put, List.getElem_toArray, List.getElem_cons_succ, List.getElem_cons_zero, List.setIfInBounds_toArray, List.set_cons_zero, List.set_cons_succ])
  refine wpAnyH_take (i := 22) (v := ?_) (by rfl) (by kernel_rfl) (by kernel_rfl) (by kernel_rfl) (fun _ _ _ h => h) (Or.inl ⟨by kernel_rfl, ?_⟩) (by assumption) ?_; rotate_left 1; (focus (intro w hSw; (try dsimp only at hSw); simp only [List.getElem_toArray, List.getElem_cons_succ, List.getElem_cons_zero]; all_goals go_simp; all_goals (try with_reducible rfl))); (try simp only [Act.put, List.getElem_toArray, List.getElem_cons_succ, List.getElem_cons_zero, List.setIfInBounds_toArray, List.set_cons_zero, List.set_cons_succ])
  refine wpAnyH_ready (rs := [14]) (by kernel_rfl) (by simp) ?_; refine AllReadyH.cons (by rfl) (fun K hK => ?_) AllReadyH.nil; rw [if_pos (by kernel_rfl)]; simp only [List.getElem_toArray, List.getElem_cons_succ, List.getElem_cons_zero]
  go_wp2_with (first
    | (go_at_call 106; (with_reducible refine (acap_is _ HWE.out.mm.sv.st.pg.ar).mono ?_); rintro e w1 ⟨rfl, rfl⟩))
  refine hK.out _ _ ⟨HSE.out.b0, HWE.out.kk.f1, HWE.out.mm.m0, HWE.out.mm.sv.st.s1, HWE.out.mm.sv.st.pg.f0⟩ (fun hHeld => ?_)
  clear hK K
  (try simp only [Act.put, List.getElem_toArray, List.getElem_cons_succ, List.getElem_cons_zero, List.setIfInBounds_toArray, List.set_cons_zero, List.set_cons_succ])
  refine wpAnyH_ready (rs := [23]) (by kernel_rfl) (by simp) ?_; refine AllReadyH.cons (by rfl) (fun K hK => ?_) AllReadyH.nil; rw [if_pos (by kernel_rfl)]; simp only [List.getElem_toArray, List.getElem_cons_succ, List.getElem_cons_zero]
  go_wp2_with (first
    | (go_at_call 105; (with_reducible refine (badd_p w bb (bb + 1) (bb + 2) q _ _ L1.out HO.out H.out _ _ HSE.out).mono ?_); rintro e w5 ⟨rfl, v5, h5⟩; have HS5 := Lib.hid h5; clear h5))
  have HW5 := Lib.hid (H.out.below HS5.out.bel)
  refine hK.out _ _ ⟨HS5.out.b0, HW5.out.kk.f1, HW5.out.mm.m0, HW5.out.mm.sv.st.s1, HW5.out.mm.sv.st.pg.f0⟩ (fun hHeld => ?_)
  clear hK K
  (try simp only [Act.put, List.getElem_toArray, List.getElem_cons_succ, List.getElem_cons_zero, List.setIfInBounds_toArray, List.set_cons_zero, List.set_cons_succ])
  refine wpAnyH_done (by kernel_rfl) ?_ _
  refine NoPanic.normal ?_
  clear hHeld
  go_upto_region 7 with fail
  obtain ⟨wF, hwF⟩ : ∃ wF, wF = w5.drew := ⟨_, rfl⟩
  have HSF := Lib.hid (HS5.out.below (by rw [hwF]; exact (Below.refl _ _).drew) : OwS w wF L.P bb (bb + 1) (bb + 2) q v5 _ _)
  have HWF := Lib.hid (H.out.below HSF.out.bel)
  refine wp_region_noPanic ?_
  refine wp_region_held_drew (S := fun w' => (World.cell? w' ⟨bb, 0, none⟩ = some (.pointer (some ⟨L.P, 0, none⟩)) ∧ World.cell? w' ⟨L.P, 2, none⟩ = some (.pointer (some ⟨L.dP, 0, none⟩)) ∧ World.cell? w' ⟨L.dP, 0, none⟩ = some (.pointer (some ⟨L.dp, 0, none⟩)))) (by kernel_rfl) (by rw [← hwF]; exact ⟨HSF.out.b0, HWF.out.kk.f2, HWF.out.dd.pl.f0⟩) (fun hHeld => ?_)
  rw [← hwF] at hHeld ⊢
  clear hwF
  refine wpAnyH_take (i := 0) (v := ?_) (by rfl) (by kernel_rfl) (by kernel_rfl) (by kernel_rfl) (fun _ _ _ h => h) (Or.inl ⟨by kernel_rfl, ?_⟩) (by assumption) ?_; rotate_left 1; (focus (intro w hSw; (try dsimp only at hSw); simp only [List.getElem_toArray, List.getElem_cons_succ, List.getElem_cons_zero]; all_goals go_simp; all_goals (try with_reducible rfl))); (try simp only [Act.put, List.getElem_toArray, List.getElem_cons_succ, List.getElem_cons_zero, List.setIfInBounds_toArray, List.set_cons_zero, List.set_cons_succ])
  refine wpAnyH_take (i := 1) (v := ?_) (by rfl) (by kernel_rfl) (by kernel_rfl) (by kernel_rfl) (fun _ _ _ h => h) (Or.inl ⟨by kernel_rfl, ?_⟩) (by assumption) ?_; rotate_left 1; (focus (intro w hSw; (try dsimp only at hSw); simp only [List.getElem_toArray, List.getElem_cons_succ, List.getElem_cons_zero]; all_goals go_simp; all_goals (try with_reducible rfl))); (try simp only [Act.put, List.getElem_toArray, List.getElem_cons_succ, List.getElem_cons_zero, List.setIfInBounds_toArray, List.set_cons_zero, List.set_cons_succ])
  refine wpAnyH_take (i := 2) (v := ?_) (by rfl) (by kernel_rfl) (by kernel_rfl) (by kernel_rfl) (fun _ _ _ h => h) (Or.inl ⟨by kernel_rfl, ?_⟩) (by assumption) ?_; rotate_left 1; (focus (intro w hSw; (try dsimp only at hSw); simp only [List.getElem_toArray, List.getElem_cons_succ, List.getElem_cons_zero]; all_goals go_simp; all_goals (try with_reducible rfl))); (try simp only [Act.put, List.getElem_toArray, List.getElem_cons_succ, List.getElem_cons_zero, List.setIfInBounds_toArray, List.set_cons_zero, List.set_cons_succ])
  refine wpAnyH_take (i := 3) (v := ?_) (by rfl) (by kernel_rfl) (by kernel_rfl) (by kernel_rfl) (fun _ _ _ h => h) (Or.inl ⟨by kernel_rfl, ?_⟩) (by assumption) ?_; rotate_left 1; (focus (intro w hSw; (try dsimp only at hSw); simp only [List.getElem_toArray, List.getElem_cons_succ, List.getElem_cons_zero]; all_goals go_simp; all_goals (try with_reducible rfl))); (try simp only [Act.put, List.getElem_toArray, List.getElem_cons_succ, List.getElem_cons_zero, List.setIfInBounds_toArray, List.set_cons_zero, List.set_cons_succ])
  refine wpAnyH_take (i := 4) (v := ?_) (by rfl) (by kernel_rfl) (by kernel_rfl) (by kernel_rfl) (fun _ _ _ h => h) (Or.inl ⟨by kernel_rfl, ?_⟩) (by assumption) ?_; rotate_left 1; (focus (intro w hSw; (try dsimp only at hSw); simp only [List.getElem_toArray, List.getElem_cons_succ, List.getElem_cons_zero]; all_goals go_simp; all_goals (try with_reducible rfl))); (try simp only [Act.put, List.getElem_toArray, List.getElem_cons_succ, List.getElem_cons_zero, List.setIfInBounds_toArray, List.set_cons_zero, List.set_cons_succ])
  refine wpAnyH_take (i := 5) (v := ?_) (by rfl) (by kernel_rfl) (by kernel_rfl) (by kernel_rfl) (fun _ _ _ h => h) (Or.inl ⟨by kernel_rfl, ?_⟩) (by assumption) ?_; rotate_left 1; (focus (intro w hSw; (try dsimp only at hSw); simp only [List.getElem_toArray, List.getElem_cons_succ, List.getElem_cons_zero]; all_goals go_simp; all_goals (try with_reducible rfl))); (try simp only [Act.put, List.getElem_toArray, List.getElem_cons_succ, List.getElem_cons_zero, List.setIfInBounds_toArray, List.set_cons_zero, List.set_cons_succ])
  refine wpAnyH_take (i := 6) (v := ?_) (by rfl) (by kernel_rfl) (by kernel_rfl) (by kernel_rfl) (fun _ _ _ h => h) (Or.inl ⟨by kernel_rfl, ?_⟩) (by assumption) ?_; rotate_left 1; (focus (intro w hSw; (try dsimp only at hSw); simp only [List.getElem_toArray, List.getElem_cons_succ, List.getElem_cons_zero]; all_goals go_simp; all_goals (try with_reducible rfl))); (try simp only [Act.put, List.getElem_toArray, List.getElem_cons_succ, List.getElem_cons_zero, List.setIfInBounds_toArray, List.set_cons_zero, List.set_cons_succ])
  refine wpAnyH_take (i := 7) (v := ?_) (by rfl) (by kernel_rfl) (by kernel_rfl) (by kernel_rfl) (fun _ _ _ h => h) (Or.inl ⟨by kernel_rfl, ?_⟩) (by assumption) ?_; rotate_left 1; (focus (intro w hSw; (try dsimp only at hSw); simp only [List.getElem_toArray, List.getElem_cons_succ, List.getElem_cons_zero]; all_goals go_simp; all_goals (try with_reducible rfl))); (try simp only [Act.put, List.getElem_toArray, List.getElem_cons_succ, List.getElem_cons_zero, List.setIfInBounds_toArray, List.set_cons_zero, List.set_cons_succ])
  refine wpAnyH_take (i := 9) (v := ?_) (by rfl) (by kernel_rfl) (by kernel_rfl) (by kernel_rfl) (fun _ _ _ h => h) (Or.inl ⟨by kernel_rfl, ?_⟩) (by assumption) ?_; rotate_left 1; (focus (intro w hSw; (try dsimp only at hSw); simp only [List.getElem_toArray, List.getElem_cons_succ, List.getElem_cons_zero]; all_goals go_simp; all_goals (try with_reducible rfl))); (try simp only [Act.put, List.getElem_toArray, List.getElem_cons_succ, List.getElem_cons_zero, List.setIfInBounds_toArray, List.set_cons_zero, List.set_cons_succ])
  refine wpAnyH_take (i := 10) (v := ?_) (by rfl) (by kernel_rfl) (by kernel_rfl) (by kernel_rfl) (fun _ _ _ h => h) (Or.inl ⟨by kernel_rfl, ?_⟩) (by assumption) ?_; rotate_left 1; (focus (intro w hSw; (try dsimp only at hSw); simp only [List.getElem_toArray, List.getElem_cons_succ, List.getElem_cons_zero]; all_goals go_simp; all_goals (try with_reducible rfl))); (try simp only [Act.put, List.getElem_toArray, List.getElem_cons_succ, List.getElem_cons_zero, List.setIfInBounds_toArray, List.set_cons_zero, List.set_cons_succ])
  refine wpAnyH_take (i := 11) (v := ?_) (by rfl) (by kernel_rfl) (by kernel_rfl) (by kernel_rfl) (fun _ _ _ h => h) (Or.inl ⟨by kernel_rfl, ?_⟩) (by assumption) ?_; rotate_left 1; (focus (intro w hSw; (try dsimp only at hSw); simp only [List.getElem_toArray, List.getElem_cons_succ, List.getElem_cons_zero]; all_goals go_simp; all_goals (try with_reducible rfl))); (try simp only [Act.put, List.getElem_toArray, List.getElem_cons_succ, List.getElem_cons_zero, List.setIfInBounds_toArray, List.set_cons_zero, List.set_cons_succ])
  refine wpAnyH_take (i := 12) (v := ?_) (by rfl) (by kernel_rfl) (by kernel_rfl) (by kernel_rfl) (fun _ _ _ h => h) (Or.inl ⟨by kernel_rfl, ?_⟩) (by assumption) ?_; rotate_left 1; (focus (intro w hSw; (try dsimp only at hSw); simp only [List.getElem_toArray, List.getElem_cons_succ, List.getElem_cons_zero]; all_goals go_simp; all_goals (try with_reducible rfl))); (try simp only [Act.put, List.getElem_toArray, List.getElem_cons_succ, List.getElem_cons_zero, List.setIfInBounds_toArray, List.set_cons_zero, List.set_cons_succ])
  refine wpAnyH_take (i := 13) (v := ?_) (by rfl) (by kernel_rfl) (by kernel_rfl) (by kernel_rfl) (fun _ _ _ h => h) (Or.inl ⟨by kernel_rfl, ?_⟩) (by assumption) ?_; rotate_left 1; (focus (intro w hSw; (try dsimp only at hSw); simp only [List.getElem_toArray, List.getElem_cons_succ, List.getElem_cons_zero]; all_goals go_simp; all_goals (try with_reducible rfl))); (try simp only [Act.put, List.getElem_toArray, List.getElem_cons_succ, List.getElem_cons_zero, List.setIfInBounds_toArray, List.set_cons_zero, List.set_cons_succ])
  refine wpAnyH_ready (rs := [8]) (by kernel_rfl) (by simp) ?_; refine AllReadyH.cons (by rfl) (fun K hK => ?_) AllReadyH.nil; rw [if_pos (by kernel_rfl)]; simp only [List.getElem_toArray, List.getElem_cons_succ, List.getElem_cons_zero]
  go_wp2_with (first
    | (go_at_call 106; (with_reducible refine (acap_is _ HWF.out.dd.pl.ar).mono ?_); rintro e w1 ⟨rfl, rfl⟩))
  refine hK.out _ _ ⟨HSF.out.b0, HWF.out.kk.f2, HWF.out.dd.pl.f0⟩ (fun hHeld => ?_)
  clear hK K
  (try simp only [Act.put, List.getElem_toArray, List.getElem_cons_succ, List.getElem_cons_zero, List.setIfInBounds_toArray, List.set_cons_zero, List.set_cons_succ])
  refine wpAnyH_ready (rs := [14]) (by kernel_rfl) (by simp) ?_; refine AllReadyH.cons (by rfl) (fun K hK => ?_) AllReadyH.nil; rw [if_pos (by kernel_rfl)]; simp only [List.getElem_toArray, List.getElem_cons_succ, List.getElem_cons_zero]
  go_wp2_with (first
    | (go_at_call 105; (with_reducible refine (badd_d w bb (bb + 1) (bb + 2) q _ _ L2.out HO.out H.out _ _ HSF.out).mono ?_); rintro e w6 ⟨rfl, v6, h6⟩; have HS6 := Lib.hid h6; clear h6))
  have HW6 := Lib.hid (H.out.below HS6.out.bel)
  refine hK.out _ _ ⟨HS6.out.b0, HW6.out.kk.f2, HW6.out.dd.pl.f0⟩ (fun hHeld => ?_)
  clear hK K
  (try simp only [Act.put, List.getElem_toArray, List.getElem_cons_succ, List.getElem_cons_zero, List.setIfInBounds_toArray, List.set_cons_zero, List.set_cons_succ])
  refine wpAnyH_done (by kernel_rfl) ?_ _
  refine NoPanic.normal ?_
  clear hHeld
  have z0 := HS6.out.o0
  go_wp2_with fail
  go_ret
  have hr := HS6.out.row
  rw [Nat.zero_add, List.nil_append] at hr
  exact ⟨_, rfl, HS6.out.bel, own_base hr (by have := hbb.out; omega)⟩
end Go.Proofs.YtncopdhhchmpeaaGreatDoor
namespace Go.Proofs.YtncopdhhchmpeaaGreatDoor
open Go.ChangeShapes Go.WideShapes Go.ChangeAt Go.RowKit
set_option linter.unusedVariables false
set_option linter.unusedSimpArgs false
theorem thN_out {k i : Nat} (h : k ≤ i) : thN k i = false := by simp [thN]; omega
set_option maxRecDepth 100000 in
set_option maxHeartbeats 1000000 in
theorem bchain_out {base P p B A G1 G2 G3 n c mb db nb : Nat} {pr us lm o1 v1 o2 v2 o3 v3 : Nat → Int} (i : Nat) (hi : nb ≤ i) (hin : i < n) (w : World) (h : BkAt w base P p B A G1 G2 G3 n c mb db (thN nb) (fun _ => 0) pr us lm o1 v1 o2 v2 o3 v3) :
    Calls Tryz.prog 77 #[.pointer (some ⟨P, 0, none⟩), .int .i64 (i : Int)] w fun e w' => e = .returned (.slice none 0 0) ∧ Below w.heap.size w w' := by
  have H := Lib.hid h
  have f0 := h.f0
  have HT : Hid (thN nb i = false) := Lib.hid (thN_out hi)
  clear h
  go_enter Tryz.func77, Tryz.ntmps77
  go_wp2_with fail
  go_loopw [1, 5] (fun x v wr => x = .int .i64 (i : Int) ∧ v = .slice none 0 0 ∧ wr = w) (fun _ _ _ => 0)
  case atStart => exact ⟨rfl, rfl, rfl⟩
  case round =>
    obtain ⟨rfl, rfl, rfl⟩ := hrel
    go_wp2_with (first
      | (go_at_call 63; (with_reducible refine (athere_in i hin false HT _ H.out.ar).mono ?_); rintro e w1 ⟨rfl, rfl⟩))
    go_ret
    exact ⟨rfl, Below.refl _ _⟩
set_option maxRecDepth 100000 in
set_option maxHeartbeats 1000000 in
theorem bwithin_out {base P p B A G1 G2 G3 n c mb db nb : Nat} {pr us lm o1 v1 o2 v2 o3 v3 : Nat → Int} (i : Nat) (z : Int) (hi : nb ≤ i) (hin : i < n) (w : World) (h : BkAt w base P p B A G1 G2 G3 n c mb db (thN nb) (fun _ => 0) pr us lm o1 v1 o2 v2 o3 v3) :
    Calls Tryz.prog 104 #[.pointer (some ⟨P, 0, none⟩), .int .i64 (i : Int), .int .i64 z] w fun e w' => e = .returned (.bool false) ∧ Below w.heap.size w w' := by
  have H := Lib.hid h
  clear h
  go_enter Tryz.func104, Tryz.ntmps104
  go_wp2_with (first
    | (go_at_call 77; (with_reducible refine (bchain_out i hi hin _ H.out).mono ?_); rintro e w1 ⟨rfl, hb⟩; have HB1 := Lib.hid hb; have HCo := Lib.hid (scon_any w1 1 (.slice none 0 0) [] 0 (Lib.hid rfl) (by decide) z false (Lib.hid rfl) none 0 rfl (World.ownsRow_nil _ _ _ _)); clear hb)
    | (go_at_call 71; (with_reducible refine HCo.out.mono ?_); rintro e w2 ⟨rfl, rfl⟩))
  go_ret
  exact ⟨rfl, HB1.out⟩
/-- Those below n that are in, or within bank z. -/
def inL (nb : Nat) (pr : Nat → Int) (z : Int) (n : Nat) : List Nat := (List.range n).filter (fun i => decide (i < nb) && (chL pr (i : Int)).contains z)
theorem inL_yes {nb : Nat} {pr : Nat → Int} {z : Int} (n : Nat) (h : (decide (n < nb) && (chL pr (n : Int)).contains z) = true) : inL nb pr z (n + 1) = inL nb pr z n ++ [n] := by
  unfold inL; rw [List.range_succ, List.filter_append]; simp only [List.filter_cons, List.filter_nil, h, if_true]
theorem inL_no {nb : Nat} {pr : Nat → Int} {z : Int} (n : Nat) (h : (decide (n < nb) && (chL pr (n : Int)).contains z) = false) : inL nb pr z (n + 1) = inL nb pr z n := by
  unfold inL; rw [List.range_succ, List.filter_append]; simp only [List.filter_cons, List.filter_nil, h]; simp
theorem inL_len (nb : Nat) (pr : Nat → Int) (z : Int) (n : Nat) : (inL nb pr z n).length ≤ n := by
  have := List.length_filter_le (fun i => decide (i < nb) && (chL pr (i : Int)).contains z) (List.range n)
  simpa [inL] using this
def ivals (l : List Nat) : List Value := l.map (fun (i : Nat) => Value.int .i64 (i : Int))
set_option maxRecDepth 100000 in
set_option maxHeartbeats 1000000 in
theorem binner_is {base P p B A G1 G2 G3 n c mb db nb : Nat} {pr us lm o1 v1 o2 v2 o3 v3 : Nat → Int} (z : Int) (hnb : nb ≤ n) (hpr : Hid (PrOk nb pr)) (w : World) (h : BkAt w base P p B A G1 G2 G3 n c mb db (thN nb) (fun _ => 0) pr us lm o1 v1 o2 v2 o3 v3) :
    Calls Tryz.prog 73 #[.pointer (some ⟨P, 0, none⟩), .int .i64 z] w fun e w' => ∃ v, e = .returned v ∧ w'.ownsRow w.heap.size 3 1 v (inL nb pr z n).length (ivals (inL nb pr z n)) ∧ Below w.heap.size w w' := by
  have H := Lib.hid h
  have hn := h.ar.le
  have f3 := h.f3
  obtain ⟨i0, hi, hz0, hz1, hz2⟩ := info_parts infoIntB
  have HI := Lib.hid (⟨hi, hz0, hz1, hz2⟩ : Tryz.prog.info? 3 = some i0 ∧ i0.zero = some (.int .i64 0) ∧ i0.size = 1 ∧ i0.bytes = 8)
  clear h hi hz0 hz1 hz2
  go_enter Tryz.func73, Tryz.ntmps73
  go_wp2_with fail
  go_loopw [5, 12] (fun v x wr => ∃ (i : Nat), x = .int .i64 (i : Int) ∧ i ≤ n ∧ wr.ownsRow w.heap.size 3 1 v (inL nb pr z i).length (ivals (inL nb pr z i)) ∧ Below w.heap.size w wr) (fun _ x _ => n - (intOf x).toNat)
  case atStart => exact ⟨0, rfl, Nat.zero_le _, World.ownsRow_nil _ _ _ _, Below.refl _ _⟩
  case round =>
    obtain ⟨i, rfl, hin, hown, hbel⟩ := hrel
    have hle := inL_len nb pr z i
    have hh := hown
    have HL := Lib.hid hbel
    have HM := Lib.hid (H.out.below hbel)
    obtain ⟨m, hm⟩ : ∃ m, Hid ((inL nb pr z i).length = m) := ⟨_, Lib.hid rfl⟩
    obtain ⟨xs, hxs⟩ : ∃ xs, Hid (ivals (inL nb pr z i) = xs) := ⟨_, Lib.hid rfl⟩
    rw [hm.out, hxs.out] at hh
    rw [hm.out] at hle
    have HW := Lib.hid hh
    have g0 : (0 : Int) ≤ i := by omega
    clear hown hbel hh
    by_cases hlt : i < n
    · obtain ⟨t, ht⟩ : ∃ t, Hid ((decide (i < nb) && (chL pr (i : Int)).contains z) = t) := ⟨_, Lib.hid rfl⟩
      have HWi : Hid (Calls Tryz.prog 104 #[.pointer (some ⟨P, 0, none⟩), .int .i64 (i : Int), .int .i64 z] wr fun e w' => e = .returned (.bool t) ∧ Below wr.heap.size wr w') := Lib.hid (by
        by_cases hi : i < nb
        · exact bwithin_is (i : Int) z t (by omega) (by omega) hnb hpr (Lib.hid (by rw [← ht.out, decide_eq_true hi]; rfl)) wr HM.out
        · have e : t = false := by rw [← ht.out, decide_eq_false hi]; rfl
          rw [e]
          exact bwithin_out i z (by omega) hlt wr HM.out)
      cases t
      · go_wp2_with (first
          | (go_at_call 104; (with_reducible refine HWi.out.mono ?_); rintro e w1 ⟨rfl, hb⟩; have HB1 := Lib.hid (HL.out.trans (hb.mono HL.out.size)); have HW1 := Lib.hid (row_same' HW.out (fun g hg => hb.block g (HW.out.lt g hg).2)); clear hb))
        go_roundw
        case rel => exact ⟨i + 1, by go_num, by omega, by rw [inL_no i ht.out, hm.out, hxs.out]; exact HW1.out, HB1.out⟩
        case measure => simp [intOf]; omega
      · go_wp2_with (first
          | (go_at_call 104; (with_reducible refine HWi.out.mono ?_); rintro e w1 ⟨rfl, hb⟩; have HB1 := Lib.hid (HL.out.trans (hb.mono HL.out.size)); have HW1 := Lib.hid (row_same' HW.out (fun g hg => hb.block g (HW.out.lt g hg).2)); clear hb)
          | (at_builtin; refine wpList_append_own _ rfl _ _ 57 rfl w.heap.size 3 i0 (.int .i64 0) 1 8 Tryz.underlying57 HI.out.1 HI.out.2.1 HI.out.2.2.1 HI.out.2.2.2 rfl (by decide) _ _ _ rfl (HW1.out.alloc _) ⟨w1.heap.size, 0, none⟩ 1 1 [.int .i64 (i : Int)] rfl rfl (cell_one_new _ _ _) (ints_oneCell .i64 [(i : Int)]) (by unfold maxLen; omega) (by omega) (by have := HB1.out.size; simp; omega) ?_; intro v' w2 hown' hgrow' _; have HB2 : Hid (Below w.heap.size w w2) := Lib.hid ((HB1.out.alloc HB1.out.size _).grown hgrow' (by have := HB1.out.size; simp; omega) (fun g hg => (HW1.out.lt g hg).1)); have HO2 := Lib.hid hown'; clear hown' hgrow'))
        go_roundw
        case rel => exact ⟨i + 1, by go_num, by omega, by rw [inL_yes i ht.out, List.length_append, hm.out]; unfold ivals; rw [List.map_append]; have e := hxs.out; unfold ivals at e; rw [e]; exact HO2.out, HB2.out⟩
        case measure => simp [intOf]; omega
    · have e : i = n := by omega
      go_wp2_with fail
      go_ret
      exact ⟨_, rfl, by rw [← e, hm.out, hxs.out]; exact HW.out, HL.out⟩
end Go.Proofs.YtncopdhhchmpeaaGreatDoor
namespace Go.Proofs.YtncopdhhchmpeaaGreatDoor
open Go.ChangeShapes Go.WideShapes Go.ChangeAt Go.RowKit
set_option linter.unusedVariables false
set_option linter.unusedSimpArgs false
/-- What these places were is given back. -/
def gT (T : Nat → Bool) (l : List Nat) : Nat → Bool := fun i => if i ∈ l then false else T i
def gV (V : Nat → Int) (l : List Nat) : Nat → Int := fun i => if i ∈ l then V i + 1 else V i
def gO (o : Nat → Int) (x : Int) (l : List Nat) : Nat → Int := fun i => if i ∈ l then x else o i
theorem gT_nil (T : Nat → Bool) : gT T [] = T := by funext i; simp [gT]
theorem gV_nil (V : Nat → Int) : gV V [] = V := by funext i; simp [gV]
theorem gO_nil (o : Nat → Int) (x : Int) : gO o x [] = o := by funext i; simp [gO]
theorem gT_put (T : Nat → Bool) (l : List Nat) (k : Nat) : upd (gT T l) k false = gT T (l ++ [k]) := by
  funext i; unfold upd gT; by_cases e : i = k <;> simp [e]
theorem gV_put (V : Nat → Int) (l : List Nat) (k : Nat) (h : k ∉ l) : upd (gV V l) k (V k + 1) = gV V (l ++ [k]) := by
  funext i; unfold upd gV
  by_cases e : i = k
  · subst e; simp
  · simp [e]
theorem gO_put (o : Nat → Int) (x : Int) (l : List Nat) (k : Nat) : upd (gO o x l) k x = gO o x (l ++ [k]) := by
  funext i; unfold upd gO; by_cases e : i = k <;> simp [e]
def gI (D : BSt) (a b c : List Nat) : BSt := { D with nt := gT D.nt a, nv := gV D.nv a, o1 := gO D.o1 (-1) a, v1 := gO D.v1 0 a, pt := gT D.pt b, pv := gV D.pv b, o2 := gO D.o2 (-1) b, v2 := gO D.v2 0 b, dt := gT D.dt c, dv := gV D.dv c, o3 := gO D.o3 (-1) c, v3 := gO D.v3 0 c }
theorem gI_nil (D : BSt) : gI D [] [] [] = D := by unfold gI; simp only [gT_nil, gV_nil, gO_nil]
theorem gI_n (D : BSt) (a b c : List Nat) (k : Nat) (h : k ∉ a) : { gI D a b c with nt := upd (gI D a b c).nt k false, nv := upd (gI D a b c).nv k (D.nv k + 1), o1 := upd (gI D a b c).o1 k (-1), v1 := upd (gI D a b c).v1 k 0 } = gI D (a ++ [k]) b c := by
  unfold gI; simp only [gT_put, gV_put _ _ _ h, gO_put]
theorem gI_p (D : BSt) (a b c : List Nat) (k : Nat) (h : k ∉ b) : { gI D a b c with pt := upd (gI D a b c).pt k false, pv := upd (gI D a b c).pv k (D.pv k + 1), o2 := upd (gI D a b c).o2 k (-1), v2 := upd (gI D a b c).v2 k 0 } = gI D a (b ++ [k]) c := by
  unfold gI; simp only [gT_put, gV_put _ _ _ h, gO_put]
theorem gI_d (D : BSt) (a b c : List Nat) (k : Nat) (h : k ∉ c) : { gI D a b c with dt := upd (gI D a b c).dt k false, dv := upd (gI D a b c).dv k (D.dv k + 1), o3 := upd (gI D a b c).o3 k (-1), v3 := upd (gI D a b c).v3 k 0 } = gI D a b (c ++ [k]) := by
  unfold gI; simp only [gT_put, gV_put _ _ _ h, gO_put]
theorem gV_out {V : Nat → Int} {l : List Nat} {k : Nat} (h : k ∉ l) : gV V l k = V k := if_neg h
theorem oks_mem {T : Nat → Bool} {o : Nat → Int} {q n i : Nat} : i ∈ oks T o q n ↔ i < n ∧ T i = true ∧ o i = (q : Int) := by
  unfold oks; simp
theorem oks_nodup (T : Nat → Bool) (o : Nat → Int) (q n : Nat) : (oks T o q n).Nodup := List.nodup_range.filter _
theorem oks_g (T : Nat → Bool) (o : Nat → Int) (q n : Nat) (x : Int) (l : List Nat) (h : ∀ i, i ∈ l → o i ≠ (q : Int)) : oks (gT T l) (gO o x l) q n = oks T o q n := by
  unfold oks
  refine List.filter_congr (fun i _ => ?_)
  by_cases e : i ∈ l
  · have h1 := h i e
    simp [gT, gO, e, h1]
  · simp [gT, gO, e]
theorem okc_g (k0 : Int) (V : Nat → Int) (l ids : List Nat) (h : ∀ i, i ∈ ids → i ∉ l) : okc k0 (gV V l) ids = okc k0 V ids := by
  induction ids with
  | nil => rfl
  | cons i ids ih =>
    have e : ∀ V' : Nat → Int, okc k0 V' (i :: ids) = [.int .i64 k0, .int .i64 (i : Int), .int .i64 (V' i), .int .i64 0, .int .u32 0] ++ okc k0 V' ids := fun V' => by simp [okc]
    rw [e, e, ih (fun j hj => h j (List.mem_cons_of_mem _ hj)), gV_out (h i List.mem_cons_self)]
/-- What is of these banks. -/
def ofL (T : Nat → Bool) (o : Nat → Int) (n : Nat) (l : List Nat) : List Nat := l.flatMap (fun q => oks T o q n)
theorem ofL_mem {T : Nat → Bool} {o : Nat → Int} {n : Nat} {l : List Nat} {i : Nat} : i ∈ ofL T o n l ↔ i < n ∧ T i = true ∧ ∃ q, q ∈ l ∧ o i = (q : Int) := by
  unfold ofL
  rw [List.mem_flatMap]
  constructor
  · rintro ⟨q, hq, h⟩
    obtain ⟨h1, h2, h3⟩ := oks_mem.1 h
    exact ⟨h1, h2, q, hq, h3⟩
  · rintro ⟨h1, h2, q, hq, h3⟩
    exact ⟨q, hq, oks_mem.2 ⟨h1, h2, h3⟩⟩
theorem ofL_snoc (T : Nat → Bool) (o : Nat → Int) (n : Nat) (l : List Nat) (q : Nat) : ofL T o n (l ++ [q]) = ofL T o n l ++ oks T o q n := by simp [ofL]
theorem ofL_out {T : Nat → Bool} {o : Nat → Int} {n : Nat} {l : List Nat} {q : Nat} (hq : q ∉ l) : ∀ i, i ∈ ofL T o n l → o i ≠ (q : Int) := fun i hi e => by
  obtain ⟨_, _, q', h1, h2⟩ := ofL_mem.1 hi
  have : q = q' := by omega
  exact hq (this ▸ h1)
theorem ofL_dis {T : Nat → Bool} {o : Nat → Int} {n : Nat} {l : List Nat} {q : Nat} (hq : q ∉ l) : ∀ i, i ∈ oks T o q n → i ∉ ofL T o n l := fun i hi h => ofL_out hq i h (oks_mem.1 hi).2.2
/-- These banks' things are given back. -/
def gB (L : BLoc) (D : BSt) (l : List Nat) : BSt := gI D (ofL D.nt D.o1 L.a.n l) (ofL D.pt D.o2 L.b.n l) (ofL D.dt D.o3 L.dn l)
theorem gB_ownN (L : BLoc) (D : BSt) (l : List Nat) (q : Nat) (hq : q ∉ l) : ownN L (gB L D l) q = ownN L D q := by
  show (oks (gT _ _) (gO _ _ _) q L.a.n).length + (oks (gT _ _) (gO _ _ _) q L.b.n).length + (oks (gT _ _) (gO _ _ _) q L.dn).length = _
  rw [oks_g _ _ _ _ _ _ (ofL_out hq), oks_g _ _ _ _ _ _ (ofL_out hq), oks_g _ _ _ _ _ _ (ofL_out hq)]
  rfl
theorem gB_ownK (L : BLoc) (D : BSt) (l : List Nat) (q : Nat) (hq : q ∉ l) : ownK L (gB L D l) q = ownK L D q := by
  show okc 2 (gV _ _) (oks (gT _ _) (gO _ _ _) q L.a.n) ++ okc 3 (gV _ _) (oks (gT _ _) (gO _ _ _) q L.b.n) ++ okc 4 (gV _ _) (oks (gT _ _) (gO _ _ _) q L.dn) = _
  rw [oks_g _ _ _ _ _ _ (ofL_out hq), oks_g _ _ _ _ _ _ (ofL_out hq), oks_g _ _ _ _ _ _ (ofL_out hq), okc_g _ _ _ _ (ofL_dis hq), okc_g _ _ _ _ (ofL_dis hq), okc_g _ _ _ _ (ofL_dis hq)]
  rfl
theorem gB_ow {L : BLoc} {D : BSt} (h : OwI L D) (l : List Nat) : OwI L (gB L D l) where
  n := fun i hi ht => by
    by_cases e : i ∈ ofL D.nt D.o1 L.a.n l
    · rw [show (gB L D l).nt i = false from if_pos e] at ht; cases ht
    · rw [show (gB L D l).nt i = D.nt i from if_neg e] at ht
      rw [show (gB L D l).o1 i = D.o1 i from if_neg e, show (gB L D l).v1 i = D.v1 i from if_neg e, show (gB L D l).nv i = D.nv i from if_neg e]
      exact h.n i hi ht
  p := fun i hi ht => by
    by_cases e : i ∈ ofL D.pt D.o2 L.b.n l
    · rw [show (gB L D l).pt i = false from if_pos e] at ht; cases ht
    · rw [show (gB L D l).pt i = D.pt i from if_neg e] at ht
      rw [show (gB L D l).o2 i = D.o2 i from if_neg e, show (gB L D l).v2 i = D.v2 i from if_neg e, show (gB L D l).pv i = D.pv i from if_neg e]
      exact h.p i hi ht
  d := fun i hi ht => by
    by_cases e : i ∈ ofL D.dt D.o3 L.dn l
    · rw [show (gB L D l).dt i = false from if_pos e] at ht; cases ht
    · rw [show (gB L D l).dt i = D.dt i from if_neg e] at ht
      rw [show (gB L D l).o3 i = D.o3 i from if_neg e, show (gB L D l).v3 i = D.v3 i from if_neg e, show (gB L D l).dv i = D.dv i from if_neg e]
      exact h.d i hi ht
/-- How many things are these banks'. -/
def sumN (L : BLoc) (D : BSt) (l : List Nat) : Nat := (l.map (ownN L D)).sum
theorem sumN_snoc (L : BLoc) (D : BSt) (l : List Nat) (q : Nat) : sumN L D (l ++ [q]) = sumN L D l + ownN L D q := by simp [sumN]
theorem sumN_take (L : BLoc) (D : BSt) (l : List Nat) (k : Nat) : sumN L D (l.take k) ≤ sumN L D l := by
  have h := congrArg (fun x => (x.map (ownN L D)).sum) (List.take_append_drop k l)
  simp only [List.map_append, List.sum_append] at h
  unfold sumN
  omega
/-- Owned's keys as they come: a kind, a place, a version each. -/
def itK (k0 : Nat) (V : Nat → Int) (ids : List Nat) : List (Nat × Nat × Int) := ids.map (fun i => (k0, i, V i))
def items (L : BLoc) (D : BSt) (q : Nat) : List (Nat × Nat × Int) := itK 2 D.nv (oks D.nt D.o1 q L.a.n) ++ itK 3 D.pv (oks D.pt D.o2 q L.b.n) ++ itK 4 D.dv (oks D.dt D.o3 q L.dn)
def keyL (l : List (Nat × Nat × Int)) : List Value := l.flatMap (fun x => [.int .i64 (x.1 : Int), .int .i64 (x.2.1 : Int), .int .i64 x.2.2, .int .i64 0, .int .u32 0])
theorem keyL_itK (k0 : Nat) (V : Nat → Int) (ids : List Nat) : keyL (itK k0 V ids) = okc k0 V ids := by
  unfold keyL itK okc; rw [List.flatMap_map]
theorem keyL_items (L : BLoc) (D : BSt) (q : Nat) : keyL (items L D q) = ownK L D q := by
  have e : ∀ a b, keyL (a ++ b) = keyL a ++ keyL b := fun a b => by simp [keyL]
  unfold items ownK
  rw [e, e, keyL_itK, keyL_itK, keyL_itK]
  rfl
theorem items_len (L : BLoc) (D : BSt) (q : Nat) : (items L D q).length = ownN L D q := by simp [items, itK, ownN, Nat.add_assoc]
theorem keyL_at : ∀ (l : List (Nat × Nat × Int)) (j : Nat) (x : Nat × Nat × Int), l[j]? = some x → (keyL l)[j * 5]? = some (.int .i64 (x.1 : Int)) ∧ (keyL l)[j * 5 + 1]? = some (.int .i64 (x.2.1 : Int)) ∧ (keyL l)[j * 5 + 2]? = some (.int .i64 x.2.2) ∧ (keyL l)[j * 5 + 3]? = some (.int .i64 0) ∧ (keyL l)[j * 5 + 4]? = some (.int .u32 0) := by
  intro l
  induction l with
  | nil => intro j x h; simp at h
  | cons y l ih =>
    intro j x h
    have e : keyL (y :: l) = [.int .i64 (y.1 : Int), .int .i64 (y.2.1 : Int), .int .i64 y.2.2, .int .i64 0, .int .u32 0] ++ keyL l := by simp [keyL]
    cases j with
    | zero => simp at h; subst h; rw [e]; simp
    | succ j =>
      simp at h
      have h2 := ih j x h
      have hs : ∀ k, (keyL (y :: l))[(j + 1) * 5 + k]? = (keyL l)[j * 5 + k]? := fun k => by
        rw [e, List.getElem?_append_right (by simp; omega)]
        congr 1
        simp; omega
      have h0 := hs 0
      rw [Nat.add_zero, Nat.add_zero] at h0
      rw [h0, hs, hs, hs, hs]
      exact h2
/-- The first j of Owned's keys, by kinds. -/
def cutN (L : BLoc) (D : BSt) (q j : Nat) : List Nat := (oks D.nt D.o1 q L.a.n).take j
def cutP (L : BLoc) (D : BSt) (q j : Nat) : List Nat := (oks D.pt D.o2 q L.b.n).take (j - (oks D.nt D.o1 q L.a.n).length)
def cutD (L : BLoc) (D : BSt) (q j : Nat) : List Nat := (oks D.dt D.o3 q L.dn).take (j - (oks D.nt D.o1 q L.a.n).length - (oks D.pt D.o2 q L.b.n).length)
theorem take_put {l : List Nat} {k x : Nat} (h : l[k]? = some x) : l.take (k + 1) = l.take k ++ [x] := by
  have hk : k < l.length := by
    by_cases e : k < l.length
    · exact e
    · rw [List.getElem?_eq_none (by omega)] at h; cases h
  rw [List.take_succ_eq_append_getElem hk]
  rw [List.getElem?_eq_getElem hk] at h
  injection h with h
  rw [h]
theorem take_fresh {l : List Nat} {k x : Nat} (hn : l.Nodup) (h : l[k]? = some x) : x ∉ l.take k := by
  have hp := take_put h
  intro hm
  have h1 : (l.take (k + 1)).Nodup := hn.sublist (List.take_sublist _ _)
  rw [hp, List.nodup_append] at h1
  exact h1.2.2 x hm x (by simp) rfl
/-- The key at place j is a node's, a page's, or a domain's. -/
theorem items_split (L : BLoc) (D : BSt) (q j : Nat) (x : Nat × Nat × Int) (h : (items L D q)[j]? = some x) :
    (x.1 = 2 ∧ x.2.1 ∈ oks D.nt D.o1 q L.a.n ∧ x.2.2 = D.nv x.2.1 ∧ cutN L D q (j + 1) = cutN L D q j ++ [x.2.1] ∧ x.2.1 ∉ cutN L D q j ∧ cutP L D q (j + 1) = cutP L D q j ∧ cutD L D q (j + 1) = cutD L D q j) ∨
    (x.1 = 3 ∧ x.2.1 ∈ oks D.pt D.o2 q L.b.n ∧ x.2.2 = D.pv x.2.1 ∧ cutN L D q (j + 1) = cutN L D q j ∧ cutP L D q (j + 1) = cutP L D q j ++ [x.2.1] ∧ x.2.1 ∉ cutP L D q j ∧ cutD L D q (j + 1) = cutD L D q j) ∨
    (x.1 = 4 ∧ x.2.1 ∈ oks D.dt D.o3 q L.dn ∧ x.2.2 = D.dv x.2.1 ∧ cutN L D q (j + 1) = cutN L D q j ∧ cutP L D q (j + 1) = cutP L D q j ∧ cutD L D q (j + 1) = cutD L D q j ++ [x.2.1] ∧ x.2.1 ∉ cutD L D q j) := by
  have n1 := oks_nodup D.nt D.o1 q L.a.n
  have n2 := oks_nodup D.pt D.o2 q L.b.n
  have n3 := oks_nodup D.dt D.o3 q L.dn
  unfold items itK at h
  unfold cutN cutP cutD
  generalize oks D.nt D.o1 q L.a.n = A at *
  generalize oks D.pt D.o2 q L.b.n = B at *
  generalize oks D.dt D.o3 q L.dn = C at *
  rw [List.append_assoc] at h
  by_cases h1 : j < A.length
  · left
    rw [List.getElem?_append_left (by simpa using h1), List.getElem?_map] at h
    obtain ⟨y, hy, e⟩ := Option.map_eq_some_iff.1 h
    subst e
    exact ⟨rfl, List.mem_of_getElem? hy, rfl, take_put hy, take_fresh n1 hy, by rw [show j + 1 - A.length = j - A.length by omega], by rw [show j + 1 - A.length = j - A.length by omega]⟩
  · right
    rw [List.getElem?_append_right (by simp; omega), List.length_map] at h
    by_cases h2 : j - A.length < B.length
    · left
      rw [List.getElem?_append_left (by simpa using h2), List.getElem?_map] at h
      obtain ⟨y, hy, e⟩ := Option.map_eq_some_iff.1 h
      subst e
      exact ⟨rfl, List.mem_of_getElem? hy, rfl, by rw [List.take_of_length_le (by omega), List.take_of_length_le (by omega)], by rw [show j + 1 - A.length = j - A.length + 1 by omega]; exact take_put hy, take_fresh n2 hy, by rw [show j + 1 - A.length - B.length = j - A.length - B.length by omega]⟩
    · right
      rw [List.getElem?_append_right (by simp; omega), List.length_map, List.getElem?_map] at h
      obtain ⟨y, hy, e⟩ := Option.map_eq_some_iff.1 h
      subst e
      exact ⟨rfl, List.mem_of_getElem? hy, rfl, by rw [List.take_of_length_le (by omega), List.take_of_length_le (by omega)], by rw [List.take_of_length_le (by omega), List.take_of_length_le (by omega)], by rw [show j + 1 - A.length - B.length = j - A.length - B.length + 1 by omega]; exact take_put hy, take_fresh n3 hy⟩
/-- These banks' things are given back, and the first j of bank q's. -/
def gC (L : BLoc) (D : BSt) (l : List Nat) (q j : Nat) : BSt := gI D (ofL D.nt D.o1 L.a.n l ++ cutN L D q j) (ofL D.pt D.o2 L.b.n l ++ cutP L D q j) (ofL D.dt D.o3 L.dn l ++ cutD L D q j)
theorem gC_zero (L : BLoc) (D : BSt) (l : List Nat) (q : Nat) : gC L D l q 0 = gB L D l := by simp [gC, gB, cutN, cutP, cutD]
theorem gC_all (L : BLoc) (D : BSt) (l : List Nat) (q j : Nat) (hj : ownN L D q ≤ j) : gC L D l q j = gB L D (l ++ [q]) := by
  unfold ownN at hj
  unfold gC gB cutN cutP cutD
  rw [ofL_snoc, ofL_snoc, ofL_snoc, List.take_of_length_le (by omega), List.take_of_length_le (by omega), List.take_of_length_le (by omega)]
/-- Which banks are there behind an end, and their versions. -/
def thE (nb : Nat) (l : List Nat) : Nat → Bool := fun i => if i ∈ l then false else thN nb i
def vrE (l : List Nat) : Nat → Int := fun i => if i ∈ l then 1 else 0
theorem thE_nil (nb : Nat) : thE nb [] = thN nb := by funext i; simp [thE]
theorem vrE_nil : vrE [] = fun _ => 0 := by funext i; simp [vrE]
theorem thE_put (nb : Nat) (l : List Nat) (k : Nat) : upd (thE nb l) k false = thE nb (l ++ [k]) := by
  funext i; unfold upd thE; by_cases e : i = k <;> simp [e]
theorem vrE_put (l : List Nat) (k : Nat) : upd (vrE l) k 1 = vrE (l ++ [k]) := by
  funext i; unfold upd vrE; by_cases e : i = k <;> simp [e]
/-- Banks, some of which may be gone, over domains over a memory over a law's start. -/
structure BE (w0 w : World) (L : BLoc) (D : BSt) (th : Nat → Bool) (vr : Nat → Int) : Prop where
  m : MMD w0 w L D
  d : DMD w L D
  k : BkAt w L.bB L.P L.p L.B L.A L.G1 L.G2 L.G3 L.n L.c L.mb L.dP th vr D.pr D.us D.lm D.o1 D.v1 D.o2 D.v2 D.o3 D.v3
  md : L.mb < L.dB ∧ L.cb < L.dB ∧ L.N ≤ L.dB
  db : L.dP < L.bB ∧ L.dp < L.bB ∧ L.dR < L.bB ∧ L.dG < L.bB ∧ L.dQ < L.bB
  dl : L.dB ≤ L.bB
  pk : PrOk D.nb D.pr
  nn : D.nb ≤ L.n
  tt : L.bB ≤ L.T ∧ L.P < L.T ∧ L.p < L.T ∧ L.B < L.T ∧ L.A < L.T ∧ L.G1 < L.T ∧ L.G2 < L.T ∧ L.G3 < L.T
  tw : L.T ≤ w.heap.size
theorem BW.be {w0 w : World} {L : BLoc} {D : BSt} (h : BW w0 w L D) : BE w0 w L D (thN D.nb) (fun _ => 0) := ⟨h.m, h.d, h.k, h.md, h.db, h.dl, h.pk, h.nn, h.tt, h.tw⟩
section
variable {w0 w w' : World} {L : BLoc} {D : BSt} {th : Nat → Bool} {vr : Nat → Int}
theorem BE.kk (h : BE w0 w L D th vr) : BkAt w L.bB L.P L.p L.B L.A L.G1 L.G2 L.G3 L.n L.c L.mb L.dP th vr D.pr D.us D.lm D.o1 D.v1 D.o2 D.v2 D.o3 D.v3 := h.k
theorem BE.dd (h : BE w0 w L D th vr) : DsAt w L.dB L.dP L.dp L.dR L.dG L.dQ L.dn L.dc D.dt D.dv D.dW := h.d
theorem BE.mm (h : BE w0 w L D th vr) : MemAt w0 w L.mb L.S L.a L.b L.N L.cb L.z D.nt D.nv D.nW D.pt D.pv D.pW 0 (.slice none 0 0) [] := h.m
theorem BE.bel (h : BE w0 w L D th vr) : Below w0.heap.size w0 w := h.m.sv.bel
theorem BE.below (h : BE w0 w L D th vr) (hb : Below w.heap.size w w') : BE w0 w' L D th vr := ⟨MemAt.below h.m hb, DsAt.below h.d hb, BkAt.below h.k hb, h.md, h.db, h.dl, h.pk, h.nn, h.tt, Nat.le_trans h.tw hb.size⟩
/-- The arena was written. -/
theorem BE.turn {th' : Nat → Bool} {vr' : Nat → Int} (h : BE w0 w L D th vr) (hA : ArAt w' L.bB L.p L.B L.n L.c th' vr') (hg : w.grownBy w' (some L.B)) : BE w0 w' L D th' vr' ∧ UpT L.T w w' := by
  have hb : Below L.bB w w' := low_of hg h.kk.ar.lt.1 (Nat.le_of_lt (Nat.lt_of_le_of_lt h.kk.pb h.kk.pl))
  have hm := MMD.low h.m hb (by have := h.md; have := h.dl; omega) (by have := h.md; have := h.dl; omega) (by have := h.md; have := h.dl; omega)
  have hd := DMD.low h.d hb h.db
  exact ⟨⟨hm, hd, h.kk.turn hA hg, h.md, h.db, h.dl, h.pk, h.nn, h.tt, Nat.le_trans h.tw hb.size⟩, UpT.grown hg (by have := h.tt; omega)⟩
end
end Go.Proofs.YtncopdhhchmpeaaGreatDoor
namespace Go.Proofs.YtncopdhhchmpeaaGreatDoor
open Go.ChangeShapes Go.WideShapes Go.ChangeAt Go.RowKit
set_option linter.unusedVariables false
set_option linter.unusedSimpArgs false
/-- A row of keys, and where it lies. -/
theorem key_row {w : World} {B k : Nat} {v : Value} {xs : List Value} (h : w.ownsRow B 42 5 v k xs) : ∃ a c, v = .slice a k c ∧ (0 < k → ∃ g, a = some ⟨g, 0, none⟩ ∧ B ≤ g ∧ g < w.heap.size ∧ ∀ i, i < k * 5 → w.cell? ⟨g, i, none⟩ = xs[i]?) := by
  rcases h.2 with ⟨rfl, h0⟩ | ⟨g, cap, cur, rfl, hB, hg, rest⟩
  · exact ⟨none, 0, by rw [h0], fun h => by omega⟩
  · exact ⟨some ⟨g, 0, none⟩, cap, rfl, fun _ => ⟨g, rfl, hB, (h.lt g rfl).2, fun i hi => h.cellAt i hi⟩⟩
/-- The cells of the key at place j. -/
structure KeyJ (w : World) (g j : Nat) (y : Nat × Nat × Int) : Prop where
  c0 : w.cell? ⟨g, j * 5, none⟩ = some (.int .i64 (y.1 : Int))
  c1 : w.cell? ⟨g, j * 5 + 1, none⟩ = some (.int .i64 (y.2.1 : Int))
  c2 : w.cell? ⟨g, j * 5 + 2, none⟩ = some (.int .i64 y.2.2)
  c3 : w.cell? ⟨g, j * 5 + 3, none⟩ = some (.int .i64 0)
  c4 : w.cell? ⟨g, j * 5 + 4, none⟩ = some (.int .u32 0)
/-- Owned's row, and where it lies, for as long as it stays. -/
theorem owned_row {w : World} {B T : Nat} {L : BLoc} {D : BSt} {q : Nat} {v : Value} (h : w.ownsRow B 42 5 v (ownN L D q) (ownK L D q)) (hT : T ≤ B) : ∃ a c, v = .slice a (ownN L D q) c ∧ ∀ W, UpT T w W → ∀ j y, (items L D q)[j]? = some y → ∃ g, a = some ⟨g, 0, none⟩ ∧ KeyJ W g j y := by
  obtain ⟨a, c, hv, hr⟩ := key_row h
  refine ⟨a, c, hv, fun W hu j y hj => ?_⟩
  have hl : j < ownN L D q := by
    rw [← items_len]
    by_cases e : j < (items L D q).length
    · exact e
    · rw [List.getElem?_eq_none (by omega)] at hj; cases hj
  obtain ⟨g, hg, hB, hlt, hc⟩ := hr (by omega)
  have hk := keyL_at _ _ _ hj
  rw [keyL_items] at hk
  have hb := hu.2 g (by omega) hlt
  have cc : ∀ i, i < ownN L D q * 5 → W.cell? ⟨g, i, none⟩ = (ownK L D q)[i]? := fun i hi => (World.cell?_of_block (a := ⟨g, i, none⟩) hb).trans (hc i hi)
  exact ⟨g, hg, ⟨(cc _ (by omega)).trans hk.1, (cc _ (by omega)).trans hk.2.1, (cc _ (by omega)).trans hk.2.2.1, (cc _ (by omega)).trans hk.2.2.2.1, (cc _ (by omega)).trans hk.2.2.2.2⟩⟩
/-- Versions within bounds. -/
structure VerOk (D : BSt) : Prop where
  n : ∀ i, -1000000 ≤ D.nv i ∧ D.nv i ≤ 1000000
  p : ∀ i, -1000000 ≤ D.pv i ∧ D.pv i ≤ 1000000
  d : ∀ i, -1000000 ≤ D.dv i ∧ D.dv i ≤ 1000000
theorem gC_stepn (L : BLoc) (D : BSt) (l : List Nat) (q j k : Nat) (h1 : cutN L D q (j + 1) = cutN L D q j ++ [k]) (h2 : cutP L D q (j + 1) = cutP L D q j) (h3 : cutD L D q (j + 1) = cutD L D q j) (hn : k ∉ ofL D.nt D.o1 L.a.n l ++ cutN L D q j) :
    { gC L D l q j with nt := upd (gC L D l q j).nt k false, nv := upd (gC L D l q j).nv k (D.nv k + 1), o1 := upd (gC L D l q j).o1 k (-1), v1 := upd (gC L D l q j).v1 k 0 } = gC L D l q (j + 1) := by
  unfold gC
  rw [gI_n _ _ _ _ _ hn, h1, h2, h3, List.append_assoc]
theorem gC_stepp (L : BLoc) (D : BSt) (l : List Nat) (q j k : Nat) (h1 : cutN L D q (j + 1) = cutN L D q j) (h2 : cutP L D q (j + 1) = cutP L D q j ++ [k]) (h3 : cutD L D q (j + 1) = cutD L D q j) (hn : k ∉ ofL D.pt D.o2 L.b.n l ++ cutP L D q j) :
    { gC L D l q j with pt := upd (gC L D l q j).pt k false, pv := upd (gC L D l q j).pv k (D.pv k + 1), o2 := upd (gC L D l q j).o2 k (-1), v2 := upd (gC L D l q j).v2 k 0 } = gC L D l q (j + 1) := by
  unfold gC
  rw [gI_p _ _ _ _ _ hn, h1, h2, h3, List.append_assoc]
theorem gC_stepd (L : BLoc) (D : BSt) (l : List Nat) (q j k : Nat) (h1 : cutN L D q (j + 1) = cutN L D q j) (h2 : cutP L D q (j + 1) = cutP L D q j) (h3 : cutD L D q (j + 1) = cutD L D q j ++ [k]) (hn : k ∉ ofL D.dt D.o3 L.dn l ++ cutD L D q j) :
    { gC L D l q j with dt := upd (gC L D l q j).dt k false, dv := upd (gC L D l q j).dv k (D.dv k + 1), o3 := upd (gC L D l q j).o3 k (-1), v3 := upd (gC L D l q j).v3 k 0 } = gC L D l q (j + 1) := by
  unfold gC
  rw [gI_d _ _ _ _ _ hn, h1, h2, h3, List.append_assoc]
theorem bgb_any {w0 : World} {L : BLoc} {D : BSt} (l : List Nat) (q j : Nat) (y : Nat × Nat × Int) (hy : Hid ((items L D q)[j]? = some y)) (hql : Hid (q ∉ l)) (hv : Hid (VerOk D)) (w : World) (h : BW w0 w L (gC L D l q j)) :
    Calls Tryz.prog 75 #[.pointer (some ⟨L.P, 0, none⟩), .agg #[.int .i64 (y.1 : Int), .int .i64 (y.2.1 : Int), .int .i64 y.2.2, .int .i64 0, .int .u32 0]] w fun e w' => e = .returned (.tuple #[]) ∧ BW w0 w' L (gC L D l q (j + 1)) ∧ UpT L.T w w' := by
  obtain ⟨y0, y1, y2⟩ := y
  rcases items_split L D q j (y0, y1, y2) hy.out with ⟨e0, hm, e2, c1, cn, c2, c3⟩ | ⟨e0, hm, e2, c1, c2, cn, c3⟩ | ⟨e0, hm, e2, c1, c2, c3, cn⟩
  · have hmm := oks_mem.1 hm
    have hno : y1 ∉ ofL D.nt D.o1 L.a.n l ++ cutN L D q j := fun hh => (List.mem_append.1 hh).elim (ofL_dis hql.out _ hm) cn
    have hst := gC_stepn L D l q j y1 c1 c2 c3 hno
    have b := hv.out.n y1
    have hT : (gC L D l q j).nt y1 = true := (if_neg hno : gT D.nt _ y1 = D.nt y1).trans hmm.2.1
    have hV : (gC L D l q j).nv y1 = D.nv y1 := (if_neg hno : gV D.nv _ y1 = D.nv y1)
    have hn := h.an
    simp only at e0 e2
    subst e0
    subst e2
    refine (bgb_node y1 (D.nv y1) 0 0 (Nat.lt_of_lt_of_le hmm.1 hn) hmm.1 (Lib.hid hT) (Lib.hid hV) (by omega) (by omega) w h).mono ?_
    rintro e w' ⟨rfl, hW, hu⟩
    rw [hst] at hW
    exact ⟨rfl, hW, hu⟩
  · have hmm := oks_mem.1 hm
    have hno : y1 ∉ ofL D.pt D.o2 L.b.n l ++ cutP L D q j := fun hh => (List.mem_append.1 hh).elim (ofL_dis hql.out _ hm) cn
    have hst := gC_stepp L D l q j y1 c1 c2 c3 hno
    have b := hv.out.p y1
    have hT : (gC L D l q j).pt y1 = true := (if_neg hno : gT D.pt _ y1 = D.pt y1).trans hmm.2.1
    have hV : (gC L D l q j).pv y1 = D.pv y1 := (if_neg hno : gV D.pv _ y1 = D.pv y1)
    have hn := h.pn
    simp only at e0 e2
    subst e0
    subst e2
    refine (bgb_page y1 (D.pv y1) 0 0 (Nat.lt_of_lt_of_le hmm.1 hn) hmm.1 (Lib.hid hT) (Lib.hid hV) (by omega) (by omega) w h).mono ?_
    rintro e w' ⟨rfl, hW, hu⟩
    rw [hst] at hW
    exact ⟨rfl, hW, hu⟩
  · have hmm := oks_mem.1 hm
    have hno : y1 ∉ ofL D.dt D.o3 L.dn l ++ cutD L D q j := fun hh => (List.mem_append.1 hh).elim (ofL_dis hql.out _ hm) cn
    have hst := gC_stepd L D l q j y1 c1 c2 c3 hno
    have b := hv.out.d y1
    have hT : (gC L D l q j).dt y1 = true := (if_neg hno : gT D.dt _ y1 = D.dt y1).trans hmm.2.1
    have hV : (gC L D l q j).dv y1 = D.dv y1 := (if_neg hno : gV D.dv _ y1 = D.dv y1)
    have hn := h.dn256
    simp only at e0 e2
    subst e0
    subst e2
    refine (bgb_dom y1 (D.dv y1) 0 0 (Nat.lt_of_lt_of_le hmm.1 hn) hmm.1 (Lib.hid hT) (Lib.hid hV) (by omega) (by omega) w h).mono ?_
    rintro e w' ⟨rfl, hW, hu⟩
    rw [hst] at hW
    exact ⟨rfl, hW, hu⟩
end Go.Proofs.YtncopdhhchmpeaaGreatDoor
namespace Go.Proofs.YtncopdhhchmpeaaGreatDoor
open Go.ChangeShapes Go.WideShapes Go.ChangeAt Go.RowKit
set_option linter.unusedVariables false
set_option linter.unusedSimpArgs false
def zl (l : List Nat) : List Int := l.map (fun (i : Nat) => (i : Int))
theorem ivals_zl (l : List Nat) : ivals l = (zl l).map (Value.int .i64) := by unfold ivals zl; rw [List.map_map]; rfl
theorem zl_at {l : List Nat} {j x : Nat} (h : l[j]? = some x) : (zl l).getD j 0 = (x : Int) := by
  unfold zl; rw [List.getD_eq_getElem?_getD, List.getElem?_map, h]; rfl
theorem zl_len (l : List Nat) : (zl l).length = l.length := by simp [zl]
theorem inL_lt {nb : Nat} {pr : Nat → Int} {z : Int} {n i : Nat} (h : i ∈ inL nb pr z n) : i < n ∧ i < nb := by
  unfold inL at h
  simp only [List.mem_filter, List.mem_range, Bool.and_eq_true, decide_eq_true_eq] at h
  exact ⟨h.1, h.2.1⟩
theorem inL_nodup (nb : Nat) (pr : Nat → Int) (z : Int) (n : Nat) : (inL nb pr z n).Nodup := List.nodup_range.filter _
theorem at_some {α : Type} {l : List α} {j : Nat} (h : j < l.length) : ∃ x, l[j]? = some x := ⟨_, List.getElem?_eq_getElem h⟩
set_option maxRecDepth 100000 in
set_option maxHeartbeats 4000000 in
theorem bend_is {w0 : World} {L : BLoc} {D : BSt} (x : Int) (q : Nat) (hx : Hid (x = (q : Int))) (hq : q < D.nb) (ho : OwI L D) (hv : Hid (VerOk D)) (il : List Nat) (hil : Hid (inL D.nb D.pr (q : Int) L.n = il)) (K : Nat) (hK : Hid (sumN L D il = K)) (hK1 : K ≤ 1000) (hu : Hid (∀ i, i < L.n → -1000000 ≤ D.us i ∧ D.us i ≤ 1000000)) (w : World) (h : BW w0 w L D) :
    Calls Tryz.prog 25 #[.pointer (some ⟨L.P, 0, none⟩), .int .i64 x] w fun e w' => e = .returned (.tuple #[.int .i64 (K : Int), .nilIface]) ∧ BE w0 w' L { gB L D il with us := addL D.us (chL D.pr (D.pr q)) (-(K : Int)) } (thE D.nb il) (vrE il) ∧ UpT L.T w w' := by
  rw [hx.out]
  have H := Lib.hid h
  have HO := Lib.hid ho
  have hn := h.n256
  have hnn := h.nn
  have hqn : q < L.n := by omega
  have HTw := Lib.hid h.tw
  have HTT := Lib.hid h.tt
  have HPk := Lib.hid h.pk
  have f0 := h.kk.f0
  have HIl : Hid (il.Nodup ∧ ∀ i, i ∈ il → i < L.n ∧ i < D.nb) := Lib.hid (by rw [← hil.out]; exact ⟨inL_nodup _ _ _ _, fun i hi => inL_lt hi⟩)
  obtain ⟨m, hm⟩ : ∃ m, Hid (il.length = m) := ⟨_, Lib.hid rfl⟩
  have hm1 : m ≤ 256 := by have := hm.out; have := inL_len D.nb D.pr (q : Int) L.n; rw [hil.out] at this; omega
  have HTq := Lib.hid (thN_at hq)
  have HpqB : Hid (-1 ≤ D.pr q ∧ D.pr q < q) := Lib.hid (h.pk q hq)
  clear h ho hx
  go_enter Tryz.func25, Tryz.ntmps25
  go_wp2_with (first
    | (go_at_call 63; (with_reducible refine (athere_in q hqn true HTq _ H.out.kk.ar).mono ?_); rintro e w1 ⟨rfl, rfl⟩)
    | (go_at_call 73; (with_reducible refine (binner_is (q : Int) hnn HPk _ H.out.kk).mono ?_); rintro e w2 ⟨v, rfl, hr, hb⟩; rw [hil.out, ivals_zl, ← zl_len] at hr; obtain ⟨a, c, hv2⟩ := own_slice hr m (Lib.hid ((zl_len il).trans hm.out)); have HR := Lib.hid (rowT hr hv2 ((zl_len il).trans hm.out) HTw.out); subst hv2; have HB2 := Lib.hid hb; have HW2 := Lib.hid (H.out.below hb); clear hr hb f0))
  have HW0 : Hid (BW w0 w2 L (gB L D (il.take 0))) := Lib.hid (by have e : gB L D (il.take 0) = D := gI_nil D; rw [e]; exact HW2.out)
  go_loopw [6, 27] (fun gv iv wr => ∃ (j : Nat) (gz : Int), j ≤ m ∧ gv = .int .i64 gz ∧ iv = .int .i64 j ∧ Hid (gz = (sumN L D (il.take j) : Int)) ∧ BW w0 wr L (gB L D (il.take j)) ∧ UpT L.T w2 wr) (fun _ i _ => m - (intOf i).toNat)
  case atStart => exact ⟨0, 0, by omega, rfl, rfl, Lib.hid (by simp [sumN]), HW0.out, UpT.refl _ _⟩
  case round =>
    obtain ⟨j, gz, hj, rfl, rfl, HG, hW, hU⟩ := hrel
    have HW := Lib.hid hW
    have HU := Lib.hid hU
    have gz0 : 0 ≤ gz ∧ gz ≤ 1000 := by
      have h1 := HG.out
      have h2 := sumN_take L D il j
      rw [hK.out] at h2
      omega
    clear hW hU
    by_cases hlt : j < m
    · obtain ⟨y, hy⟩ := at_some (l := il) (j := j) (by rw [hm.out]; exact hlt)
      have HY := Lib.hid hy
      have hyy := HIl.out.2 y (List.mem_of_getElem? hy)
      have HNew : Hid (y ∉ il.take j) := Lib.hid (take_fresh HIl.out.1 hy)
      have HTP := Lib.hid (take_put hy)
      obtain ⟨g, hg, hTg, hgl, hc⟩ := HR.out wr HU.out j hlt
      rw [zl_at hy] at hc
      have HOw : Hid (Calls Tryz.prog 74 #[.pointer (some ⟨L.P, 0, none⟩), .int .i64 (y : Int)] wr fun e w' => ∃ v, e = .returned v ∧ Below wr.heap.size wr w' ∧ w'.ownsRow wr.heap.size 42 5 v (ownN L D y) (ownK L D y)) := Lib.hid (by
        have h := bowned_is (D := gB L D (il.take j)) y hyy.2 (gB_ow HO.out (il.take j)) wr HW.out
        rw [gB_ownN L D _ y HNew.out, gB_ownK L D _ y HNew.out] at h
        exact h)
      obtain ⟨n1, hn1⟩ : ∃ n1, Hid (ownN L D y = n1) := ⟨_, Lib.hid rfl⟩
      have HSum : Hid ((sumN L D (il.take (j + 1)) : Int) = gz + n1) := Lib.hid (by rw [HTP.out, sumN_snoc, hn1.out, HG.out]; omega)
      have hs1 : gz + n1 ≤ 1000 := by
        have h2 := sumN_take L D il (j + 1)
        rw [hK.out] at h2
        have h3 := HSum.out
        omega
      subst hg
      have k0 : (0 : Int) ≤ j := by omega
      have k1 : (j : Int) < m := by omega
      clear hy hyy
      go_wp2_with (first
        | (go_at_call 74; (with_reducible refine HOw.out.mono ?_); rintro e w4 ⟨v4, rfl, hb, hr⟩; obtain ⟨a2, c2, hv4, hkr⟩ := owned_row hr HW.out.tw; rw [hn1.out] at hv4; subst hv4; have HKR := Lib.hid hkr; have HB4 := Lib.hid hb; have HW4 : Hid (BW w0 w4 L (gC L D (il.take j) y 0)) := Lib.hid (by rw [gC_zero]; exact HW.out.below hb); clear hb hr hkr hc))
      go_loopw [6, 35] (fun gv iv wx => ∃ (k : Nat) (gy : Int), k ≤ n1 ∧ gv = .int .i64 gy ∧ iv = .int .i64 k ∧ Hid (gy = gz + k) ∧ BW w0 wx L (gC L D (il.take j) y k) ∧ UpT L.T w4 wx) (fun _ i _ => n1 - (intOf i).toNat)
      case atStart => exact ⟨0, gz, by omega, rfl, rfl, Lib.hid (by simp), HW4.out, UpT.refl _ _⟩
      case round =>
        obtain ⟨k, gy, hk, rfl, rfl, HGy, hWx, hUx⟩ := hrel
        have HWx := Lib.hid hWx
        have HUx := Lib.hid hUx
        clear hWx hUx
        have gy0 : 0 ≤ gy ∧ gy ≤ 1000 := by have := HGy.out; omega
        by_cases hlk : k < n1
        · obtain ⟨x2, hx2⟩ := at_some (l := items L D y) (j := k) (by rw [items_len, hn1.out]; exact hlk)
          obtain ⟨g2, hg2, hc⟩ := HKR.out _ HUx.out k x2 hx2
          have HX2 := Lib.hid hx2
          obtain ⟨q0, q1, q2, q3, q4⟩ := hc
          subst hg2
          have e0 : (0 : Int) ≤ k := by omega
          have e1 : (k : Int) < n1 := by omega
          have hwy : IntKind.i64.wrap (gy + 1) = gy + 1 := by rw [IntKind.wrap_i64]; omega
          have HWo : Hid (∀ o, BW w0 (World.alloc wr o) L (gC L D (il.take j) y k)) := Lib.hid (fun o => HWx.out.below ((Below.refl _ _).alloc (Nat.le_refl _) _ : Below wr.heap.size wr (wr.alloc o)))
          have HUo : Hid (∀ o, UpT L.T w4 (World.alloc wr o)) := Lib.hid (fun o => HUx.out.trans (UpT.below ((Below.refl _ _).alloc (Nat.le_refl _) _ : Below wr.heap.size wr (wr.alloc o))))
          clear hx2
          go_wp2_with (first
            | (go_at_call 75; (with_reducible refine (bgb_any (il.take j) y k x2 HX2 HNew hv _ (HWo.out _)).mono ?_); rintro e w6 ⟨rfl, hW, hu⟩; have HW6 := Lib.hid hW; have HU6 := Lib.hid ((HUo.out _).trans hu); clear hW hu q0 q1 q2 q3 q4))
          go_roundw
          case rel => exact ⟨k + 1, gy + 1, by omega, rfl, by go_num, Lib.hid (by rw [HGy.out]; push_cast; omega), HW6.out, HU6.out⟩
          case measure => simp [intOf]; omega
        · obtain rfl : k = n1 := by omega
          have HF : Hid (BW w0 wr L (gB L D (il.take (j + 1)))) := Lib.hid (by rw [HTP.out, ← gC_all L D (il.take j) y k (by rw [hn1.out]; exact Nat.le_refl _)]; exact HWx.out)
          have HUF : Hid (UpT L.T w2 wr) := Lib.hid ((HU.out.trans (UpT.below HB4.out)).trans HUx.out)
          go_wp2_with fail
          go_roundw
          case rel => exact ⟨j + 1, gy, by omega, rfl, by go_num, Lib.hid (by rw [HSum.out, HGy.out]), HF.out, HUF.out⟩
          case measure => simp [intOf]; omega
    · obtain rfl : j = m := by omega
      have HTk : Hid (il.take j = il) := Lib.hid (List.take_of_length_le (by rw [hm.out]; exact Nat.le_refl _))
      have HGK : Hid (gz = (K : Int)) := Lib.hid (by rw [HG.out, HTk.out, hK.out])
      have HWf : Hid (BW w0 wr L (gB L D il)) := Lib.hid (by have h := HW.out; rw [HTk.out] at h; exact h)
      have hwn : IntKind.i64.wrap (-gz) = -gz := by rw [IntKind.wrap_i64]; omega
      obtain ⟨z0, hz0⟩ : ∃ z0, Hid (D.pr q = z0) := ⟨_, Lib.hid rfl⟩
      have f3 := HWf.out.kk.f3
      have c0 := HWf.out.kk.ac0 q hqn
      have c0' : (gB L D il).pr q = z0 := hz0.out
      rw [c0'] at c0
      have hzb := HpqB.out
      rw [hz0.out] at hzb
      obtain ⟨lc, hlc⟩ : ∃ lc, Hid (chL D.pr z0 = lc) := ⟨_, Lib.hid rfl⟩
      have hcb := chL_bound HPk.out (by omega) D.nb z0 (by omega) (Nat.le_refl _)
      have hnd := chL_nodup HPk.out (by omega) D.nb z0 (by omega) (Nat.le_refl _)
      rw [hlc.out] at hcb hnd
      obtain ⟨mc, hmc⟩ : ∃ mc, Hid (lc.length = mc) := ⟨_, Lib.hid rfl⟩
      have hmc1 : mc ≤ 1000 := by rw [← hmc.out]; omega
      have HIn : Hid (∀ z, z ∈ lc → 0 ≤ z ∧ z < L.n) := Lib.hid (fun z hz => by have := hcb.2 z hz; omega)
      have HNd := Lib.hid hnd
      have k0 : (0 : Int) ≤ q := by omega
      have k1 : (q : Int) < L.n := by omega
      have k2 : z0 < D.nb := by omega
      clear hcb hnd c0'
      go_wp2_with (first
        | (go_at_call 77; (with_reducible refine (bchain_is z0 D.nb hzb.1 k2 hnn (Lib.hid (fun i hi => thN_at hi)) HPk _ HWf.out.kk).mono ?_); rintro e w5 ⟨v9, rfl, hr, hb⟩; rw [hlc.out] at hr; obtain ⟨a9, c9, hv9⟩ := own_slice hr mc hmc; have HRw := Lib.hid (rowT hr hv9 hmc.out HWf.out.tw); subst hv9; have HW5 := Lib.hid (HWf.out.below hb); have HU5 := Lib.hid (HU.out.trans (UpT.below hb)); clear hr hb f3 c0)
        | (go_at_call 76; (with_reducible refine (bcount_is lc mc hmc hmc1 a9 c9 HIn HNd (-gz) (by omega) hu _ HW5.out.kk (fun i hi => by obtain ⟨g, h1, h2, h3, h4⟩ := HRw.out _ (UpT.refl _ _) i hi; exact ⟨g, h1, h3, by have := HTT.out; omega, h4⟩)).mono ?_); rintro e w6 ⟨rfl, hB, hg⟩; have HBk := Lib.hid hB; have HG6 := Lib.hid hg; clear hB hg))
      have HE6 : Hid (BE w0 w6 L { gB L D il with us := addL D.us (chL D.pr (D.pr q)) (-(K : Int)) } (thE D.nb []) (vrE []) ∧ UpT L.T w2 w6) := Lib.hid (by
        have hk := HBk.out
        rw [HGK.out, ← hlc.out, ← hz0.out] at hk
        have hW := BW.bank HW5.out (D' := { gB L D il with us := addL D.us (chL D.pr (D.pr q)) (-(K : Int)) }) hk (low_of HG6.out HW5.out.kk.ac.lt.1 HW5.out.bl) rfl HW5.out.pk HW5.out.nn
        rw [thE_nil, vrE_nil]
        exact ⟨hW.be, HU5.out.trans (UpT.grown HG6.out (by have := HTT.out; omega))⟩)
      clear HBk
      obtain ⟨D6, hD6⟩ : ∃ D6, Hid ({ gB L D il with us := addL D.us (chL D.pr (D.pr q)) (-(K : Int)) } = D6) := ⟨_, Lib.hid rfl⟩
      rw [hD6.out] at HE6
      go_loopw [62] (fun iv wx => ∃ k : Nat, k ≤ j ∧ iv = .int .i64 k ∧ BE w0 wx L D6 (thE D.nb (il.take k)) (vrE (il.take k)) ∧ UpT L.T w2 wx) (fun i _ => j - (intOf i).toNat)
      case atStart => exact ⟨0, by omega, rfl, HE6.out⟩
      case round =>
        obtain ⟨k, hk, rfl, hE, hUx⟩ := hrel
        have HEx := Lib.hid hE
        have HUx := Lib.hid hUx
        clear hE hUx
        by_cases hlk : k < j
        · obtain ⟨y, hy⟩ := at_some (l := il) (j := k) (by rw [hm.out]; exact hlk)
          have hyy := HIl.out.2 y (List.mem_of_getElem? hy)
          have hfr := take_fresh HIl.out.1 hy
          have HTP := Lib.hid (take_put hy)
          obtain ⟨g, hg, hTg, hgl, hc⟩ := HR.out _ HUx.out k hlk
          rw [zl_at hy] at hc
          have HTy : Hid (thE D.nb (il.take k) y = true) := Lib.hid (by unfold thE; rw [if_neg hfr]; exact thN_at hyy.2)
          have HVy : Hid (vrE (il.take k) y = 0) := Lib.hid (if_neg hfr)
          have f0 := HEx.out.kk.f0
          subst hg
          have e0 : (0 : Int) ≤ k := by omega
          have e1 : (k : Int) < j := by omega
          have hyn := hyy.1
          clear hy hyy hfr
          go_wp2_with (first
            | (go_at_call 72; (with_reducible refine (agive_at (y : Int) _ HEx.out.kk.ar y (Lib.hid rfl) hyn HTy 0 1 HVy (by decide) (by decide) (Lib.hid (by decide))).mono ?_); rintro e w7 ⟨rfl, hA2, hg⟩; rw [thE_put, vrE_put, ← HTP.out] at hA2; have HE7 := Lib.hid (HEx.out.turn hA2 hg); clear hA2 hg f0 hc))
          go_roundw
          case rel => exact ⟨k + 1, by omega, by go_num, HE7.out.1, HUx.out.trans HE7.out.2⟩
          case measure => simp [intOf]; omega
        · obtain rfl : k = j := by omega
          go_wp2_with fail
          go_ret2
          have hF := HEx.out
          rw [HTk.out, ← hD6.out] at hF
          exact ⟨by rw [HGK.out]; rfl, hF, (UpT.below HB2.out).trans HUx.out⟩
end Go.Proofs.YtncopdhhchmpeaaGreatDoor
namespace Go.Proofs.YtncopdhhchmpeaaGreatDoor
open Go.ChangeShapes Go.WideShapes Go.ChangeAt Go.RowKit
set_option linter.unusedVariables false
set_option linter.unusedSimpArgs false
section
variable {cs nt : List Value} {s N P : Nat} {id k2 k3 k4 o x : Int} {Q : World → Prop}
theorem pair_new (w : World) (u l : Int) (T : TypeId) : (w.alloc (.cells #[.int .u32 u, .int .u32 l] T (0, 0))).rangeAt w.heap.size 0 [.int .u32 u, .int .u32 l] := cbox w [.int .u32 u, .int .u32 l] T
set_option maxRecDepth 100000 in
set_option maxHeartbeats 4000000 in
theorem cbank_5 (u l : Int) (u0 : 0 ≤ u) (u1 : u ≤ 1000) (l0 : 0 ≤ l) (l1 : l ≤ 1000) (hc : Hid (CallC cs s 8 id k2 k3 k4 5 x)) (w : World) (hs : w.cell? ⟨s, 3, none⟩ = some (.pointer (some ⟨P, 0, none⟩)))
    (hU : ∀ W, Below w.heap.size w W → Calls Tryz.prog 34 #[.pointer (some ⟨P, 0, none⟩), .int .i64 id] W fun e w' => e = .returned (.int .i64 u) ∧ W = w')
    (hLm : ∀ W, Below w.heap.size w W → Calls Tryz.prog 157 #[.pointer (some ⟨P, 0, none⟩), .int .i64 id] W fun e w' => e = .returned (.int .i64 l) ∧ W = w') :
    Calls Tryz.prog 117 #[(.agg cs.toArray)] w fun e w' => e = .returned (Value.agg #[.int .u32 0, .int .u32 u, .int .u32 l, .int .u32 0, .int .i64 0, .int .i64 0, .int .i64 0, .int .i64 0, .int .u32 0, .int .i64 0, .int .i64 0, .int .i64 0, .int .i64 0, .int .u32 0, .int .i64 0, .int .i64 0, .int .i64 0, .int .i64 0, .int .u32 0]) ∧ Below w.heap.size w w' := by
  have HU := Lib.hid hU
  have HLm := Lib.hid hLm
  have HSl := Lib.hid (⟨cell_lt hs, hs⟩ : s < w.heap.size ∧ w.cell? ⟨s, 3, none⟩ = some (.pointer (some ⟨P, 0, none⟩)))
  have hwu : IntKind.u32.wrap u = u := by rw [IntKind.wrap_u32]; omega
  have hwl : IntKind.u32.wrap l = l := by rw [IntKind.wrap_u32]; omega
  clear hU hLm hs
  go_enter Tryz.func117, Tryz.ntmps117; go_upto_region 1 with fail; generalize hA : World.alloc w _ = wK; obtain ⟨C, hC⟩ : ∃ C, C = w.heap.size := ⟨_, rfl⟩; have HK : Hid (Below w.heap.size w wK ∧ wK.rangeAt C 0 cs ∧ wK.heap.size = C + 1) := Lib.hid (by rw [← hA, hC]; exact ⟨(Below.refl _ _).alloc (Nat.le_refl _) _, cbox _ _ _, by simp⟩); have HCl : Hid (w.heap.size ≤ C) := Lib.hid (by rw [hC]; exact Nat.le_refl _); rw [← hC]; clear hA hC; generalize hA : World.alloc wK _ = wA; obtain ⟨R, hR⟩ : ∃ R, R = C + 1 := ⟨_, rfl⟩; have HA : Hid (Below w.heap.size w wA ∧ wA.rangeAt C 0 cs ∧ World.there wA R 0 19 ∧ C < R ∧ R < wA.heap.size) := Lib.hid (by rw [← hA, hR, ← HK.out.2.2]; exact ⟨HK.out.1.alloc HK.out.1.size _, range_below HK.out.2.1 ((Below.refl _ _).alloc (Nat.le_refl _) _) (by have := HK.out.2.2; omega), nthere_new _ _ 19 (by rfl) _, by have := HK.out.2.2; omega, by simp⟩); rw [← hR]; clear hA hR
  have q2 := CallC.cell HA.out.2.1 2 _ hc.out.c2
  go_upto_region 2 with fail
  generalize hA : World.alloc wA _ = wq
  obtain ⟨J, hJ⟩ : ∃ J, J = wA.heap.size := ⟨_, rfl⟩
  have HJ : Hid (Below w.heap.size w wq ∧ wq.cell? ⟨J, 0, none⟩ = some (.int .i64 id) ∧ wq.rangeAt C 0 cs ∧ World.there wq R 0 19 ∧ C < wq.heap.size ∧ R < wq.heap.size ∧ w.heap.size ≤ R ∧ J < wq.heap.size ∧ C < R ∧ R < J) := Lib.hid (by
    have hb : Below wA.heap.size wA wq := by rw [← hA]; exact (Below.refl _ _).alloc (Nat.le_refl _) _
    have h1 := HA.out.2.2.2.1
    have h2 := HA.out.2.2.2.2
    have h3 := HCl.out
    have h4 := hb.size
    have h5 : wA.heap.size < wq.heap.size := by rw [← hA]; simp
    exact ⟨HA.out.1.trans (hb.mono HA.out.1.size), by rw [← hA, hJ]; simp, range_below HA.out.2.1 hb (by omega), nthere_below HA.out.2.2.1 hb h2, by omega, by omega, by omega, by omega, by omega, by omega⟩)
  rw [← hJ]
  clear hA hJ q2
  have q6 := CallC.cell HJ.out.2.2.1 6 _ hc.out.c6
  go_upto_region 14 with fail
  have HSU : Hid (∀ W, Below wq.heap.size wq W → (World.cell? W ⟨C, 0, none⟩ = some (.pointer (some ⟨s, 0, none⟩)) ∧ World.cell? W ⟨s, 3, none⟩ = some (.pointer (some ⟨P, 0, none⟩)) ∧ World.cell? W ⟨J, 0, none⟩ = some (.int .i64 id))) := Lib.hid (fun W hW => ⟨CallC.cell (range_below HJ.out.2.2.1 hW HJ.out.2.2.2.2.1) 0 _ hc.out.c0, ((HJ.out.1.trans (hW.mono HJ.out.1.size)).cell (p := ⟨s, 3, none⟩) HSl.out.1).trans HSl.out.2, (hW.cell (p := ⟨J, 0, none⟩) HJ.out.2.2.2.2.2.2.2.1).trans HJ.out.2.1⟩)
  go_cut [] (fun wx => Below w.heap.size w wx ∧ wx.rangeAt R 0 [.int .u32 0, .int .u32 u, .int .u32 l, .int .u32 0, .int .i64 0, .int .i64 0, .int .i64 0, .int .i64 0, .int .u32 0, .int .i64 0, .int .i64 0, .int .i64 0, .int .i64 0, .int .u32 0, .int .i64 0, .int .i64 0, .int .i64 0, .int .i64 0, .int .u32 0])
  case first =>
    obtain ⟨wD, hwD⟩ : ∃ wD, wD = wq.drew := ⟨_, rfl⟩
    have HBd : Hid (Below wq.heap.size wq wD) := Lib.hid (by rw [hwD]; exact (Below.refl _ _).drew)
    refine wp_region_noPanic ?_
    refine wp_region_held_drew (S := fun w' => (World.cell? w' ⟨C, 0, none⟩ = some (.pointer (some ⟨s, 0, none⟩)) ∧ World.cell? w' ⟨s, 3, none⟩ = some (.pointer (some ⟨P, 0, none⟩)) ∧ World.cell? w' ⟨J, 0, none⟩ = some (.int .i64 id))) (by kernel_rfl) (by rw [← hwD]; exact HSU.out _ HBd.out) (fun hHeld => ?_)
    rw [← hwD] at hHeld ⊢
    clear hwD
    refine wpAnyH_take (i := 0) (v := ?_) (by rfl) (by kernel_rfl) (by kernel_rfl) (by kernel_rfl) (fun _ _ _ h => h) (Or.inl ⟨by kernel_rfl, ?_⟩) (by assumption) ?_; rotate_left 1; (focus (intro w hSw; (try dsimp only at hSw); simp only [List.getElem_toArray, List.getElem_cons_succ, List.getElem_cons_zero]; all_goals go_simp; all_goals (try with_reducible rfl))); (try simp only [Act.put, List.getElem_toArray, List.getElem_cons_succ, List.getElem_cons_zero, List.setIfInBounds_toArray, List.set_cons_zero, List.set_cons_succ])
    refine wpAnyH_take (i := 1) (v := ?_) (by rfl) (by kernel_rfl) (by kernel_rfl) (by kernel_rfl) (fun _ _ _ h => h) (Or.inl ⟨by kernel_rfl, ?_⟩) (by assumption) ?_; rotate_left 1; (focus (intro w hSw; (try dsimp only at hSw); simp only [List.getElem_toArray, List.getElem_cons_succ, List.getElem_cons_zero]; all_goals go_simp; all_goals (try with_reducible rfl))); (try simp only [Act.put, List.getElem_toArray, List.getElem_cons_succ, List.getElem_cons_zero, List.setIfInBounds_toArray, List.set_cons_zero, List.set_cons_succ])
    refine wpAnyH_take (i := 2) (v := ?_) (by rfl) (by kernel_rfl) (by kernel_rfl) (by kernel_rfl) (fun _ _ _ h => h) (Or.inl ⟨by kernel_rfl, ?_⟩) (by assumption) ?_; rotate_left 1; (focus (intro w hSw; (try dsimp only at hSw); simp only [List.getElem_toArray, List.getElem_cons_succ, List.getElem_cons_zero]; all_goals go_simp; all_goals (try with_reducible rfl))); (try simp only [Act.put, List.getElem_toArray, List.getElem_cons_succ, List.getElem_cons_zero, List.setIfInBounds_toArray, List.set_cons_zero, List.set_cons_succ])
    refine wpAnyH_take (i := 3) (v := ?_) (by rfl) (by kernel_rfl) (by kernel_rfl) (by kernel_rfl) (fun _ _ _ h => h) (Or.inl ⟨by kernel_rfl, ?_⟩) (by assumption) ?_; rotate_left 1; (focus (intro w hSw; (try dsimp only at hSw); simp only [List.getElem_toArray, List.getElem_cons_succ, List.getElem_cons_zero]; all_goals go_simp; all_goals (try with_reducible rfl))); (try simp only [Act.put, List.getElem_toArray, List.getElem_cons_succ, List.getElem_cons_zero, List.setIfInBounds_toArray, List.set_cons_zero, List.set_cons_succ])
    refine wpAnyH_take (i := 4) (v := ?_) (by rfl) (by kernel_rfl) (by kernel_rfl) (by kernel_rfl) (fun _ _ _ h => h) (Or.inl ⟨by kernel_rfl, ?_⟩) (by assumption) ?_; rotate_left 1; (focus (intro w hSw; (try dsimp only at hSw); simp only [List.getElem_toArray, List.getElem_cons_succ, List.getElem_cons_zero]; all_goals go_simp; all_goals (try with_reducible rfl))); (try simp only [Act.put, List.getElem_toArray, List.getElem_cons_succ, List.getElem_cons_zero, List.setIfInBounds_toArray, List.set_cons_zero, List.set_cons_succ])
    refine wpAnyH_take (i := 5) (v := ?_) (by rfl) (by kernel_rfl) (by kernel_rfl) (by kernel_rfl) (fun _ _ _ h => h) (Or.inl ⟨by kernel_rfl, ?_⟩) (by assumption) ?_; rotate_left 1; (focus (intro w hSw; (try dsimp only at hSw); simp only [List.getElem_toArray, List.getElem_cons_succ, List.getElem_cons_zero]; all_goals go_simp; all_goals (try with_reducible rfl))); (try simp only [Act.put, List.getElem_toArray, List.getElem_cons_succ, List.getElem_cons_zero, List.setIfInBounds_toArray, List.set_cons_zero, List.set_cons_succ])
    refine wpAnyH_take (i := 8) (v := ?_) (by rfl) (by kernel_rfl) (by kernel_rfl) (by kernel_rfl) (fun _ _ _ h => h) (Or.inl ⟨by kernel_rfl, ?_⟩) (by assumption) ?_; rotate_left 1; (focus (intro w hSw; (try dsimp only at hSw); simp only [List.getElem_toArray, List.getElem_cons_succ, List.getElem_cons_zero]; all_goals go_simp; all_goals (try with_reducible rfl))); (try simp only [Act.put, List.getElem_toArray, List.getElem_cons_succ, List.getElem_cons_zero, List.setIfInBounds_toArray, List.set_cons_zero, List.set_cons_succ])
    refine wpAnyH_take (i := 9) (v := ?_) (by rfl) (by kernel_rfl) (by kernel_rfl) (by kernel_rfl) (fun _ _ _ h => h) (Or.inl ⟨by kernel_rfl, ?_⟩) (by assumption) ?_; rotate_left 1; (focus (intro w hSw; (try dsimp only at hSw); simp only [List.getElem_toArray, List.getElem_cons_succ, List.getElem_cons_zero]; all_goals go_simp; all_goals (try with_reducible rfl))); (try simp only [Act.put, List.getElem_toArray, List.getElem_cons_succ, List.getElem_cons_zero, List.setIfInBounds_toArray, List.set_cons_zero, List.set_cons_succ])
    refine wpAnyH_take (i := 10) (v := ?_) (by rfl) (by kernel_rfl) (by kernel_rfl) (by kernel_rfl) (fun _ _ _ h => h) (Or.inl ⟨by kernel_rfl, ?_⟩) (by assumption) ?_; rotate_left 1; (focus (intro w hSw; (try dsimp only at hSw); simp only [List.getElem_toArray, List.getElem_cons_succ, List.getElem_cons_zero]; all_goals go_simp; all_goals (try with_reducible rfl))); (try simp only [Act.put, List.getElem_toArray, List.getElem_cons_succ, List.getElem_cons_zero, List.setIfInBounds_toArray, List.set_cons_zero, List.set_cons_succ])
    refine wpAnyH_take (i := 11) (v := ?_) (by rfl) (by kernel_rfl) (by kernel_rfl) (by kernel_rfl) (fun _ _ _ h => h) (Or.inl ⟨by kernel_rfl, ?_⟩) (by assumption) ?_; rotate_left 1; (focus (intro w hSw; (try dsimp only at hSw); simp only [List.getElem_toArray, List.getElem_cons_succ, List.getElem_cons_zero]; all_goals go_simp; all_goals (try with_reducible rfl))); (try simp only [Act.put, List.getElem_toArray, List.getElem_cons_succ, List.getElem_cons_zero, List.setIfInBounds_toArray, List.set_cons_zero, List.set_cons_succ])
    refine wpAnyH_take (i := 12) (v := ?_) (by rfl) (by kernel_rfl) (by kernel_rfl) (by kernel_rfl) (fun _ _ _ h => h) (Or.inl ⟨by kernel_rfl, ?_⟩) (by assumption) ?_; rotate_left 1; (focus (intro w hSw; (try dsimp only at hSw); simp only [List.getElem_toArray, List.getElem_cons_succ, List.getElem_cons_zero]; all_goals go_simp; all_goals (try with_reducible rfl))); (try simp only [Act.put, List.getElem_toArray, List.getElem_cons_succ, List.getElem_cons_zero, List.setIfInBounds_toArray, List.set_cons_zero, List.set_cons_succ])
    refine wpAnyH_take (i := 13) (v := ?_) (by rfl) (by kernel_rfl) (by kernel_rfl) (by kernel_rfl) (fun _ _ _ h => h) (Or.inl ⟨by kernel_rfl, ?_⟩) (by assumption) ?_; rotate_left 1; (focus (intro w hSw; (try dsimp only at hSw); simp only [List.getElem_toArray, List.getElem_cons_succ, List.getElem_cons_zero]; all_goals go_simp; all_goals (try with_reducible rfl))); (try simp only [Act.put, List.getElem_toArray, List.getElem_cons_succ, List.getElem_cons_zero, List.setIfInBounds_toArray, List.set_cons_zero, List.set_cons_succ])
    refine wpAnyH_ready (rs := [6]) (by kernel_rfl) (by simp) ?_; refine AllReadyH.cons (by rfl) (fun K hK => ?_) AllReadyH.nil; rw [if_pos (by kernel_rfl)]; simp only [List.getElem_toArray, List.getElem_cons_succ, List.getElem_cons_zero]
    go_wp2_with (first | (go_at_call 34; (with_reducible refine (HU.out _ (HJ.out.1.trans (HBd.out.mono HJ.out.1.size))).mono ?_); rintro e w3 ⟨rfl, rfl⟩)); refine hK.out _ _ (HSU.out _ HBd.out) (fun hHeld => ?_); clear hK K; (try simp only [Act.put, List.getElem_toArray, List.getElem_cons_succ, List.getElem_cons_zero, List.setIfInBounds_toArray, List.set_cons_zero, List.set_cons_succ]); refine wpAnyH_take (i := 7) (v := ?_) (by rfl) (by kernel_rfl) (by kernel_rfl) (by kernel_rfl) (fun _ _ _ h => h) (Or.inl ⟨by kernel_rfl, ?_⟩) (by assumption) ?_; rotate_left 1; (focus (intro w hSw; (try dsimp only at hSw); simp only [List.getElem_toArray, List.getElem_cons_succ, List.getElem_cons_zero]; all_goals go_simp; all_goals (try with_reducible rfl))); (try simp only [Act.put, List.getElem_toArray, List.getElem_cons_succ, List.getElem_cons_zero, List.setIfInBounds_toArray, List.set_cons_zero, List.set_cons_succ])
    refine wpAnyH_ready (rs := [14]) (by kernel_rfl) (by simp) ?_; refine AllReadyH.cons (by rfl) (fun K hK => ?_) AllReadyH.nil; rw [if_pos (by kernel_rfl)]; simp only [List.getElem_toArray, List.getElem_cons_succ, List.getElem_cons_zero]
    go_wp2_with (first | (go_at_call 157; (with_reducible refine (HLm.out _ (HJ.out.1.trans (HBd.out.mono HJ.out.1.size))).mono ?_); rintro e w3 ⟨rfl, rfl⟩)); refine hK.out _ _ (HSU.out _ HBd.out) (fun hHeld => ?_); clear hK K; (try simp only [Act.put, List.getElem_toArray, List.getElem_cons_succ, List.getElem_cons_zero, List.setIfInBounds_toArray, List.set_cons_zero, List.set_cons_succ]); refine wpAnyH_take (i := 15) (v := ?_) (by rfl) (by kernel_rfl) (by kernel_rfl) (by kernel_rfl) (fun _ _ _ h => h) (Or.inl ⟨by kernel_rfl, ?_⟩) (by assumption) ?_; rotate_left 1; (focus (intro w hSw; (try dsimp only at hSw); simp only [List.getElem_toArray, List.getElem_cons_succ, List.getElem_cons_zero]; all_goals go_simp; all_goals (try with_reducible rfl))); (try simp only [Act.put, List.getElem_toArray, List.getElem_cons_succ, List.getElem_cons_zero, List.setIfInBounds_toArray, List.set_cons_zero, List.set_cons_succ])
    refine wpAnyH_ready (rs := [16]) (by kernel_rfl) (by simp) ?_; refine AllReadyH.cons (by rfl) (fun K hK => ?_) AllReadyH.nil; rw [if_pos (by kernel_rfl)]; simp only [List.getElem_toArray, List.getElem_cons_succ, List.getElem_cons_zero]; go_wp2_with fail; generalize hE : World.alloc _ _ = wE; obtain ⟨g, hg⟩ : ∃ g, g = wD.heap.size := ⟨_, rfl⟩; have HE : Hid (Below wq.heap.size wq wE ∧ wE.rangeAt g 0 [.int .u32 u, .int .u32 l]) := (Lib.hid (by rw [← hE, hg]; exact ⟨HBd.out.alloc HBd.out.size _, pair_new _ _ _ _⟩)); rw [← hg]; clear hE hg; refine hK.out _ _ (HSU.out _ HE.out.1) (fun hHeld => ?_); clear hK K; (try simp only [Act.put, List.getElem_toArray, List.getElem_cons_succ, List.getElem_cons_zero, List.setIfInBounds_toArray, List.set_cons_zero, List.set_cons_succ]); refine wpAnyH_ready (rs := [17]) (by kernel_rfl) (by simp) ?_; refine AllReadyH.cons (by rfl) (fun K hK => ?_) AllReadyH.nil; rw [if_pos (by kernel_rfl)]; simp only [List.getElem_toArray, List.getElem_cons_succ, List.getElem_cons_zero]; go_wp2_with (first | (go_at_call 133; (with_reducible refine (owords_two u l g 2 _ HE.out.2).mono ?_); rintro e w9 ⟨rfl, hb⟩; have H9 : Hid (Below wq.heap.size wq w9) := (Lib.hid (HE.out.1.trans (hb.mono HE.out.1.size))); clear hb)); refine hK.out _ _ (HSU.out _ H9.out) (fun hHeld => ?_); clear hK K; (try simp only [Act.put, List.getElem_toArray, List.getElem_cons_succ, List.getElem_cons_zero, List.setIfInBounds_toArray, List.set_cons_zero, List.set_cons_succ]); refine wpAnyH_ready (rs := [18]) (by kernel_rfl) (by simp) ?_; refine AllReadyH.cons (by rfl) (fun K hK => ?_) AllReadyH.nil; rw [if_pos (by kernel_rfl)]; simp only [List.getElem_toArray, List.getElem_cons_succ, List.getElem_cons_zero]; have HT9 := Lib.hid (nthere_below HJ.out.2.2.2.1 H9.out HJ.out.2.2.2.2.2.1); refine wp_store_mid 64 (Operand.tmp 2) (Operand.tmp 52) (by rfl) R 0 ([.int .u32 0, .int .u32 u, .int .u32 l, .int .u32 0, .int .i64 0, .int .i64 0, .int .i64 0, .int .i64 0, .int .u32 0, .int .i64 0, .int .i64 0, .int .i64 0, .int .i64 0, .int .u32 0, .int .i64 0, .int .i64 0, .int .i64 0, .int .i64 0, .int .u32 0] : List Value).toArray (by rfl) (by rfl) HT9.out infoNote (note_one _ _ _ _ _ _ _ _ _ _ _ _ _ _ _ _ _ _ _) ?_; generalize hF : World.setCells w9 _ _ _ = wF; have HF : Hid (Below w.heap.size w9 wF ∧ wF.rangeAt R 0 [.int .u32 0, .int .u32 u, .int .u32 l, .int .u32 0, .int .i64 0, .int .i64 0, .int .i64 0, .int .i64 0, .int .u32 0, .int .i64 0, .int .i64 0, .int .i64 0, .int .i64 0, .int .u32 0, .int .i64 0, .int .i64 0, .int .i64 0, .int .i64 0, .int .u32 0]) := (Lib.hid (by rw [← hF]; exact ⟨nbelow_cells (Below.refl _ _) HJ.out.2.2.2.2.2.2.1 _ _, World.rangeAt_setCells_same w9 R 0 [.int .u32 0, .int .u32 u, .int .u32 l, .int .u32 0, .int .i64 0, .int .i64 0, .int .i64 0, .int .i64 0, .int .u32 0, .int .i64 0, .int .i64 0, .int .i64 0, .int .i64 0, .int .u32 0, .int .i64 0, .int .i64 0, .int .i64 0, .int .i64 0, .int .u32 0] HT9.out⟩)); have HSF : Hid (World.cell? wF ⟨C, 0, none⟩ = some (.pointer (some ⟨s, 0, none⟩)) ∧ World.cell? wF ⟨s, 3, none⟩ = some (.pointer (some ⟨P, 0, none⟩)) ∧ World.cell? wF ⟨J, 0, none⟩ = some (.int .i64 id)) := (Lib.hid (by have h9 := HSU.out _ H9.out; have hcr := HJ.out.2.2.2.2.2.2.2.2; have hsl := HSl.out.1; have hrl := HJ.out.2.2.2.2.2.2.1; rw [← hF]; exact ⟨(World.cell?_setCells_out _ _ _ _ _ (fun h _ => absurd h (by show ¬ C = R; omega))).trans h9.1, (World.cell?_setCells_out _ _ _ _ _ (fun h _ => absurd h (by show ¬ s = R; omega))).trans h9.2.1, (World.cell?_setCells_out _ _ _ _ _ (fun h _ => absurd h (by show ¬ J = R; omega))).trans h9.2.2⟩)); clear hF; refine hK.out _ _ HSF.out (fun hHeld => ?_); clear hK K; (try simp only [Act.put, List.getElem_toArray, List.getElem_cons_succ, List.getElem_cons_zero, List.setIfInBounds_toArray, List.set_cons_zero, List.set_cons_succ]); refine wpAnyH_done (by kernel_rfl) ?_ _; refine NoPanic.normal ?_; go_wp2_with fail; go_meet; exact ⟨(HJ.out.1.trans (H9.out.mono HJ.out.1.size)).trans HF.out.1, HF.out.2⟩
  case rest =>
    have hld := nload rfl hcut.2
    go_wp2_with fail
    refine bodyPost_ret (v := (Value.agg #[.int .u32 0, .int .u32 u, .int .u32 l, .int .u32 0, .int .i64 0, .int .i64 0, .int .i64 0, .int .i64 0, .int .u32 0, .int .i64 0, .int .i64 0, .int .i64 0, .int .i64 0, .int .u32 0, .int .i64 0, .int .i64 0, .int .i64 0, .int .i64 0, .int .u32 0])) (by simp [results, Tryz.results117, Act.put, asAddr, hld]) rfl ⟨rfl, hcut.1⟩
end
end Go.Proofs.YtncopdhhchmpeaaGreatDoor
namespace Go.Proofs.YtncopdhhchmpeaaGreatDoor
open Go.ChangeShapes Go.WideShapes Go.ChangeAt Go.RowKit
set_option linter.unusedVariables false
set_option linter.unusedSimpArgs false
/-- What lies behind N stays, but for one box. -/
def UpX (N G : Nat) (w w' : World) : Prop := w.heap.size ≤ w'.heap.size ∧ ∀ k, N ≤ k → k < w.heap.size → k ≠ G → w'.heap[k]? = w.heap[k]?
theorem UpX.pre {N G : Nat} {w w1 w2 : World} (hb : Below w.heap.size w w1) (h : UpX N G w1 w2) : UpX N G w w2 := ⟨Nat.le_trans hb.size h.1, fun k h1 h2 h3 => (h.2 k h1 (Nat.lt_of_lt_of_le h2 hb.size) h3).trans (hb.block k h2)⟩
theorem UpX.up {N G : Nat} {w w1 w2 : World} (hb : Below w.heap.size w w1) (h : UpX N G w1 w2) (hG : w.heap.size ≤ G) : UpT N w w2 := ⟨Nat.le_trans hb.size h.1, fun k h1 h2 => (h.2 k h1 (Nat.lt_of_lt_of_le h2 hb.size) (by omega)).trans (hb.block k h2)⟩
section
variable {cs nt : List Value} {s N P : Nat} {id k2 k3 k4 o x : Int} {Q : World → Prop}
set_option maxRecDepth 100000 in
set_option maxHeartbeats 2000000 in
theorem odoms_is {L : BLoc} {D : BSt} (y : Nat) (hn0 : ownN L D y ≤ 1000) (hno : Hid (∀ (j : Nat) (z : Nat × Nat × Int), (items L D y)[j]? = some z → ((z.1 : Int) == 4) = false)) (hc : Hid (CallC cs s 8 id k2 k3 k4 o x)) (w : World) (hT : L.T ≤ w.heap.size) (hs : w.cell? ⟨s, 3, none⟩ = some (.pointer (some ⟨P, 0, none⟩)))
    (hO : ∀ W, Below w.heap.size w W → Calls Tryz.prog 74 #[.pointer (some ⟨P, 0, none⟩), .int .i64 (y : Int)] W fun e w' => ∃ v, e = .returned v ∧ Below W.heap.size W w' ∧ w'.ownsRow W.heap.size 42 5 v (ownN L D y) (ownK L D y)) :
    Calls Tryz.prog 185 #[(.agg cs.toArray), .int .i64 (y : Int)] w fun e w' => e = .returned (.slice none 0 0) ∧ Below w.heap.size w w' := by
  have HO := Lib.hid hO
  have HSl := Lib.hid (⟨cell_lt hs, hs⟩ : s < w.heap.size ∧ w.cell? ⟨s, 3, none⟩ = some (.pointer (some ⟨P, 0, none⟩)))
  obtain ⟨n1, hn1⟩ : ∃ n1, Hid (ownN L D y = n1) := ⟨_, Lib.hid rfl⟩
  rw [hn1.out] at hn0
  clear hO hs
  go_enter Tryz.func185, Tryz.ntmps185; go_upto_region 1 with fail; generalize hA : World.alloc w _ = wA; obtain ⟨C, hC⟩ : ∃ C, C = w.heap.size := ⟨_, rfl⟩; have HA : Hid (Below w.heap.size w wA ∧ wA.rangeAt C 0 cs ∧ C < wA.heap.size ∧ w.heap.size ≤ C) := (Lib.hid (by rw [← hA, hC]; exact ⟨(Below.refl _ _).alloc (Nat.le_refl _) _, cbox _ _ _, by simp, Nat.le_refl _⟩)); rw [← hC]; clear hA hC
  have c0 := CallC.cell HA.out.2.1 0 _ hc.out.c0
  have c3 := (HA.out.1.cell (p := ⟨s, 3, none⟩) HSl.out.1).trans HSl.out.2
  go_wp2_with (first
    | (go_at_call 74; (with_reducible refine (HO.out _ HA.out.1).mono ?_); rintro e w4 ⟨v4, rfl, hb, hr⟩; obtain ⟨a2, c2, hv4, hkr⟩ := owned_row (T := L.T) hr (Nat.le_trans hT HA.out.1.size); rw [hn1.out] at hv4; subst hv4; have HKR := Lib.hid hkr; have HB4 := Lib.hid (HA.out.1.trans (hb.mono HA.out.1.size)); clear hb hr hkr c0 c3))
  go_loopw [5, 16] (fun dv iv wx => ∃ k : Nat, k ≤ n1 ∧ dv = .slice none 0 0 ∧ iv = .int .i64 k ∧ Below w4.heap.size w4 wx) (fun _ i _ => n1 - (intOf i).toNat)
  case atStart => exact ⟨0, by omega, rfl, rfl, Below.refl _ _⟩
  case round =>
    obtain ⟨k, hk, rfl, rfl, hbx⟩ := hrel
    have HBx := Lib.hid hbx
    clear hbx
    by_cases hlk : k < n1
    · obtain ⟨z, hz⟩ := at_some (l := items L D y) (j := k) (by rw [items_len, hn1.out]; exact hlk)
      obtain ⟨g2, hg2, hcc⟩ := HKR.out _ (UpT.below HBx.out) k z hz
      have hz4 := hno.out k z hz
      obtain ⟨q0, q1, q2, q3, q4⟩ := hcc
      subst hg2
      have e0 : (0 : Int) ≤ k := by omega
      have e1 : (k : Int) < n1 := by omega
      clear hz
      go_wp2_with fail
      go_roundw
      case rel => exact ⟨k + 1, by omega, rfl, by go_num, HBx.out.alloc HBx.out.size _⟩
      case measure => simp [intOf]; omega
    · obtain rfl : k = n1 := by omega
      go_wp2_with fail
      go_ret
      exact ⟨rfl, HB4.out.trans (HBx.out.mono HB4.out.size)⟩
set_option maxRecDepth 100000 in
set_option maxHeartbeats 2000000 in
theorem owithout_is (C G : Nat) (hc : Hid (CallC cs s 8 id k2 k3 k4 o x)) (w : World)
    (hd : ∀ W, Below w.heap.size w W → Calls Tryz.prog 186 #[.pointer (some ⟨C, 0, none⟩), .pointer (some ⟨G, 0, none⟩)] W fun e w' => e = .returned .nilIface ∧ Q w' ∧ UpX N G W w') :
    Calls Tryz.prog 183 #[(.agg cs.toArray), .slice none 0 0, (Value.func (.func 186) #[] #[.pointer (some ⟨C, 0, none⟩), .pointer (some ⟨G, 0, none⟩)])] w fun e w' => e = .returned .nilIface ∧ Q w' ∧ UpX N G w w' := by
  have HD := Lib.hid hd
  clear hd
  go_enter Tryz.func183, Tryz.ntmps183
  go_upto_region 1 with fail
  generalize hA : World.alloc w _ = wA
  have HA : Hid (Below w.heap.size w wA) := Lib.hid (by rw [← hA]; exact (Below.refl _ _).alloc (Nat.le_refl _) _)
  clear hA
  go_wp2_with fail
  refine wp_loop_rounds 1 ?_
  rw [rounds_succ]
  go_wp2_with (first
    | (go_at_call 186; (with_reducible refine (HD.out _ HA.out).mono ?_); rintro e w1 ⟨rfl, hq, hu⟩; have H1 := Lib.hid hq; have HU1 := Lib.hid (UpX.pre HA.out hu); clear hq hu))
  refine wp_loop_rounds 1 ?_
  rw [rounds_succ]
  go_wp2_with fail
  refine wp_loop_rounds 1 ?_
  rw [rounds_succ]
  go_wp2_with fail
  go_ret
  exact ⟨rfl, H1.out, HU1.out⟩
set_option maxRecDepth 100000 in
set_option maxHeartbeats 2000000 in
theorem oend_cl (C G : Nat) (m : Int) (w : World) (hS : (World.cell? w ⟨C, 0, none⟩ = some (.pointer (some ⟨s, 0, none⟩)) ∧ World.cell? w ⟨s, 3, none⟩ = some (.pointer (some ⟨P, 0, none⟩)) ∧ World.cell? w ⟨C, 2, none⟩ = some (.int .i64 id))) (hG : ∃ v, w.cell? ⟨G, 0, none⟩ = some v) (hF : w.frozen? ⟨G, 0, none⟩ = false) (hN : N ≤ C ∧ N ≤ G) (hQ : ∀ w1 w2, Q w1 → Below N w1 w2 → Q w2) (hQs : ∀ W, Q W → W.cell? ⟨s, 3, none⟩ = some (.pointer (some ⟨P, 0, none⟩)))
    (he : ∀ W, Below w.heap.size w W → Calls Tryz.prog 25 #[.pointer (some ⟨P, 0, none⟩), .int .i64 id] W fun e w' => e = .returned (.tuple #[.int .i64 m, .nilIface]) ∧ Q w' ∧ UpT N W w') :
    Calls Tryz.prog 186 #[.pointer (some ⟨C, 0, none⟩), .pointer (some ⟨G, 0, none⟩)] w fun e w' => e = .returned .nilIface ∧ (Q w' ∧ w'.cell? ⟨G, 0, none⟩ = some (.int .i64 m)) ∧ UpX N G w w' := by
  obtain ⟨gv, hG⟩ := hG
  have HS := Lib.hid hS
  have HE := Lib.hid he
  have HQ := Lib.hid hQ
  have HQs := Lib.hid hQs
  have HGc := Lib.hid (⟨cell_lt hG, hG, hF⟩ : G < w.heap.size ∧ w.cell? ⟨G, 0, none⟩ = some gv ∧ w.frozen? ⟨G, 0, none⟩ = false)
  have HL := Lib.hid (⟨cell_lt hS.1, cell_lt hS.2.1⟩ : C < w.heap.size ∧ s < w.heap.size)
  clear hS he hQ hQs hG hF
  go_enter Tryz.func186, Tryz.ntmps186
  go_upto_region 1 with fail
  obtain ⟨wD, hwD⟩ : ∃ wD, wD = w.drew := ⟨_, rfl⟩
  have HBd : Hid (Below w.heap.size w wD) := Lib.hid (by rw [hwD]; exact (Below.refl _ _).drew)
  have HSD : Hid (World.cell? wD ⟨C, 0, none⟩ = some (.pointer (some ⟨s, 0, none⟩)) ∧ World.cell? wD ⟨s, 3, none⟩ = some (.pointer (some ⟨P, 0, none⟩)) ∧ World.cell? wD ⟨C, 2, none⟩ = some (.int .i64 id)) := Lib.hid ⟨(HBd.out.cell (p := ⟨C, 0, none⟩) HL.out.1).trans HS.out.1, (HBd.out.cell (p := ⟨s, 3, none⟩) HL.out.2).trans HS.out.2.1, (HBd.out.cell (p := ⟨C, 2, none⟩) HL.out.1).trans HS.out.2.2⟩
  refine wp_region_noPanic ?_
  refine wp_region_held_drew (S := fun w' => (World.cell? w' ⟨C, 0, none⟩ = some (.pointer (some ⟨s, 0, none⟩)) ∧ World.cell? w' ⟨s, 3, none⟩ = some (.pointer (some ⟨P, 0, none⟩)) ∧ World.cell? w' ⟨C, 2, none⟩ = some (.int .i64 id))) (by kernel_rfl) (by rw [← hwD]; exact HSD.out) (fun hHeld => ?_)
  rw [← hwD] at hHeld ⊢
  clear hwD
  refine wpAnyH_take (i := 0) (v := ?_) (by rfl) (by kernel_rfl) (by kernel_rfl) (by kernel_rfl) (fun _ _ _ h => h) (Or.inl ⟨by kernel_rfl, ?_⟩) (by assumption) ?_; rotate_left 1; (focus (intro w hSw; (try dsimp only at hSw); simp only [List.getElem_toArray, List.getElem_cons_succ, List.getElem_cons_zero]; all_goals go_simp; all_goals (try with_reducible rfl))); (try simp only [Act.put, List.getElem_toArray, List.getElem_cons_succ, List.getElem_cons_zero, List.setIfInBounds_toArray, List.set_cons_zero, List.set_cons_succ])
  refine wpAnyH_take (i := 1) (v := ?_) (by rfl) (by kernel_rfl) (by kernel_rfl) (by kernel_rfl) (fun _ _ _ h => h) (Or.inl ⟨by kernel_rfl, ?_⟩) (by assumption) ?_; rotate_left 1; (focus (intro w hSw; (try dsimp only at hSw); simp only [List.getElem_toArray, List.getElem_cons_succ, List.getElem_cons_zero]; all_goals go_simp; all_goals (try with_reducible rfl))); (try simp only [Act.put, List.getElem_toArray, List.getElem_cons_succ, List.getElem_cons_zero, List.setIfInBounds_toArray, List.set_cons_zero, List.set_cons_succ])
  refine wpAnyH_take (i := 2) (v := ?_) (by rfl) (by kernel_rfl) (by kernel_rfl) (by kernel_rfl) (fun _ _ _ h => h) (Or.inl ⟨by kernel_rfl, ?_⟩) (by assumption) ?_; rotate_left 1; (focus (intro w hSw; (try dsimp only at hSw); simp only [List.getElem_toArray, List.getElem_cons_succ, List.getElem_cons_zero]; all_goals go_simp; all_goals (try with_reducible rfl))); (try simp only [Act.put, List.getElem_toArray, List.getElem_cons_succ, List.getElem_cons_zero, List.setIfInBounds_toArray, List.set_cons_zero, List.set_cons_succ])
  refine wpAnyH_take (i := 3) (v := ?_) (by rfl) (by kernel_rfl) (by kernel_rfl) (by kernel_rfl) (fun _ _ _ h => h) (Or.inl ⟨by kernel_rfl, ?_⟩) (by assumption) ?_; rotate_left 1; (focus (intro w hSw; (try dsimp only at hSw); simp only [List.getElem_toArray, List.getElem_cons_succ, List.getElem_cons_zero]; all_goals go_simp; all_goals (try with_reducible rfl))); (try simp only [Act.put, List.getElem_toArray, List.getElem_cons_succ, List.getElem_cons_zero, List.setIfInBounds_toArray, List.set_cons_zero, List.set_cons_succ])
  refine wpAnyH_take (i := 4) (v := ?_) (by rfl) (by kernel_rfl) (by kernel_rfl) (by kernel_rfl) (fun _ _ _ h => h) (Or.inl ⟨by kernel_rfl, ?_⟩) (by assumption) ?_; rotate_left 1; (focus (intro w hSw; (try dsimp only at hSw); simp only [List.getElem_toArray, List.getElem_cons_succ, List.getElem_cons_zero]; all_goals go_simp; all_goals (try with_reducible rfl))); (try simp only [Act.put, List.getElem_toArray, List.getElem_cons_succ, List.getElem_cons_zero, List.setIfInBounds_toArray, List.set_cons_zero, List.set_cons_succ])
  refine wpAnyH_take (i := 5) (v := ?_) (by rfl) (by kernel_rfl) (by kernel_rfl) (by kernel_rfl) (fun _ _ _ h => h) (Or.inl ⟨by kernel_rfl, ?_⟩) (by assumption) ?_; rotate_left 1; (focus (intro w hSw; (try dsimp only at hSw); simp only [List.getElem_toArray, List.getElem_cons_succ, List.getElem_cons_zero]; all_goals go_simp; all_goals (try with_reducible rfl))); (try simp only [Act.put, List.getElem_toArray, List.getElem_cons_succ, List.getElem_cons_zero, List.setIfInBounds_toArray, List.set_cons_zero, List.set_cons_succ])
  refine wpAnyH_take (i := 6) (v := ?_) (by rfl) (by kernel_rfl) (by kernel_rfl) (by kernel_rfl) (fun _ _ _ h => h) (Or.inl ⟨by kernel_rfl, ?_⟩) (by assumption) ?_; rotate_left 1; (focus (intro w hSw; (try dsimp only at hSw); simp only [List.getElem_toArray, List.getElem_cons_succ, List.getElem_cons_zero]; all_goals go_simp; all_goals (try with_reducible rfl))); (try simp only [Act.put, List.getElem_toArray, List.getElem_cons_succ, List.getElem_cons_zero, List.setIfInBounds_toArray, List.set_cons_zero, List.set_cons_succ])
  refine wpAnyH_take (i := 7) (v := ?_) (by rfl) (by kernel_rfl) (by kernel_rfl) (by kernel_rfl) (fun _ _ _ h => h) (Or.inl ⟨by kernel_rfl, ?_⟩) (by assumption) ?_; rotate_left 1; (focus (intro w hSw; (try dsimp only at hSw); simp only [List.getElem_toArray, List.getElem_cons_succ, List.getElem_cons_zero]; all_goals go_simp; all_goals (try with_reducible rfl))); (try simp only [Act.put, List.getElem_toArray, List.getElem_cons_succ, List.getElem_cons_zero, List.setIfInBounds_toArray, List.set_cons_zero, List.set_cons_succ])
  refine wpAnyH_ready (rs := [8]) (by kernel_rfl) (by simp) ?_; refine AllReadyH.cons (by rfl) (fun K hK => ?_) AllReadyH.nil; rw [if_pos (by kernel_rfl)]; simp only [List.getElem_toArray, List.getElem_cons_succ, List.getElem_cons_zero]
  go_wp2_with (first | (go_at_call 25; (with_reducible refine (HE.out _ HBd.out).mono ?_); rintro e w2 ⟨rfl, hq, hu⟩; have H2 := Lib.hid hq; have HU2 : Hid (UpT N w w2) := Lib.hid ((UpT.below HBd.out).trans hu); clear hq hu))
  have hbC := HU2.out.2 C hN.1 HL.out.1
  have hbG := HU2.out.2 G hN.2 HGc.out.1
  have HSE : Hid (World.cell? w2 ⟨C, 0, none⟩ = some (.pointer (some ⟨s, 0, none⟩)) ∧ World.cell? w2 ⟨s, 3, none⟩ = some (.pointer (some ⟨P, 0, none⟩)) ∧ World.cell? w2 ⟨C, 2, none⟩ = some (.int .i64 id)) := Lib.hid ⟨(World.cell?_of_block (a := ⟨C, 0, none⟩) hbC).trans HS.out.1, HQs.out _ H2.out, (World.cell?_of_block (a := ⟨C, 2, none⟩) hbC).trans HS.out.2.2⟩
  have HG2 : Hid (w2.cell? ⟨G, 0, none⟩ = some gv ∧ w2.frozen? ⟨G, 0, none⟩ = false) := Lib.hid ⟨(World.cell?_of_block (a := ⟨G, 0, none⟩) hbG).trans HGc.out.2.1, (World.frozen?_of_block (a := ⟨G, 0, none⟩) hbG).trans HGc.out.2.2⟩
  refine hK.out _ _ HSE.out (fun hHeld => ?_)
  clear hK K hbC hbG
  (try simp only [Act.put, List.getElem_toArray, List.getElem_cons_succ, List.getElem_cons_zero, List.setIfInBounds_toArray, List.set_cons_zero, List.set_cons_succ])
  refine wpAnyH_take (i := 9) (v := ?_) (by rfl) (by kernel_rfl) (by kernel_rfl) (by kernel_rfl) (fun _ _ _ h => h) (Or.inl ⟨by kernel_rfl, ?_⟩) (by assumption) ?_; rotate_left 1; (focus (intro w hSw; (try dsimp only at hSw); simp only [List.getElem_toArray, List.getElem_cons_succ, List.getElem_cons_zero]; all_goals go_simp; all_goals (try with_reducible rfl))); (try simp only [Act.put, List.getElem_toArray, List.getElem_cons_succ, List.getElem_cons_zero, List.setIfInBounds_toArray, List.set_cons_zero, List.set_cons_succ])
  refine wpAnyH_take (i := 10) (v := ?_) (by rfl) (by kernel_rfl) (by kernel_rfl) (by kernel_rfl) (fun _ _ _ h => h) (Or.inl ⟨by kernel_rfl, ?_⟩) (by assumption) ?_; rotate_left 1; (focus (intro w hSw; (try dsimp only at hSw); simp only [List.getElem_toArray, List.getElem_cons_succ, List.getElem_cons_zero]; all_goals go_simp; all_goals (try with_reducible rfl))); (try simp only [Act.put, List.getElem_toArray, List.getElem_cons_succ, List.getElem_cons_zero, List.setIfInBounds_toArray, List.set_cons_zero, List.set_cons_succ])
  refine wpAnyH_take (i := 11) (v := ?_) (by rfl) (by kernel_rfl) (by kernel_rfl) (by kernel_rfl) (fun _ _ _ h => h) (Or.inl ⟨by kernel_rfl, ?_⟩) (by assumption) ?_; rotate_left 1; (focus (intro w hSw; (try dsimp only at hSw); simp only [List.getElem_toArray, List.getElem_cons_succ, List.getElem_cons_zero]; all_goals go_simp; all_goals (try with_reducible rfl))); (try simp only [Act.put, List.getElem_toArray, List.getElem_cons_succ, List.getElem_cons_zero, List.setIfInBounds_toArray, List.set_cons_zero, List.set_cons_succ])
  refine wpAnyH_take (i := 12) (v := ?_) (by rfl) (by kernel_rfl) (by kernel_rfl) (by kernel_rfl) (fun _ _ _ h => h) (Or.inl ⟨by kernel_rfl, ?_⟩) (by assumption) ?_; rotate_left 1; (focus (intro w hSw; (try dsimp only at hSw); simp only [List.getElem_toArray, List.getElem_cons_succ, List.getElem_cons_zero]; all_goals go_simp; all_goals (try with_reducible rfl))); (try simp only [Act.put, List.getElem_toArray, List.getElem_cons_succ, List.getElem_cons_zero, List.setIfInBounds_toArray, List.set_cons_zero, List.set_cons_succ])
  refine wpAnyH_take (i := 13) (v := ?_) (by rfl) (by kernel_rfl) (by kernel_rfl) (by kernel_rfl) (fun _ _ _ h => h) (Or.inl ⟨by kernel_rfl, ?_⟩) (by assumption) ?_; rotate_left 1; (focus (intro w hSw; (try dsimp only at hSw); simp only [List.getElem_toArray, List.getElem_cons_succ, List.getElem_cons_zero]; all_goals go_simp; all_goals (try with_reducible rfl))); (try simp only [Act.put, List.getElem_toArray, List.getElem_cons_succ, List.getElem_cons_zero, List.setIfInBounds_toArray, List.set_cons_zero, List.set_cons_succ])
  refine wpAnyH_done (by kernel_rfl) ?_ _
  refine NoPanic.normal ?_
  have z0 := HG2.out.1
  have z1 := HG2.out.2
  go_wp2_with fail
  go_ret
  have hbs : Below N w2 (w2.setCell ⟨G, 0, none⟩ (.int .i64 m)) := (Below.refl N w2).setCell hN.2 _
  exact ⟨rfl, ⟨HQ.out _ _ H2.out hbs, World.cell?_setCell_same _ _ _ z0⟩, by have := hbs.size; have := HU2.out.1; omega, fun k h1 h2 h3 => (Below.heap_setCell _ _ _ _ h3).trans (HU2.out.2 k h1 h2)⟩
end
end Go.Proofs.YtncopdhhchmpeaaGreatDoor
namespace Go.Proofs.YtncopdhhchmpeaaGreatDoor
open Go.ChangeShapes Go.WideShapes Go.ChangeAt Go.RowKit
set_option linter.unusedVariables false
set_option linter.unusedSimpArgs false
section
variable {cs nt : List Value} {s N P : Nat} {id k2 k3 k4 o x : Int} {Q : World → Prop}
theorem sc2_below {C : Nat} {w w' : World} (h : (World.cell? w ⟨C, 0, none⟩ = some (.pointer (some ⟨s, 0, none⟩)) ∧ World.cell? w ⟨s, 3, none⟩ = some (.pointer (some ⟨P, 0, none⟩)) ∧ World.cell? w ⟨C, 2, none⟩ = some (.int .i64 id))) (hb : Below w.heap.size w w') : (World.cell? w' ⟨C, 0, none⟩ = some (.pointer (some ⟨s, 0, none⟩)) ∧ World.cell? w' ⟨s, 3, none⟩ = some (.pointer (some ⟨P, 0, none⟩)) ∧ World.cell? w' ⟨C, 2, none⟩ = some (.int .i64 id)) := ⟨(hb.cell (p := ⟨C, 0, none⟩) (cell_lt h.1)).trans h.1, (hb.cell (p := ⟨s, 3, none⟩) (cell_lt h.2.1)).trans h.2.1, (hb.cell (p := ⟨C, 2, none⟩) (cell_lt h.1)).trans h.2.2⟩
theorem run_append_nn (w : World) : (Builtin.append_ #[57, 57] 57 #[.slice none 0 0, .slice none 0 0]).run Tryz.prog w = .ok (.slice none 0 0) w := by kernel_rfl
set_option maxRecDepth 100000 in
set_option maxHeartbeats 4000000 in
theorem oend_is (p n : Nat) (T : Nat → Bool) (m : Int) (m0 : 0 ≤ m) (m1 : m ≤ 1000) (hn : n ≤ 256) (hc : Hid (CallC cs s 8 id k2 k3 k4 o x)) (w : World) (hN : N ≤ w.heap.size) (hs : w.cell? ⟨s, 3, none⟩ = some (.pointer (some ⟨P, 0, none⟩))) (hp : w.cell? ⟨P, 0, none⟩ = some (.pointer (some ⟨p, 0, none⟩)))
    (hQ : ∀ w1 w2, Q w1 → Below N w1 w2 → Q w2) (hQs : ∀ W, Q W → W.cell? ⟨s, 3, none⟩ = some (.pointer (some ⟨P, 0, none⟩)))
    (hcap : ∀ W, Below w.heap.size w W → Calls Tryz.prog 106 #[.pointer (some ⟨p, 0, none⟩)] W fun e w' => e = .returned (.int .i64 (n : Int)) ∧ W = w')
    (hwi : ∀ i, i < n → ∀ W, Below w.heap.size w W → Calls Tryz.prog 104 #[.pointer (some ⟨P, 0, none⟩), .int .i64 (i : Int), .int .i64 id] W fun e w' => e = .returned (.bool (T i)) ∧ Below W.heap.size W w')
    (hod : ∀ i, i < n → T i = true → ∀ W, Below w.heap.size w W → Calls Tryz.prog 185 #[(.agg cs.toArray), .int .i64 (i : Int)] W fun e w' => e = .returned (.slice none 0 0) ∧ Below W.heap.size W w')
    (he : ∀ W, Below w.heap.size w W → Calls Tryz.prog 25 #[.pointer (some ⟨P, 0, none⟩), .int .i64 id] W fun e w' => e = .returned (.tuple #[.int .i64 m, .nilIface]) ∧ Q w' ∧ UpT N W w') :
    Calls Tryz.prog 156 #[(.agg cs.toArray)] w fun e w' => e = .returned (Value.agg #[.int .u32 0, .int .u32 m, .int .u32 0, .int .u32 0, .int .i64 0, .int .i64 0, .int .i64 0, .int .i64 0, .int .u32 0, .int .i64 0, .int .i64 0, .int .i64 0, .int .i64 0, .int .u32 0, .int .i64 0, .int .i64 0, .int .i64 0, .int .i64 0, .int .u32 0]) ∧ Q w' ∧ UpT N w w' := by
  have HCp := Lib.hid hcap
  have HWi := Lib.hid hwi
  have HOd := Lib.hid hod
  have HEn := Lib.hid he
  have HQ := Lib.hid hQ
  have HQs := Lib.hid hQs
  have HSl := Lib.hid (⟨cell_lt hs, hs, cell_lt hp, hp⟩ : s < w.heap.size ∧ w.cell? ⟨s, 3, none⟩ = some (.pointer (some ⟨P, 0, none⟩)) ∧ P < w.heap.size ∧ w.cell? ⟨P, 0, none⟩ = some (.pointer (some ⟨p, 0, none⟩)))
  have hwm : IntKind.u32.wrap m = m := by rw [IntKind.wrap_u32]; omega
  have hnn := run_append_nn
  clear hcap hwi hod he hQ hQs hs hp
  go_enter Tryz.func156, Tryz.ntmps156; go_upto_region 1 with fail; generalize hA : World.alloc w _ = wK; obtain ⟨C, hC⟩ : ∃ C, C = w.heap.size := ⟨_, rfl⟩; have HK : Hid (Below w.heap.size w wK ∧ wK.rangeAt C 0 cs ∧ wK.heap.size = C + 1) := Lib.hid (by rw [← hA, hC]; exact ⟨(Below.refl _ _).alloc (Nat.le_refl _) _, cbox _ _ _, by simp⟩); have HCl : Hid (w.heap.size ≤ C) := Lib.hid (by rw [hC]; exact Nat.le_refl _); rw [← hC]; clear hA hC; generalize hA : World.alloc wK _ = wA; obtain ⟨R, hR⟩ : ∃ R, R = C + 1 := ⟨_, rfl⟩; have HA : Hid (Below w.heap.size w wA ∧ wA.rangeAt C 0 cs ∧ World.there wA R 0 19 ∧ C < R ∧ R < wA.heap.size) := Lib.hid (by rw [← hA, hR, ← HK.out.2.2]; exact ⟨HK.out.1.alloc HK.out.1.size _, range_below HK.out.2.1 ((Below.refl _ _).alloc (Nat.le_refl _) _) (by have := HK.out.2.2; omega), nthere_new _ _ 19 (by rfl) _, by have := HK.out.2.2; omega, by simp⟩); rw [← hR]; clear hA hR
  have HS0 : Hid (World.cell? wA ⟨C, 0, none⟩ = some (.pointer (some ⟨s, 0, none⟩)) ∧ World.cell? wA ⟨s, 3, none⟩ = some (.pointer (some ⟨P, 0, none⟩)) ∧ World.cell? wA ⟨C, 2, none⟩ = some (.int .i64 id)) := Lib.hid ⟨CallC.cell HA.out.2.1 0 _ hc.out.c0, (HA.out.1.cell (p := ⟨s, 3, none⟩) HSl.out.1).trans HSl.out.2.1, CallC.cell HA.out.2.1 2 _ hc.out.c2⟩
  have c0 := HS0.out.1
  have c3 := HS0.out.2.1
  have cp := (HA.out.1.cell (p := ⟨P, 0, none⟩) HSl.out.2.2.1).trans HSl.out.2.2.2
  go_wp2_with (first
    | (go_at_call 106; (with_reducible refine (HCp.out _ HA.out.1).mono ?_); rintro e w1 ⟨rfl, rfl⟩))
  clear c0 c3 cp
  go_loopw [3, 16] (fun gv iv wx => ∃ i : Nat, i ≤ n ∧ gv = .slice none 0 0 ∧ iv = .int .i64 i ∧ Below wA.heap.size wA wx) (fun _ i _ => n - (intOf i).toNat)
  case atStart => exact ⟨0, by omega, rfl, rfl, Below.refl _ _⟩
  case round =>
    obtain ⟨i, hi, rfl, rfl, hbx⟩ := hrel
    have HBx := Lib.hid hbx
    have HBw : Hid (Below w.heap.size w wr) := Lib.hid (HA.out.1.trans (hbx.mono HA.out.1.size))
    have HCr : Hid (wr.rangeAt C 0 cs ∧ (World.cell? wr ⟨C, 0, none⟩ = some (.pointer (some ⟨s, 0, none⟩)) ∧ World.cell? wr ⟨s, 3, none⟩ = some (.pointer (some ⟨P, 0, none⟩)) ∧ World.cell? wr ⟨C, 2, none⟩ = some (.int .i64 id)) ∧ World.there wr R 0 19 ∧ R < wr.heap.size) := Lib.hid ⟨range_below HA.out.2.1 hbx (Nat.lt_trans HA.out.2.2.2.1 HA.out.2.2.2.2), sc2_below HS0.out hbx, nthere_below HA.out.2.2.1 hbx HA.out.2.2.2.2, Nat.lt_of_lt_of_le HA.out.2.2.2.2 hbx.size⟩
    clear hbx
    by_cases hlt : i < n
    · have k0 : (0 : Int) ≤ i := by omega
      have k1 : (i : Int) < n := by omega
      have HWy := Lib.hid (HWi.out i hlt)
      go_upto_region 5 with fail
      go_cut [28] (fun v wx => v = .bool (T i) ∧ Below wr.heap.size wr wx)
      case first =>
        obtain ⟨wD, hwD⟩ : ∃ wD, wD = wr.drew := ⟨_, rfl⟩
        have HBd : Hid (Below wr.heap.size wr wD) := Lib.hid (by rw [hwD]; exact (Below.refl _ _).drew)
        refine wp_region_noPanic ?_
        refine wp_region_held_drew (S := fun w' => (World.cell? w' ⟨C, 0, none⟩ = some (.pointer (some ⟨s, 0, none⟩)) ∧ World.cell? w' ⟨s, 3, none⟩ = some (.pointer (some ⟨P, 0, none⟩)) ∧ World.cell? w' ⟨C, 2, none⟩ = some (.int .i64 id))) (by kernel_rfl) (by rw [← hwD]; exact sc2_below HCr.out.2.1 HBd.out) (fun hHeld => ?_)
        rw [← hwD] at hHeld ⊢
        clear hwD
        refine wpAnyH_take (i := 0) (v := ?_) (by rfl) (by kernel_rfl) (by kernel_rfl) (by kernel_rfl) (fun _ _ _ h => h) (Or.inl ⟨by kernel_rfl, ?_⟩) (by assumption) ?_; rotate_left 1; (focus (intro w hSw; (try dsimp only at hSw); simp only [List.getElem_toArray, List.getElem_cons_succ, List.getElem_cons_zero]; all_goals go_simp; all_goals (try with_reducible rfl))); (try simp only [Act.put, List.getElem_toArray, List.getElem_cons_succ, List.getElem_cons_zero, List.setIfInBounds_toArray, List.set_cons_zero, List.set_cons_succ])
        refine wpAnyH_take (i := 1) (v := ?_) (by rfl) (by kernel_rfl) (by kernel_rfl) (by kernel_rfl) (fun _ _ _ h => h) (Or.inl ⟨by kernel_rfl, ?_⟩) (by assumption) ?_; rotate_left 1; (focus (intro w hSw; (try dsimp only at hSw); simp only [List.getElem_toArray, List.getElem_cons_succ, List.getElem_cons_zero]; all_goals go_simp; all_goals (try with_reducible rfl))); (try simp only [Act.put, List.getElem_toArray, List.getElem_cons_succ, List.getElem_cons_zero, List.setIfInBounds_toArray, List.set_cons_zero, List.set_cons_succ])
        refine wpAnyH_take (i := 2) (v := ?_) (by rfl) (by kernel_rfl) (by kernel_rfl) (by kernel_rfl) (fun _ _ _ h => h) (Or.inl ⟨by kernel_rfl, ?_⟩) (by assumption) ?_; rotate_left 1; (focus (intro w hSw; (try dsimp only at hSw); simp only [List.getElem_toArray, List.getElem_cons_succ, List.getElem_cons_zero]; all_goals go_simp; all_goals (try with_reducible rfl))); (try simp only [Act.put, List.getElem_toArray, List.getElem_cons_succ, List.getElem_cons_zero, List.setIfInBounds_toArray, List.set_cons_zero, List.set_cons_succ])
        refine wpAnyH_take (i := 3) (v := ?_) (by rfl) (by kernel_rfl) (by kernel_rfl) (by kernel_rfl) (fun _ _ _ h => h) (Or.inl ⟨by kernel_rfl, ?_⟩) (by assumption) ?_; rotate_left 1; (focus (intro w hSw; (try dsimp only at hSw); simp only [List.getElem_toArray, List.getElem_cons_succ, List.getElem_cons_zero]; all_goals go_simp; all_goals (try with_reducible rfl))); (try simp only [Act.put, List.getElem_toArray, List.getElem_cons_succ, List.getElem_cons_zero, List.setIfInBounds_toArray, List.set_cons_zero, List.set_cons_succ])
        refine wpAnyH_take (i := 4) (v := ?_) (by rfl) (by kernel_rfl) (by kernel_rfl) (by kernel_rfl) (fun _ _ _ h => h) (Or.inl ⟨by kernel_rfl, ?_⟩) (by assumption) ?_; rotate_left 1; (focus (intro w hSw; (try dsimp only at hSw); simp only [List.getElem_toArray, List.getElem_cons_succ, List.getElem_cons_zero]; all_goals go_simp; all_goals (try with_reducible rfl))); (try simp only [Act.put, List.getElem_toArray, List.getElem_cons_succ, List.getElem_cons_zero, List.setIfInBounds_toArray, List.set_cons_zero, List.set_cons_succ])
        refine wpAnyH_take (i := 5) (v := ?_) (by rfl) (by kernel_rfl) (by kernel_rfl) (by kernel_rfl) (fun _ _ _ h => h) (Or.inl ⟨by kernel_rfl, ?_⟩) (by assumption) ?_; rotate_left 1; (focus (intro w hSw; (try dsimp only at hSw); simp only [List.getElem_toArray, List.getElem_cons_succ, List.getElem_cons_zero]; all_goals go_simp; all_goals (try with_reducible rfl))); (try simp only [Act.put, List.getElem_toArray, List.getElem_cons_succ, List.getElem_cons_zero, List.setIfInBounds_toArray, List.set_cons_zero, List.set_cons_succ])
        refine wpAnyH_take (i := 6) (v := ?_) (by rfl) (by kernel_rfl) (by kernel_rfl) (by kernel_rfl) (fun _ _ _ h => h) (Or.inl ⟨by kernel_rfl, ?_⟩) (by assumption) ?_; rotate_left 1; (focus (intro w hSw; (try dsimp only at hSw); simp only [List.getElem_toArray, List.getElem_cons_succ, List.getElem_cons_zero]; all_goals go_simp; all_goals (try with_reducible rfl))); (try simp only [Act.put, List.getElem_toArray, List.getElem_cons_succ, List.getElem_cons_zero, List.setIfInBounds_toArray, List.set_cons_zero, List.set_cons_succ])
        refine wpAnyH_take (i := 7) (v := ?_) (by rfl) (by kernel_rfl) (by kernel_rfl) (by kernel_rfl) (fun _ _ _ h => h) (Or.inl ⟨by kernel_rfl, ?_⟩) (by assumption) ?_; rotate_left 1; (focus (intro w hSw; (try dsimp only at hSw); simp only [List.getElem_toArray, List.getElem_cons_succ, List.getElem_cons_zero]; all_goals go_simp; all_goals (try with_reducible rfl))); (try simp only [Act.put, List.getElem_toArray, List.getElem_cons_succ, List.getElem_cons_zero, List.setIfInBounds_toArray, List.set_cons_zero, List.set_cons_succ])
        refine wpAnyH_take (i := 8) (v := ?_) (by rfl) (by kernel_rfl) (by kernel_rfl) (by kernel_rfl) (fun _ _ _ h => h) (Or.inl ⟨by kernel_rfl, ?_⟩) (by assumption) ?_; rotate_left 1; (focus (intro w hSw; (try dsimp only at hSw); simp only [List.getElem_toArray, List.getElem_cons_succ, List.getElem_cons_zero]; all_goals go_simp; all_goals (try with_reducible rfl))); (try simp only [Act.put, List.getElem_toArray, List.getElem_cons_succ, List.getElem_cons_zero, List.setIfInBounds_toArray, List.set_cons_zero, List.set_cons_succ])
        refine wpAnyH_ready (rs := [9]) (by kernel_rfl) (by simp) ?_; refine AllReadyH.cons (by rfl) (fun K hK => ?_) AllReadyH.nil; rw [if_pos (by kernel_rfl)]; simp only [List.getElem_toArray, List.getElem_cons_succ, List.getElem_cons_zero]
        go_wp2_with (first | (go_at_call 104; (with_reducible refine (HWy.out _ (HBw.out.trans (HBd.out.mono HBw.out.size))).mono ?_); rintro e w2 ⟨rfl, hb⟩; have HB2 := Lib.hid (HBd.out.trans (hb.mono HBd.out.size)); clear hb))
        refine hK.out _ _ (sc2_below HCr.out.2.1 HB2.out) (fun hHeld => ?_)
        clear hK K
        (try simp only [Act.put, List.getElem_toArray, List.getElem_cons_succ, List.getElem_cons_zero, List.setIfInBounds_toArray, List.set_cons_zero, List.set_cons_succ])
        refine wpAnyH_done (by kernel_rfl) ?_ _
        refine NoPanic.normal ?_
        go_wp2_with fail
        go_meet
        exact ⟨rfl, HB2.out⟩
      case rest =>
        obtain ⟨rfl, hbc⟩ := hcut
        have HBc : Hid (Below wr.heap.size wr wc ∧ Below w.heap.size w wc ∧ Below wA.heap.size wA wc ∧ wc.rangeAt C 0 cs) := Lib.hid ⟨hbc, HBw.out.trans (hbc.mono HBw.out.size), HBx.out.trans (hbc.mono HBx.out.size), range_below HCr.out.1 hbc (cell_lt HCr.out.2.1.1)⟩
        clear hbc
        obtain ⟨t, ht⟩ : ∃ t, Hid (T i = t) := ⟨_, Lib.hid rfl⟩
        rw [ht.out]
        cases t
        · go_wp2_with fail
          go_roundw
          case rel => exact ⟨i + 1, by omega, rfl, by go_num, HBc.out.2.2.1⟩
          case measure => simp [intOf]; omega
        · have HOy := Lib.hid (HOd.out i hlt ht.out)
          go_wp2_with (first
            | (refine wpList_load_mid (by rfl) _ _ (by rfl) C 0 (by rfl) cs _ HBc.out.2.2.2 Tryz.underlying129 rfl (by rw [hc.out.len]; exact infoCall) ?_)
            | (go_at_call 185; (with_reducible refine (HOy.out _ HBc.out.2.1).mono ?_); rintro e w3 ⟨rfl, hb⟩; have HB3 := Lib.hid (HBc.out.2.2.1.trans (hb.mono HBc.out.2.2.1.size)); clear hb))
          go_roundw
          case rel => exact ⟨i + 1, by omega, rfl, by go_num, HB3.out⟩
          case measure => simp [intOf]; omega
    · obtain rfl : i = n := by omega
      go_upto_region 9 with fail
      generalize hA : World.alloc wr _ = wg
      obtain ⟨G, hG⟩ : ∃ G, G = wr.heap.size := ⟨_, rfl⟩
      have HG : Hid (Below wr.heap.size wr wg ∧ wg.cell? ⟨G, 0, none⟩ = some (.int .i64 0) ∧ wg.frozen? ⟨G, 0, none⟩ = false ∧ wr.heap.size ≤ G ∧ Below w.heap.size w wg ∧ w.heap.size ≤ G ∧ G < wg.heap.size) := Lib.hid (by
        have hb : Below wr.heap.size wr wg := by rw [← hA]; exact (Below.refl _ _).alloc (Nat.le_refl _) _
        exact ⟨hb, by rw [← hA, hG]; simp, by rw [← hA, hG]; simp, by rw [hG]; exact Nat.le_refl _, HBw.out.trans (hb.mono HBw.out.size), by rw [hG]; exact HBw.out.size, by rw [← hA, hG]; simp⟩)
      rw [← hG]
      clear hA hG
      have HCg : Hid (wg.rangeAt C 0 cs ∧ (World.cell? wg ⟨C, 0, none⟩ = some (.pointer (some ⟨s, 0, none⟩)) ∧ World.cell? wg ⟨s, 3, none⟩ = some (.pointer (some ⟨P, 0, none⟩)) ∧ World.cell? wg ⟨C, 2, none⟩ = some (.int .i64 id)) ∧ World.there wg R 0 19 ∧ R < wg.heap.size ∧ N ≤ C ∧ N ≤ G ∧ N ≤ R ∧ R ≠ G) := Lib.hid ⟨range_below HCr.out.1 HG.out.1 (cell_lt HCr.out.2.1.1), sc2_below HCr.out.2.1 HG.out.1, nthere_below HCr.out.2.2.1 HG.out.1 HCr.out.2.2.2, Nat.lt_of_lt_of_le HCr.out.2.2.2 HG.out.1.size, by have := HCl.out; omega, by have := HG.out.2.2.2.2.2.1; omega, by have := HCl.out; have := HA.out.2.2.2.1; omega, by have := HG.out.2.2.2.1; have := HCr.out.2.2.2; omega⟩
      have HWo : Hid (Calls Tryz.prog 183 #[(.agg cs.toArray), .slice none 0 0, (Value.func (.func 186) #[] #[.pointer (some ⟨C, 0, none⟩), .pointer (some ⟨G, 0, none⟩)])] wg fun e w' => e = .returned .nilIface ∧ (Q w' ∧ w'.cell? ⟨G, 0, none⟩ = some (.int .i64 m)) ∧ UpX N G wg w') := Lib.hid (owithout_is (Q := fun w' => Q w' ∧ w'.cell? ⟨G, 0, none⟩ = some (.int .i64 m)) C G hc wg (fun W hW => oend_cl C G m W (sc2_below HCg.out.2.1 hW) ⟨_, (hW.cell (p := ⟨G, 0, none⟩) HG.out.2.2.2.2.2.2).trans HG.out.2.1⟩ ((World.frozen?_of_block (a := ⟨G, 0, none⟩) (hW.block G HG.out.2.2.2.2.2.2)).trans HG.out.2.2.1) ⟨HCg.out.2.2.2.2.1, HCg.out.2.2.2.2.2.1⟩ HQ.out HQs.out (fun V hV => HEn.out V ((HG.out.2.2.2.2.1.trans (hW.mono HG.out.2.2.2.2.1.size)).trans (hV.mono (Nat.le_trans HG.out.2.2.2.2.1.size hW.size))))))
      go_upto_region 10 with (first
        | (refine wpList_load_mid (by rfl) _ _ (by rfl) C 0 (by rfl) cs _ HCg.out.1 Tryz.underlying129 rfl (by rw [hc.out.len]; exact infoCall) ?_)
        | (go_at_call 183; (with_reducible refine HWo.out.mono ?_); rintro e w4 ⟨rfl, hq, hu⟩; have H4 := Lib.hid hq; have HU4 := Lib.hid hu; clear hq hu))
      have HR4 : Hid (World.there w4 R 0 19 ∧ R < w4.heap.size ∧ N ≤ w4.heap.size) := Lib.hid ⟨nthere_same HCg.out.2.2.1 (HU4.out.2 R HCg.out.2.2.2.2.2.2.1 HCg.out.2.2.2.1 HCg.out.2.2.2.2.2.2.2), Nat.lt_of_lt_of_le HCg.out.2.2.2.1 HU4.out.1, Nat.le_trans hN (Nat.le_trans HG.out.2.2.2.2.1.size HU4.out.1)⟩
      have g0 := H4.out.2
      go_wp2_with (first
        | (go_at_call 133; (with_reducible refine (owords_one m w4.heap.size 1 _ (by simp)).mono ?_); rintro e w5 ⟨rfl, hb⟩; have HB5 : Hid (Below w4.heap.size w4 w5) := Lib.hid (((Below.refl w4.heap.size w4).alloc (Nat.le_refl _) _).trans (hb.mono (by simp))); clear hb)
        | (go_at_call 136; (with_reducible refine (otold_nil [.int .u32 0, .int .u32 m, .int .u32 0, .int .u32 0, .int .i64 0, .int .i64 0, .int .i64 0, .int .i64 0, .int .u32 0, .int .i64 0, .int .i64 0, .int .i64 0, .int .i64 0, .int .u32 0, .int .i64 0, .int .i64 0, .int .i64 0, .int .i64 0, .int .u32 0] rfl (by simp [Value.oneCell']) _).mono ?_); rintro e w6 ⟨rfl, hb⟩; have HB6 : Hid (Below w4.heap.size w4 w6) := Lib.hid (HB5.out.trans (hb.mono HB5.out.size)); have HT6 := Lib.hid (nthere_below HR4.out.1 HB6.out HR4.out.2.1); clear hb)
        | (refine wpList_store_mid (by rfl) _ _ _ (by rfl) R 0 ([.int .u32 0, .int .u32 m, .int .u32 0, .int .u32 0, .int .i64 0, .int .i64 0, .int .i64 0, .int .i64 0, .int .u32 0, .int .i64 0, .int .i64 0, .int .i64 0, .int .i64 0, .int .u32 0, .int .i64 0, .int .i64 0, .int .i64 0, .int .i64 0, .int .u32 0] : List Value).toArray (by rfl) (by rfl) HT6.out infoNote (note_one _ _ _ _ _ _ _ _ _ _ _ _ _ _ _ _ _ _ _) ?_))
      generalize hS : World.setCells w6 _ _ _ = wS
      have HS : Hid (Below N w6 wS ∧ Below w.heap.size w6 wS ∧ wS.rangeAt R 0 [.int .u32 0, .int .u32 m, .int .u32 0, .int .u32 0, .int .i64 0, .int .i64 0, .int .i64 0, .int .i64 0, .int .u32 0, .int .i64 0, .int .i64 0, .int .i64 0, .int .i64 0, .int .u32 0, .int .i64 0, .int .i64 0, .int .i64 0, .int .i64 0, .int .u32 0]) := Lib.hid (by
        rw [← hS]
        exact ⟨nbelow_cells (Below.refl _ _) HCg.out.2.2.2.2.2.2.1 _ _, nbelow_cells (Below.refl _ _) (by have := HA.out.2.2.2.1; have := HCl.out; omega) _ _, World.rangeAt_setCells_same w6 R 0 [.int .u32 0, .int .u32 m, .int .u32 0, .int .u32 0, .int .i64 0, .int .i64 0, .int .i64 0, .int .i64 0, .int .u32 0, .int .i64 0, .int .i64 0, .int .i64 0, .int .i64 0, .int .u32 0, .int .i64 0, .int .i64 0, .int .i64 0, .int .i64 0, .int .u32 0] HT6.out⟩)
      have hld := nload rfl HS.out.2.2
      refine bodyPost_ret (v := (Value.agg #[.int .u32 0, .int .u32 m, .int .u32 0, .int .u32 0, .int .i64 0, .int .i64 0, .int .i64 0, .int .i64 0, .int .u32 0, .int .i64 0, .int .i64 0, .int .i64 0, .int .i64 0, .int .u32 0, .int .i64 0, .int .i64 0, .int .i64 0, .int .i64 0, .int .u32 0])) (by simp [results, Tryz.results156, Act.put, asAddr, hld]) rfl ⟨rfl, HQ.out _ _ (HQ.out _ _ H4.out.1 (HB6.out.mono HR4.out.2.2)) HS.out.1, (((UpX.up HG.out.2.2.2.2.1 HU4.out HG.out.2.2.2.2.2.1).trans (UpT.below HB6.out)).low HS.out.2.1 (Nat.le_refl _))⟩
end
end Go.Proofs.YtncopdhhchmpeaaGreatDoor
namespace Go.Proofs.YtncopdhhchmpeaaGreatDoor
open Go.ChangeShapes Go.WideShapes Go.ChangeAt Go.RowKit
set_option linter.unusedVariables false
set_option linter.unusedSimpArgs false
section
variable {cs nt : List Value} {s N : Nat} {id k2 k3 k4 x : Int} {Q : World → Prop}
set_option maxRecDepth 100000 in
set_option maxHeartbeats 2000000 in
theorem cbank_4 (hnl : nt.length = 19) (hn1 : ∀ v, v ∈ nt → v.oneCell' = true) (hc : Hid (CallC cs s 8 id k2 k3 k4 4 x)) (w : World) (hN : N ≤ w.heap.size) (hQ : ∀ w1 w2, Q w1 → Below N w1 w2 → Q w2)
    (hb : ∀ W, Below w.heap.size w W → Calls Tryz.prog 156 #[(.agg cs.toArray)] W fun e w' => e = .returned (.agg nt.toArray) ∧ Q w' ∧ UpT N W w') :
    Calls Tryz.prog 117 #[(.agg cs.toArray)] w fun e w' => e = .returned (.agg nt.toArray) ∧ Q w' ∧ UpT N w w' := by
  have HB := Lib.hid hb; have HQ := Lib.hid hQ; have hsz : nt.toArray.size = 19 := (by simp [hnl]); clear hb hQ; go_enter Tryz.func117, Tryz.ntmps117; go_upto_region 1 with fail; generalize hA : World.alloc w _ = wK; obtain ⟨C, hC⟩ : ∃ C, C = w.heap.size := ⟨_, rfl⟩; have HK : Hid (Below w.heap.size w wK ∧ wK.rangeAt C 0 cs ∧ wK.heap.size = C + 1) := Lib.hid (by rw [← hA, hC]; exact ⟨(Below.refl _ _).alloc (Nat.le_refl _) _, cbox _ _ _, by simp⟩); have HCl : Hid (w.heap.size ≤ C) := Lib.hid (by rw [hC]; exact Nat.le_refl _); rw [← hC]; clear hA hC; generalize hA : World.alloc wK _ = wA; obtain ⟨R, hR⟩ : ∃ R, R = C + 1 := ⟨_, rfl⟩; have HA : Hid (Below w.heap.size w wA ∧ wA.rangeAt C 0 cs ∧ World.there wA R 0 19 ∧ C < R ∧ R < wA.heap.size) := Lib.hid (by rw [← hA, hR, ← HK.out.2.2]; exact ⟨HK.out.1.alloc HK.out.1.size _, range_below HK.out.2.1 ((Below.refl _ _).alloc (Nat.le_refl _) _) (by have := HK.out.2.2; omega), nthere_new _ _ 19 (by rfl) _, by have := HK.out.2.2; omega, by simp⟩); rw [← hR]; clear hA hR; have q2 := CallC.cell HA.out.2.1 2 _ hc.out.c2; go_upto_region 2 with fail; generalize hA : World.alloc wA _ = wq; obtain ⟨J, hJ⟩ : ∃ J, J = wA.heap.size := ⟨_, rfl⟩; have HJ : Hid (Below w.heap.size w wq ∧ wq.cell? ⟨J, 0, none⟩ = some (.int .i64 id) ∧ wq.rangeAt C 0 cs ∧ World.there wq R 0 19 ∧ C < wq.heap.size ∧ R < wq.heap.size ∧ N ≤ C ∧ N ≤ J ∧ N ≤ R ∧ w.heap.size ≤ R) := (Lib.hid (by have hb : Below wA.heap.size wA wq := (by rw [← hA]; exact (Below.refl _ _).alloc (Nat.le_refl _) _); have h1 := HA.out.2.2.2.1; have h2 := HA.out.2.2.2.2; have h3 := HCl.out; have h4 := hb.size; exact ⟨HA.out.1.trans (hb.mono HA.out.1.size), by rw [← hA, hJ]; simp, range_below HA.out.2.1 hb (by omega), nthere_below HA.out.2.2.1 hb h2, by omega, by omega, by omega, by omega, by omega, by omega⟩)); rw [← hJ]; clear hA hJ q2; have q6 := CallC.cell HJ.out.2.2.1 6 _ hc.out.c6
  go_wp2_with (first
    | (refine wpList_load_mid (by rfl) _ _ (by rfl) C 0 (by rfl) cs _ HJ.out.2.2.1 Tryz.underlying129 rfl (by rw [hc.out.len]; exact infoCall) ?_)
    | (go_at_call 156; (with_reducible refine (HB.out _ HJ.out.1).mono ?_); rintro e w1 ⟨rfl, hq, hu⟩; have H1 := Lib.hid hq; have HU1 := Lib.hid hu; have HT1 : Hid (World.there w1 R 0 19) := (Lib.hid (nthere_same HJ.out.2.2.2.1 (hu.2 R HJ.out.2.2.2.2.2.2.2.2.1 HJ.out.2.2.2.2.2.1))); clear hq hu)
    | (refine wpList_store_mid (by rfl) _ _ _ (by rfl) R 0 nt.toArray (by rfl) (by rfl) (by rw [hsz]; exact HT1.out) (by rw [hsz]; exact infoNote) (all_one hn1) ?_))
  have HS : Hid (Below w.heap.size w1 (w1.setCells R 0 nt.toArray.toList) ∧ (w1.setCells R 0 nt.toArray.toList).rangeAt R 0 nt) := (Lib.hid ⟨nbelow_cells (Below.refl _ _) HJ.out.2.2.2.2.2.2.2.2.2 _ _, World.rangeAt_setCells_same w1 R 0 nt (by rw [hnl]; exact HT1.out)⟩)
  have hld := nload hnl HS.out.2
  refine bodyPost_ret (v := (.agg nt.toArray)) (by simp [results, Tryz.results117, Act.put, asAddr, hld]) rfl ⟨rfl, HQ.out _ _ H1.out (HS.out.1.mono hN), ((UpT.below HJ.out.1).trans HU1.out).low HS.out.1 (Nat.le_refl _)⟩
end
set_option maxRecDepth 100000 in
set_option maxHeartbeats 2000000 in
theorem oaskB {Q : World → Prop} {nt : List Value} (hnl : nt.length = 19) (hn1 : ∀ v, v ∈ nt → v.oneCell' = true) (k0 k1 k2 k3 k4 : Int) (o x : Int) (s sb N : Nat) (w : World) (hN : N ≤ w.heap.size) (hs : w.cell? ⟨sb, 0, none⟩ = some (.pointer (some ⟨s, 0, none⟩)))
    (hQ : ∀ w1 w2, Q w1 → Below N w1 w2 → Q w2)
    (hA : ∀ W, Below w.heap.size w W → Calls Tryz.prog 32 #[.pointer (some ⟨s, 0, none⟩), (Value.agg #[.int .i64 k0, .int .i64 k1, .int .i64 k2, .int .i64 k3, .int .u32 k4]), .agg #[.int .u32 o, .int .u32 x, .int .u32 0, .int .u32 0, .int .i64 0, .int .i64 0, .int .i64 0, .int .i64 0, .int .u32 0, .int .i64 0, .int .i64 0, .int .i64 0, .int .i64 0, .int .u32 0, .int .i64 0, .int .i64 0, .int .i64 0, .int .i64 0, .int .u32 0]] W fun e w' => e = .returned (.tuple #[.agg nt.toArray, .bool true]) ∧ Q w' ∧ UpT N W w') :
    Calls Tryz.prog 37 #[(Value.agg #[.int .i64 k0, .int .i64 k1, .int .i64 k2, .int .i64 k3, .int .u32 k4]), .int .u32 o, .int .u32 x, .pointer (some ⟨sb, 0, none⟩)] w fun e w' => e = .returned (.agg nt.toArray) ∧ Q w' ∧ UpT N w w' := by
  have HQ := Lib.hid hQ
  have HAn := Lib.hid hA
  have hsl : sb < w.heap.size := cell_lt hs
  have hsz : nt.toArray.size = 19 := by simp [hnl]
  clear hQ hA
  go_enter Tryz.func37, Tryz.ntmps37
  go_upto_region 1 with fail
  generalize hA : World.alloc w _ = wa
  obtain ⟨KB, hKB⟩ : ∃ KB, KB = w.heap.size := ⟨_, rfl⟩
  have HK : Hid (Below w.heap.size w wa ∧ KeyC wa KB k0 k1 k2 k3 k4 ∧ wa.heap.size = KB + 1 ∧ w.heap.size ≤ KB) := Lib.hid (by rw [← hA, hKB]; exact ⟨(Below.refl _ _).alloc (Nat.le_refl _) _, KeyC.new w k0 k1 k2 k3 k4 _, by simp, Nat.le_refl _⟩)
  rw [← hKB]
  clear hA hKB
  generalize hA : World.alloc wa _ = wd
  obtain ⟨R, hR⟩ : ∃ R, R = KB + 1 := ⟨_, rfl⟩
  have HR : Hid (Below w.heap.size w wd ∧ KeyC wd KB k0 k1 k2 k3 k4 ∧ World.there wd R 0 19 ∧ R < wd.heap.size ∧ w.heap.size ≤ R) := Lib.hid (by rw [← hA, hR, ← HK.out.2.2.1]; exact ⟨HK.out.1.alloc HK.out.1.size _, HK.out.2.1.below ((Below.refl _ _).alloc (Nat.le_refl _) _), nthere_new _ _ 19 (by rfl) _, by simp, HK.out.1.size⟩)
  rw [← hR]
  clear hA hR
  have sc := (HR.out.1.cell (p := ⟨sb, 0, none⟩) hsl).trans hs
  obtain ⟨q0, q1, q2, q3, q4⟩ := ofive HR.out.2.1
  go_upto_region 2 with (first
    | (go_at_call 32; (with_reducible refine (HAn.out _ HR.out.1).mono ?_); rintro e w1 ⟨rfl, hq, hu⟩; have H1 := Lib.hid hq; have HU1 := Lib.hid hu; have HT1 : Hid (World.there w1 R 0 19 ∧ R < w1.heap.size) := (Lib.hid ⟨nthere_same HR.out.2.2.1 (hu.2 R (Nat.le_trans hN HR.out.2.2.2.2) HR.out.2.2.2.1), Nat.lt_of_lt_of_le HR.out.2.2.2.1 hu.1⟩); clear hq hu)
    | (refine wpList_store_mid (by rfl) _ _ _ (by rfl) w1.heap.size 0 nt.toArray (by rfl) (by rfl) (by rw [hsz]; exact nthere_new _ _ 19 (by rfl) _) (by rw [hsz]; exact infoNote) (all_one hn1) ?_))
  generalize hA : World.setCells _ w1.heap.size 0 _ = w2
  obtain ⟨Y, hY⟩ : ∃ Y, Y = w1.heap.size := ⟨_, rfl⟩
  have hwz : w.heap.size ≤ w1.heap.size := Nat.le_trans HR.out.1.size HU1.out.1
  have H2 : Hid (Below w1.heap.size w1 w2 ∧ w2.rangeAt Y 0 nt ∧ World.there w2 R 0 19) := Lib.hid (by
    have hb : Below w1.heap.size w1 w2 := by rw [← hA]; exact nbelow_cells ((Below.refl w1.heap.size w1).alloc (Nat.le_refl _) _) (Nat.le_refl _) _ _
    refine ⟨hb, ?_, nthere_below HT1.out.1 hb HT1.out.2⟩
    rw [← hA, hY]
    exact World.rangeAt_setCells_same _ w1.heap.size 0 nt (by rw [hnl]; exact nthere_new _ _ 19 (by rfl) _))
  rw [← hY]
  clear hA hY
  go_wp2_with (first
    | (refine wpList_load_mid (by rfl) _ _ (by rfl) Y 0 (by rfl) nt _ H2.out.2.1 Tryz.underlying64 rfl (by rw [hnl]; exact infoNote) ?_)
    | (refine wpList_store_mid (by rfl) _ _ _ (by rfl) R 0 nt.toArray (by rfl) (by rfl) (by rw [hsz]; exact H2.out.2.2) (by rw [hsz]; exact infoNote) (all_one hn1) ?_))
  have HS : Hid (Below w.heap.size w1 (w2.setCells R 0 nt.toArray.toList) ∧ (w2.setCells R 0 nt.toArray.toList).rangeAt R 0 nt) := Lib.hid ⟨nbelow_cells (H2.out.1.mono hwz) HR.out.2.2.2.2 _ _, World.rangeAt_setCells_same w2 R 0 nt (by rw [hnl]; exact H2.out.2.2)⟩
  have hld := nload hnl HS.out.2
  refine bodyPost_ret (v := (.agg nt.toArray)) (by simp [results, Tryz.results37, Act.put, asAddr, hld]) rfl ⟨rfl, HQ.out _ _ H1.out (HS.out.1.mono hN), ((UpT.below HR.out.1).trans HU1.out).low HS.out.1 (Nat.le_refl _)⟩
section
variable {w0 w w' : World} {L : BLoc} {X : SLoc} {sb : Nat}
/-- What ObjectBanks asks a bank's key: S' holds behind it. -/
theorem askB {S' : World → Prop} {nt : List Value} (hnl : nt.length = 19) (hn1 : ∀ v, v ∈ nt → v.oneCell' = true) (s T : Nat) (id o x : Int) (w : World) (hT : T ≤ w.heap.size) (hs : w.cell? ⟨sb, 0, none⟩ = some (.pointer (some ⟨s, 0, none⟩))) (vs vr : Value) (hE : ErrsAt vs vr w)
    (hst : ∀ W W', S' W → Below w.heap.size W W' → S' W')
    (hok : rightB 8 id 0 0 0 = true)
    (hl : ∀ W, Below w.heap.size w W → Calls Tryz.prog 21 #[.pointer (some ⟨s, 0, none⟩), .agg #[.int .i64 8, .int .i64 id, .int .i64 0, .int .i64 0, .int .u32 0]] W fun e w' => e = .returned (.bool true) ∧ Below W.heap.size W w')
    (hm : ∀ cs, Hid (CallC cs s 8 id 0 0 0 o x) → ∀ W, Below w.heap.size w W → Calls Tryz.prog 117 #[(.agg cs.toArray)] W fun e w' => e = .returned (.agg nt.toArray) ∧ (S' w' ∧ UpT T w w') ∧ UpT w.heap.size W w') :
    Calls Tryz.prog 37 #[.agg #[.int .i64 8, .int .i64 id, .int .i64 0, .int .i64 0, .int .u32 0], .int .u32 o, .int .u32 x, .pointer (some ⟨sb, 0, none⟩)] w fun e w' => e = .returned (.agg nt.toArray) ∧ S' w' ∧ UpT T w w' := by
  have hQ : ∀ w1 w2, (S' w1 ∧ UpT T w w1) → Below w.heap.size w1 w2 → (S' w2 ∧ UpT T w w2) := fun w1 w2 hq hb => ⟨hst _ _ hq.1 hb, hq.2.low hb (Nat.le_refl _)⟩
  refine (oaskB (Q := fun w' => S' w' ∧ UpT T w w') hnl hn1 8 id 0 0 0 o x s sb w.heap.size w (Nat.le_refl _) hs hQ (fun W hW => ?_)).mono (fun e w' h9 => ⟨h9.1, h9.2.1.1, h9.2.1.2⟩)
  refine oanswer (Q := fun w' => S' w' ∧ UpT T w w') hnl hn1 s 8 id 0 0 0 8 id 0 0 0 o x 0 0 0 0 0 0 0 0 0 0 0 0 0 0 0 0 0 0 0 0 0 0 0 0 0 0 0 0 0 0 0 0 (by decide) (by decide) W hW.size hQ ?_ ?_ ?_ ?_ ?_
  · exact fun V hV => oseen_live 8 id 0 0 0 V (fun U hU => nvalid_ok 8 id 0 0 0 (Lib.hid hok) vs vr U (hE.below ((hW.trans (hV.mono hW.size)).trans (hU.mono (Nat.le_trans hW.size hV.size))))) (fun U hU => hl U ((hW.trans (hV.mono hW.size)).trans (hU.mono (Nat.le_trans hW.size hV.size))))
  · exact fun V hV => oseen_void s vs vr V (hE.below (hW.trans (hV.mono hW.size)))
  · exact fun V hV => oseen_void s vs vr V (hE.below (hW.trans (hV.mono hW.size)))
  · exact fun V hV => oseen_void s vs vr V (hE.below (hW.trans (hV.mono hW.size)))
  · intro V hV
    have hWV := hW.trans (hV.mono hW.size)
    refine oanswer_bank (Q := fun w' => S' w' ∧ UpT T w w') hnl hn1 (Lib.hid (c25_call s 8 id 0 0 0 o x 0 0 0 0 0 0 0 0 0 0 0 0 0 0 0 0 0)) V hWV.size hQ (fun U hU => ?_)
    exact hm _ (Lib.hid (c25_call s 8 id 0 0 0 o x 0 0 0 0 0 0 0 0 0 0 0 0 0 0 0 0 0)) U (hWV.trans (hU.mono hWV.size))
/-- What ObjectBanks asks a key to what is gone. -/
theorem askD (k0 k1 k2 k3 k4 : Int) (s : Nat) (o x : Int) (w : World) (hs : w.cell? ⟨sb, 0, none⟩ = some (.pointer (some ⟨s, 0, none⟩))) (vs vr : Value) (hE : ErrsAt vs vr w)
    (hok : rightB k0 k1 k2 k3 k4 = true)
    (hl : ∀ W, Below w.heap.size w W → Calls Tryz.prog 21 #[.pointer (some ⟨s, 0, none⟩), (Value.agg #[.int .i64 k0, .int .i64 k1, .int .i64 k2, .int .i64 k3, .int .u32 k4])] W fun e w' => e = .returned (.bool false) ∧ Below W.heap.size W w') :
    Calls Tryz.prog 37 #[(Value.agg #[.int .i64 k0, .int .i64 k1, .int .i64 k2, .int .i64 k3, .int .u32 k4]), .int .u32 o, .int .u32 x, .pointer (some ⟨sb, 0, none⟩)] w fun e w' => e = .returned (Value.agg #[.int .u32 1, .int .u32 0, .int .u32 0, .int .u32 0, .int .i64 0, .int .i64 0, .int .i64 0, .int .i64 0, .int .u32 0, .int .i64 0, .int .i64 0, .int .i64 0, .int .i64 0, .int .u32 0, .int .i64 0, .int .i64 0, .int .i64 0, .int .i64 0, .int .u32 0]) ∧ Below w.heap.size w w' := by
  have hQ : ∀ w1 w2, Below w.heap.size w w1 → Below w.heap.size w1 w2 → Below w.heap.size w w2 := fun w1 w2 h1 h2 => h1.trans h2
  refine (oaskB (Q := fun w' => Below w.heap.size w w') (nt := [.int .u32 1, .int .u32 0, .int .u32 0, .int .u32 0, .int .i64 0, .int .i64 0, .int .i64 0, .int .i64 0, .int .u32 0, .int .i64 0, .int .i64 0, .int .i64 0, .int .i64 0, .int .u32 0, .int .i64 0, .int .i64 0, .int .i64 0, .int .i64 0, .int .u32 0]) rfl (by simp [Value.oneCell']) k0 k1 k2 k3 k4 o x s sb w.heap.size w (Nat.le_refl _) hs hQ (fun W hW => ?_)).mono (fun e w' h9 => ⟨h9.1, h9.2.1⟩)
  refine oanswer (Q := fun w' => Below w.heap.size w w') (nt := [.int .u32 1, .int .u32 0, .int .u32 0, .int .u32 0, .int .i64 0, .int .i64 0, .int .i64 0, .int .i64 0, .int .u32 0, .int .i64 0, .int .i64 0, .int .i64 0, .int .i64 0, .int .u32 0, .int .i64 0, .int .i64 0, .int .i64 0, .int .i64 0, .int .u32 0]) rfl (by simp [Value.oneCell']) s k0 k1 k2 k3 k4 0 0 0 0 0 o x 0 0 0 0 0 0 0 0 0 0 0 0 0 0 0 0 0 0 0 0 0 0 0 0 0 0 0 0 0 0 0 0 (by decide) (by decide) W hW.size hQ ?_ ?_ ?_ ?_ ?_
  · exact fun V hV => oseen_dead k0 k1 k2 k3 k4 V (fun U hU => nvalid_ok k0 k1 k2 k3 k4 (Lib.hid hok) vs vr U (hE.below ((hW.trans (hV.mono hW.size)).trans (hU.mono (Nat.le_trans hW.size hV.size))))) (fun U hU => hl U ((hW.trans (hV.mono hW.size)).trans (hU.mono (Nat.le_trans hW.size hV.size))))
  · exact fun V hV => oseen_void s vs vr V (hE.below (hW.trans (hV.mono hW.size)))
  · exact fun V hV => oseen_void s vs vr V (hE.below (hW.trans (hV.mono hW.size)))
  · exact fun V hV => oseen_void s vs vr V (hE.below (hW.trans (hV.mono hW.size)))
  · exact fun V hV => (oanswer_void (Lib.hid (c25_call s 0 0 0 0 0 o x 0 0 0 0 0 0 0 0 0 0 0 0 0 0 0 0 0)) V).mono (fun e w' h9 => ⟨h9.1, (hW.trans (hV.mono hW.size)).trans (h9.2.mono (hW.trans (hV.mono hW.size)).size), UpT.below h9.2⟩)
end
end Go.Proofs.YtncopdhhchmpeaaGreatDoor
namespace Go.Proofs.YtncopdhhchmpeaaGreatDoor
open Go.ChangeShapes Go.WideShapes Go.ChangeAt Go.RowKit
set_option linter.unusedVariables false
set_option linter.unusedSimpArgs false
section
variable {sb : Nat}
set_option maxRecDepth 100000 in
theorem askB_0 {S' : World → Prop} {nt : List Value} (hnl : nt.length = 19) (hn1 : ∀ v, v ∈ nt → v.oneCell' = true) (s T P : Nat) (id x : Int) (x0 : 0 ≤ x) (x9 : x ≤ 4294967295) (made v q0' q1' q2' q3' q4' : Int) (ev : Value) (w : World) (hT : T ≤ w.heap.size) (hs : w.cell? ⟨sb, 0, none⟩ = some (.pointer (some ⟨s, 0, none⟩))) (vs vr : Value) (hE : ErrsAt vs vr w) (hs3 : w.cell? ⟨s, 3, none⟩ = some (.pointer (some ⟨P, 0, none⟩))) (hst : ∀ W W', S' W → Below w.heap.size W W' → S' W') (hP : ∀ W, S' W → W.cell? ⟨s, 3, none⟩ = some (.pointer (some ⟨P, 0, none⟩))) (hok : rightB 8 id 0 0 0 = true) (hl : ∀ W, Below w.heap.size w W → Calls Tryz.prog 21 #[.pointer (some ⟨s, 0, none⟩), (Value.agg #[.int .i64 8, .int .i64 id, .int .i64 0, .int .i64 0, .int .u32 0])] W fun e w' => e = .returned (.bool true) ∧ Below W.heap.size W w') (hbuy : ∀ W, Below w.heap.size w W → Calls Tryz.prog 15 #[.pointer (some ⟨P, 0, none⟩), .int .i64 id, .slice none 0 0] W fun e w' => e = .returned (.tuple #[.int .i64 made, .int .i64 v, ev]) ∧ S' w' ∧ UpT T W w') (hkey : ∀ W, S' W → Calls Tryz.prog 16 #[.pointer (some ⟨s, 0, none⟩), .int .i64 2, .int .i64 made] W fun e w' => e = .returned (.agg #[.int .i64 q0', .int .i64 q1', .int .i64 q2', .int .i64 q3', .int .u32 q4']) ∧ Below W.heap.size W w') (htold : ∀ W, S' W → w.heap.size ≤ W.heap.size → UpT T w W → Calls Tryz.prog 136 #[.agg #[.int .u32 0, .int .u32 0, .int .u32 0, .int .u32 0, .int .i64 q0', .int .i64 q1', .int .i64 q2', .int .i64 q3', .int .u32 q4', .int .i64 0, .int .i64 0, .int .i64 0, .int .i64 0, .int .u32 0, .int .i64 0, .int .i64 0, .int .i64 0, .int .i64 0, .int .u32 0], ev] W fun e w' => e = .returned (.agg nt.toArray) ∧ Below W.heap.size W w') : Calls Tryz.prog 37 #[(Value.agg #[.int .i64 8, .int .i64 id, .int .i64 0, .int .i64 0, .int .u32 0]), .int .u32 0, .int .u32 x, .pointer (some ⟨sb, 0, none⟩)] w fun e w' => e = .returned (.agg nt.toArray) ∧ S' w' ∧ UpT T w w' := by
  have hQ : ∀ w1 w2, (S' w1 ∧ UpT T w w1) → Below w.heap.size w1 w2 → (S' w2 ∧ UpT T w w2) := fun w1 w2 hq hb => ⟨hst _ _ hq.1 hb, hq.2.low hb (Nat.le_refl _)⟩
  refine askB hnl hn1 s T id 0 x w hT hs vs vr hE hst hok hl (fun cs hc W hW => ?_)
  refine cbank_0 (Q := fun w' => S' w' ∧ UpT T w w') hnl hn1 hc W hW.size hQ (fun C J U hU hCJ hr hC hJ => ?_)
  have hWU := hW.trans (hU.mono hW.size)
  refine bought_1 (Q := fun w' => S' w' ∧ UpT T w w') 2 made v q0' q1' q2' q3' q4' ev hnl hn1 hc U hWU.size hQ (fun V hV => ?_) (fun V hq _ => hkey V hq.1) (fun V hq hz' => htold V hq.1 hz' hq.2)
  have hUV := hWU.trans (hV.mono hWU.size)
  refine bk_1 (Q := fun w' => S' w' ∧ UpT T w w') (P := P) (id := id) made v ev V ⟨CallC.cell (range_below hr hV hC) 0 _ hc.out.c0, (hUV.cell (p := ⟨s, 3, none⟩) (cell_lt hs3)).trans hs3, (hV.cell (p := ⟨J, 0, none⟩) (cell_lt hJ)).trans hJ⟩ hCJ (fun Z hq => hP Z hq.1) (fun Z hZ => ?_)
  have hVZ := hUV.trans (hZ.mono hUV.size)
  exact (hbuy Z hVZ).mono (fun e w' h => ⟨h.1, ⟨h.2.1, (UpT.below hVZ).trans h.2.2⟩, ⟨h.2.2.1, fun k a b => h.2.2.2 k (Nat.le_trans hT a) b⟩⟩)
set_option maxRecDepth 100000 in
theorem askB_1 {S' : World → Prop} {nt : List Value} (hnl : nt.length = 19) (hn1 : ∀ v, v ∈ nt → v.oneCell' = true) (s T P : Nat) (id x : Int) (x0 : 0 ≤ x) (x9 : x ≤ 4294967295) (made v q0' q1' q2' q3' q4' : Int) (ev : Value) (w : World) (hT : T ≤ w.heap.size) (hs : w.cell? ⟨sb, 0, none⟩ = some (.pointer (some ⟨s, 0, none⟩))) (vs vr : Value) (hE : ErrsAt vs vr w) (hs3 : w.cell? ⟨s, 3, none⟩ = some (.pointer (some ⟨P, 0, none⟩))) (hst : ∀ W W', S' W → Below w.heap.size W W' → S' W') (hP : ∀ W, S' W → W.cell? ⟨s, 3, none⟩ = some (.pointer (some ⟨P, 0, none⟩))) (hok : rightB 8 id 0 0 0 = true) (hl : ∀ W, Below w.heap.size w W → Calls Tryz.prog 21 #[.pointer (some ⟨s, 0, none⟩), (Value.agg #[.int .i64 8, .int .i64 id, .int .i64 0, .int .i64 0, .int .u32 0])] W fun e w' => e = .returned (.bool true) ∧ Below W.heap.size W w') (hbuy : ∀ W, Below w.heap.size w W → Calls Tryz.prog 17 #[.pointer (some ⟨P, 0, none⟩), .int .i64 id, .slice none 0 0] W fun e w' => e = .returned (.tuple #[.int .i64 made, .int .i64 v, ev]) ∧ S' w' ∧ UpT T W w') (hkey : ∀ W, S' W → Calls Tryz.prog 16 #[.pointer (some ⟨s, 0, none⟩), .int .i64 3, .int .i64 made] W fun e w' => e = .returned (.agg #[.int .i64 q0', .int .i64 q1', .int .i64 q2', .int .i64 q3', .int .u32 q4']) ∧ Below W.heap.size W w') (htold : ∀ W, S' W → w.heap.size ≤ W.heap.size → UpT T w W → Calls Tryz.prog 136 #[.agg #[.int .u32 0, .int .u32 0, .int .u32 0, .int .u32 0, .int .i64 q0', .int .i64 q1', .int .i64 q2', .int .i64 q3', .int .u32 q4', .int .i64 0, .int .i64 0, .int .i64 0, .int .i64 0, .int .u32 0, .int .i64 0, .int .i64 0, .int .i64 0, .int .i64 0, .int .u32 0], ev] W fun e w' => e = .returned (.agg nt.toArray) ∧ Below W.heap.size W w') : Calls Tryz.prog 37 #[(Value.agg #[.int .i64 8, .int .i64 id, .int .i64 0, .int .i64 0, .int .u32 0]), .int .u32 1, .int .u32 x, .pointer (some ⟨sb, 0, none⟩)] w fun e w' => e = .returned (.agg nt.toArray) ∧ S' w' ∧ UpT T w w' := by
  have hQ : ∀ w1 w2, (S' w1 ∧ UpT T w w1) → Below w.heap.size w1 w2 → (S' w2 ∧ UpT T w w2) := fun w1 w2 hq hb => ⟨hst _ _ hq.1 hb, hq.2.low hb (Nat.le_refl _)⟩
  refine askB hnl hn1 s T id 1 x w hT hs vs vr hE hst hok hl (fun cs hc W hW => ?_)
  refine cbank_1 (Q := fun w' => S' w' ∧ UpT T w w') hnl hn1 hc W hW.size hQ (fun C J U hU hCJ hr hC hJ => ?_)
  have hWU := hW.trans (hU.mono hW.size)
  refine bought_2 (Q := fun w' => S' w' ∧ UpT T w w') 3 made v q0' q1' q2' q3' q4' ev hnl hn1 hc U hWU.size hQ (fun V hV => ?_) (fun V hq _ => hkey V hq.1) (fun V hq hz' => htold V hq.1 hz' hq.2)
  have hUV := hWU.trans (hV.mono hWU.size)
  refine bk_2 (Q := fun w' => S' w' ∧ UpT T w w') (P := P) (id := id) made v ev V ⟨CallC.cell (range_below hr hV hC) 0 _ hc.out.c0, (hUV.cell (p := ⟨s, 3, none⟩) (cell_lt hs3)).trans hs3, (hV.cell (p := ⟨J, 0, none⟩) (cell_lt hJ)).trans hJ⟩ hCJ (fun Z hq => hP Z hq.1) (fun Z hZ => ?_)
  have hVZ := hUV.trans (hZ.mono hUV.size)
  exact (hbuy Z hVZ).mono (fun e w' h => ⟨h.1, ⟨h.2.1, (UpT.below hVZ).trans h.2.2⟩, ⟨h.2.2.1, fun k a b => h.2.2.2 k (Nat.le_trans hT a) b⟩⟩)
set_option maxRecDepth 100000 in
theorem askB_2 {S' : World → Prop} {nt : List Value} (hnl : nt.length = 19) (hn1 : ∀ v, v ∈ nt → v.oneCell' = true) (s T P : Nat) (id x : Int) (x0 : 0 ≤ x) (x9 : x ≤ 4294967295) (made v q0' q1' q2' q3' q4' : Int) (ev : Value) (w : World) (hT : T ≤ w.heap.size) (hs : w.cell? ⟨sb, 0, none⟩ = some (.pointer (some ⟨s, 0, none⟩))) (vs vr : Value) (hE : ErrsAt vs vr w) (hs3 : w.cell? ⟨s, 3, none⟩ = some (.pointer (some ⟨P, 0, none⟩))) (hst : ∀ W W', S' W → Below w.heap.size W W' → S' W') (hP : ∀ W, S' W → W.cell? ⟨s, 3, none⟩ = some (.pointer (some ⟨P, 0, none⟩))) (hok : rightB 8 id 0 0 0 = true) (hl : ∀ W, Below w.heap.size w W → Calls Tryz.prog 21 #[.pointer (some ⟨s, 0, none⟩), (Value.agg #[.int .i64 8, .int .i64 id, .int .i64 0, .int .i64 0, .int .u32 0])] W fun e w' => e = .returned (.bool true) ∧ Below W.heap.size W w') (hbuy : ∀ W, Below w.heap.size w W → Calls Tryz.prog 20 #[.pointer (some ⟨P, 0, none⟩), .int .i64 id, .int .i64 x] W fun e w' => e = .returned (.tuple #[.int .i64 made, .int .i64 v, ev]) ∧ S' w' ∧ UpT T W w') (hkey : ∀ W, S' W → Calls Tryz.prog 16 #[.pointer (some ⟨s, 0, none⟩), .int .i64 8, .int .i64 made] W fun e w' => e = .returned (.agg #[.int .i64 q0', .int .i64 q1', .int .i64 q2', .int .i64 q3', .int .u32 q4']) ∧ Below W.heap.size W w') (htold : ∀ W, S' W → w.heap.size ≤ W.heap.size → UpT T w W → Calls Tryz.prog 136 #[.agg #[.int .u32 0, .int .u32 0, .int .u32 0, .int .u32 0, .int .i64 q0', .int .i64 q1', .int .i64 q2', .int .i64 q3', .int .u32 q4', .int .i64 0, .int .i64 0, .int .i64 0, .int .i64 0, .int .u32 0, .int .i64 0, .int .i64 0, .int .i64 0, .int .i64 0, .int .u32 0], ev] W fun e w' => e = .returned (.agg nt.toArray) ∧ Below W.heap.size W w') : Calls Tryz.prog 37 #[(Value.agg #[.int .i64 8, .int .i64 id, .int .i64 0, .int .i64 0, .int .u32 0]), .int .u32 2, .int .u32 x, .pointer (some ⟨sb, 0, none⟩)] w fun e w' => e = .returned (.agg nt.toArray) ∧ S' w' ∧ UpT T w w' := by
  have hQ : ∀ w1 w2, (S' w1 ∧ UpT T w w1) → Below w.heap.size w1 w2 → (S' w2 ∧ UpT T w w2) := fun w1 w2 hq hb => ⟨hst _ _ hq.1 hb, hq.2.low hb (Nat.le_refl _)⟩
  refine askB hnl hn1 s T id 2 x w hT hs vs vr hE hst hok hl (fun cs hc W hW => ?_)
  refine cbank_2 (Q := fun w' => S' w' ∧ UpT T w w') hnl hn1 hc W hW.size hQ (fun C J U hU hCJ hr hC hJ => ?_)
  have hWU := hW.trans (hU.mono hW.size)
  refine bought_3 (Q := fun w' => S' w' ∧ UpT T w w') 8 made v q0' q1' q2' q3' q4' ev hnl hn1 hc U hWU.size hQ (fun V hV => ?_) (fun V hq _ => hkey V hq.1) (fun V hq hz' => htold V hq.1 hz' hq.2)
  have hUV := hWU.trans (hV.mono hWU.size)
  refine bk_3 (Q := fun w' => S' w' ∧ UpT T w w') (P := P) (id := id) made v ev hc x0 x9 V ⟨CallC.cell (range_below hr hV hC) 0 _ hc.out.c0, (hUV.cell (p := ⟨s, 3, none⟩) (cell_lt hs3)).trans hs3, (hV.cell (p := ⟨J, 0, none⟩) (cell_lt hJ)).trans hJ, range_below hr hV hC⟩ hCJ (fun Z hq => hP Z hq.1) (fun Z hZ => ?_)
  have hVZ := hUV.trans (hZ.mono hUV.size)
  exact (hbuy Z hVZ).mono (fun e w' h => ⟨h.1, ⟨h.2.1, (UpT.below hVZ).trans h.2.2⟩, ⟨h.2.2.1, fun k a b => h.2.2.2 k (Nat.le_trans hT a) b⟩⟩)
end
end Go.Proofs.YtncopdhhchmpeaaGreatDoor
namespace Go.Proofs.YtncopdhhchmpeaaGreatDoor
open Go.ChangeShapes Go.WideShapes Go.ChangeAt Go.RowKit Go.Maps
set_option linter.unusedVariables false
/-- Numbers are read there. -/
def RI (w : World) (a : Option Addr) (xs : List Int) : Prop := ∀ i, i < xs.length → ∃ ad, a = some ad ∧ ad.block < w.heap.size ∧ w.cell? (ad.add i) = some (.int .i64 (xs.getD i 0))
theorem RI.below {w w' : World} {a : Option Addr} {xs : List Int} (h : RI w a xs) (hb : Below w.heap.size w w') : RI w' a xs := by
  intro i hi
  obtain ⟨ad, h1, h2, h3⟩ := h i hi
  exact ⟨ad, h1, Nat.lt_of_lt_of_le h2 hb.size, (hb.cell (p := ad.add i) (by rw [add_block']; exact h2)).trans h3⟩
end Go.Proofs.YtncopdhhchmpeaaGreatDoor
namespace Go.Proofs.YtncopdhhchmpeaaGreatDoor
open Go.ChangeShapes Go.WideShapes Go.ChangeAt Go.RowKit
set_option linter.unusedVariables false
set_option linter.unusedSimpArgs false
section
variable {s m d t b f q : Nat} {st : Int}
set_option maxRecDepth 100000 in
set_option maxHeartbeats 4000000 in
theorem skey_node (x k0 k1 k2 k3 k4 : Int) (w : World) (hB : SyB w s m d t b f q st) (S : Nat) (hP : w.cell? ⟨m, 0, none⟩ = some (.pointer (some ⟨S, 0, none⟩))) (hC : ∀ W, Below w.heap.size w W → Calls Tryz.prog 53 #[.pointer (some ⟨S, 0, none⟩), .int .i64 x, .int .i64 0] W fun e w' => e = .returned (.agg #[.int .i64 k0, .int .i64 k1, .int .i64 k2, .int .i64 k3, .int .u32 k4]) ∧ Below W.heap.size W w') :
    Calls Tryz.prog 16 #[.pointer (some ⟨s, 0, none⟩), .int .i64 2, .int .i64 x] w fun e w' => e = .returned (.agg #[.int .i64 k0, .int .i64 k1, .int .i64 k2, .int .i64 k3, .int .u32 k4]) ∧ Below w.heap.size w w' := by
  have HC := Lib.hid hC
  have HB := Lib.hid hB
  have HP := Lib.hid (⟨cell_lt hP, hP⟩ : m < w.heap.size ∧ w.cell? ⟨m, 0, none⟩ = some (.pointer (some ⟨S, 0, none⟩)))
  clear hC hB hP
  go_enter Tryz.func16, Tryz.ntmps16
  go_upto_region 1 with fail
  generalize hA : World.alloc w _ = wA
  obtain ⟨K, hK⟩ : ∃ K, K = w.heap.size := ⟨_, rfl⟩
  have HBa : Hid (Below w.heap.size w wA) := Lib.hid (by rw [← hA]; exact (Below.refl _ _).alloc (Nat.le_refl _) _)
  have HK0 : Hid (KeyC wA K 0 0 0 0 0) := Lib.hid (by rw [← hA, hK]; exact KeyC.new w 0 0 0 0 0 _)
  have HKl : Hid (w.heap.size ≤ K) := Lib.hid (by rw [hK]; exact Nat.le_refl _)
  have sc := ((HB.out.below HBa.out).c0)
  have pc := (HBa.out.cell (p := ⟨m, 0, none⟩) HP.out.1).trans HP.out.2
  rw [← hK]
  clear hA hK
  go_wp2_with (first
    | (go_at_call 53; (with_reducible refine (HC.out _ HBa.out).mono ?_); rintro e w1 ⟨rfl, hb⟩; have HB1 := Lib.hid (HBa.out.trans (hb.mono HBa.out.size)); have HK1 := Lib.hid (HK0.out.below hb); have z0 := HK1.out.c0; have z1 := HK1.out.c1; have z2 := HK1.out.c2; have z3 := HK1.out.c3; have z4 := HK1.out.c4; have zf0 := HK1.out.fr 0; have zf1 := HK1.out.fr 1; have zf2 := HK1.out.fr 2; have zf3 := HK1.out.fr 3; have zf4 := HK1.out.fr 4; clear hb))
  have t := HK1.out.set k0 k1 k2 k3 k4
  have t0 := t.c0
  have t1 := t.c1
  have t2 := t.c2
  have t3 := t.c3
  have t4 := t.c4
  refine bodyPost_ret (v := .agg #[.int .i64 k0, .int .i64 k1, .int .i64 k2, .int .i64 k3, .int .u32 k4]) (by simp [results, Tryz.results16, go_sem, t0, t1, t2, t3, t4]) rfl ⟨rfl, ?_⟩
  exact ((((HB1.out.setCell HKl.out _).setCell HKl.out _).setCell HKl.out _).setCell HKl.out _).setCell HKl.out _
set_option maxRecDepth 100000 in
set_option maxHeartbeats 4000000 in
theorem skey_page (x k0 k1 k2 k3 k4 : Int) (w : World) (hB : SyB w s m d t b f q st) (S : Nat) (hP : w.cell? ⟨m, 0, none⟩ = some (.pointer (some ⟨S, 0, none⟩))) (hC : ∀ W, Below w.heap.size w W → Calls Tryz.prog 54 #[.pointer (some ⟨S, 0, none⟩), .int .i64 x] W fun e w' => e = .returned (.agg #[.int .i64 k0, .int .i64 k1, .int .i64 k2, .int .i64 k3, .int .u32 k4]) ∧ Below W.heap.size W w') :
    Calls Tryz.prog 16 #[.pointer (some ⟨s, 0, none⟩), .int .i64 3, .int .i64 x] w fun e w' => e = .returned (.agg #[.int .i64 k0, .int .i64 k1, .int .i64 k2, .int .i64 k3, .int .u32 k4]) ∧ Below w.heap.size w w' := by
  have HC := Lib.hid hC
  have HB := Lib.hid hB
  have HP := Lib.hid (⟨cell_lt hP, hP⟩ : m < w.heap.size ∧ w.cell? ⟨m, 0, none⟩ = some (.pointer (some ⟨S, 0, none⟩)))
  clear hC hB hP
  go_enter Tryz.func16, Tryz.ntmps16
  go_upto_region 1 with fail
  generalize hA : World.alloc w _ = wA
  obtain ⟨K, hK⟩ : ∃ K, K = w.heap.size := ⟨_, rfl⟩
  have HBa : Hid (Below w.heap.size w wA) := Lib.hid (by rw [← hA]; exact (Below.refl _ _).alloc (Nat.le_refl _) _)
  have HK0 : Hid (KeyC wA K 0 0 0 0 0) := Lib.hid (by rw [← hA, hK]; exact KeyC.new w 0 0 0 0 0 _)
  have HKl : Hid (w.heap.size ≤ K) := Lib.hid (by rw [hK]; exact Nat.le_refl _)
  have sc := ((HB.out.below HBa.out).c0)
  have pc := (HBa.out.cell (p := ⟨m, 0, none⟩) HP.out.1).trans HP.out.2
  rw [← hK]
  clear hA hK
  go_wp2_with (first
    | (go_at_call 54; (with_reducible refine (HC.out _ HBa.out).mono ?_); rintro e w1 ⟨rfl, hb⟩; have HB1 := Lib.hid (HBa.out.trans (hb.mono HBa.out.size)); have HK1 := Lib.hid (HK0.out.below hb); have z0 := HK1.out.c0; have z1 := HK1.out.c1; have z2 := HK1.out.c2; have z3 := HK1.out.c3; have z4 := HK1.out.c4; have zf0 := HK1.out.fr 0; have zf1 := HK1.out.fr 1; have zf2 := HK1.out.fr 2; have zf3 := HK1.out.fr 3; have zf4 := HK1.out.fr 4; clear hb))
  have t := HK1.out.set k0 k1 k2 k3 k4
  have t0 := t.c0
  have t1 := t.c1
  have t2 := t.c2
  have t3 := t.c3
  have t4 := t.c4
  refine bodyPost_ret (v := .agg #[.int .i64 k0, .int .i64 k1, .int .i64 k2, .int .i64 k3, .int .u32 k4]) (by simp [results, Tryz.results16, go_sem, t0, t1, t2, t3, t4]) rfl ⟨rfl, ?_⟩
  exact ((((HB1.out.setCell HKl.out _).setCell HKl.out _).setCell HKl.out _).setCell HKl.out _).setCell HKl.out _

end
def kinds12 : List Int := [1, 2, 3, 4, 7, 8, 9, 10, 11, 12, 13, 14]
end Go.Proofs.YtncopdhhchmpeaaGreatDoor
namespace Go.Proofs.YtncopdhhchmpeaaGreatDoor
open Go.ChangeShapes Go.WideShapes Go.ChangeAt Go.RowKit
set_option linter.unusedVariables false
set_option linter.unusedSimpArgs false
/-- ObjectBanks' system, and the box that names it. -/
structure BQ (w0 w : World) (L : BLoc) (X : SLoc) (sb : Nat) (D : BSt) : Prop where
  k : BW w0 w L D
  b : SyB w X.s L.mb L.dP X.tP L.P X.fP X.q 0
  s : w.cell? ⟨sb, 0, none⟩ = some (.pointer (some ⟨X.s, 0, none⟩))
  lo : L.T ≤ X.s ∧ L.T ≤ sb
section
variable {w0 w w' : World} {L : BLoc} {X : SLoc} {sb : Nat} {D D' : BSt}
theorem BW.high2 (h : BW w0 w L D) (hb : Below L.T w w') : BW w0 w' L D := by
  have h1 := h.md
  have h2 := h.dl
  have h3 := h.tt
  have h4 := h.db
  exact h.keep (hb.mono (by omega)) (hb.block _ (by omega)) (hb.block _ (by omega)) (hb.block _ (by omega)) (hb.block _ (by omega)) (hb.block _ (by omega)) (fun k _ hk => hb.block k hk)
theorem BQ.lts (h : BQ w0 w L X sb D) : L.T ≤ w.heap.size ∧ X.s < w.heap.size ∧ sb < w.heap.size := ⟨h.k.tw, h.b.lt, cell_lt h.s⟩
theorem BQ.low {N : Nat} (h : BQ w0 w L X sb D) (hb : Below N w w') (h1 : L.T ≤ N ∧ X.s < N ∧ sb < N) : BQ w0 w' L X sb D := ⟨h.k.high2 (hb.mono h1.1), h.b.same hb.size (hb.block _ h1.2.1), (World.cell?_of_block (a := ⟨sb, 0, none⟩) (hb.block _ h1.2.2)).trans h.s, h.lo⟩
theorem BQ.below (h : BQ w0 w L X sb D) (hb : Below w.heap.size w w') : BQ w0 w' L X sb D := h.low hb h.lts
theorem BQ.step (h : BQ w0 w L X sb D) (hk : BW w0 w' L D') (hu : UpT L.T w w') : BQ w0 w' L X sb D' := ⟨hk, h.b.same hu.1 (hu.2 _ h.lo.1 h.b.lt), (World.cell?_of_block (a := ⟨sb, 0, none⟩) (hu.2 _ h.lo.2 (cell_lt h.s))).trans h.s, h.lo⟩
/-- Bank 1 within bank 0 has a nodes and b pages. -/
structure BD (a b : Nat) (lm : Int) (D : BSt) : Prop where
  nb : D.nb = 2
  p0 : D.pr 0 = -1
  p1 : D.pr 1 = 0
  l0 : D.lm 0 = 20
  l1 : D.lm 1 = lm
  u0 : D.us 0 = (a : Int) + (b : Int)
  u1 : D.us 1 = (a : Int) + (b : Int)
  ub : ∀ i, 2 ≤ i → D.us i = 0
  nt : D.nt = thN a
  nv : D.nv = fun _ => 0
  pt : D.pt = thN b
  pv : D.pv = fun _ => 0
  dt : D.dt = fun _ => false
  dv : D.dv = fun _ => 0
  on : ∀ i, i < a → D.o1 i = 1 ∧ D.v1 i = 0
  op : ∀ i, i < b → D.o2 i = 1 ∧ D.v2 i = 0
  ab : a + b ≤ 10
variable {a b : Nat} {lm : Int}
theorem BD.pk (h : BD a b lm D) : PrOk 2 D.pr := fun i hi => by
  obtain rfl | rfl : i = 0 ∨ i = 1 := by omega
  · rw [h.p0]; decide
  · rw [h.p1]; decide
theorem BD.ch0 (h : BD a b lm D) : chL D.pr ((0 : Nat) : Int) = [((0 : Nat) : Int)] := chL_root h.pk (by decide) 0 (by decide) h.p0
theorem BD.ch1 (h : BD a b lm D) : chL D.pr ((1 : Nat) : Int) = [((1 : Nat) : Int), ((0 : Nat) : Int)] := by
  rw [chL_cons h.pk 1 (by decide) (by decide), h.p1]
  show ((1 : Nat) : Int) :: chL D.pr ((0 : Nat) : Int) = _
  rw [h.ch0]
theorem BD.full (h : BD a b lm D) (t : Bool) (hl : lm ≤ 7) (ht : decide (lm ≤ (a : Int) + (b : Int)) = t) : (chL D.pr ((1 : Nat) : Int)).any (fullB D.us D.lm) = t := by
  have hab := h.ab
  rw [h.ch1]
  have e1 : ((1 : Nat) : Int).toNat = 1 := rfl
  have e0 : ((0 : Nat) : Int).toNat = 0 := rfl
  simp only [List.any_cons, List.any_nil, Bool.or_false, fullB, e1, e0, h.l1, h.l0, h.u0, h.u1, ht]
  rw [decide_eq_false (show ¬ (20 : Int) ≤ (a : Int) + (b : Int) by omega), Bool.or_false]
theorem BD.wide (h : BD a b lm D) : ∀ i, i < L.n → -1000000 ≤ D.us i ∧ D.us i ≤ 1000000 := fun i _ => by
  have hab := h.ab
  by_cases h0 : i = 0
  · subst h0; rw [h.u0]; omega
  · by_cases h1 : i = 1
    · subst h1; rw [h.u1]; omega
    · rw [h.ub i (by omega)]; omega
theorem thN_s13 (i : Nat) : upd (thN i) i true = thN (i + 1) := thN_put i
theorem addL_two (us : Nat → Int) (x : Int) : addL us [((1 : Nat) : Int), ((0 : Nat) : Int)] x 0 = us 0 + x ∧ addL us [((1 : Nat) : Int), ((0 : Nat) : Int)] x 1 = us 1 + x ∧ ∀ i, 2 ≤ i → addL us [((1 : Nat) : Int), ((0 : Nat) : Int)] x i = us i := by
  refine ⟨by simp [addL], by simp [addL], fun i hi => ?_⟩
  unfold addL
  rw [if_neg (by simp; omega)]
theorem BD.node (h : BD a b lm D) (nW : Nat → Nat → Value) (hab : a + b < 10) : BD (a + 1) b lm (boughtN D 1 a 0 nW) := by
  have hc := addL_two D.us 1
  have e : (boughtN D 1 a 0 nW).us = addL D.us [((1 : Nat) : Int), ((0 : Nat) : Int)] 1 := by show addL D.us (chL D.pr ((1 : Nat) : Int)) 1 = _; rw [h.ch1]
  exact ⟨h.nb, h.p0, h.p1, h.l0, h.l1, by rw [e, hc.1, h.u0]; omega, by rw [e, hc.2.1, h.u1]; omega, fun i hi => by rw [e, hc.2.2 i hi]; exact h.ub i hi, by show upd D.nt a true = _; rw [h.nt, thN_s13], h.nv, h.pt, h.pv, h.dt, h.dv,
    fun i hi => by
      show upd D.o1 a 1 i = 1 ∧ upd D.v1 a 0 i = 0
      by_cases e : i = a
      · subst e; rw [upd_at, upd_at]; exact ⟨rfl, rfl⟩
      · rw [upd_other _ _ _ _ e, upd_other _ _ _ _ e]; exact h.on i (by omega), h.op, by omega⟩
theorem BD.page (h : BD a b lm D) (pW : Nat → Nat → Int) (hab : a + b < 10) : BD a (b + 1) lm (boughtP D 1 b 0 pW) := by
  have hc := addL_two D.us 1
  have e : (boughtP D 1 b 0 pW).us = addL D.us [((1 : Nat) : Int), ((0 : Nat) : Int)] 1 := by show addL D.us (chL D.pr ((1 : Nat) : Int)) 1 = _; rw [h.ch1]
  exact ⟨h.nb, h.p0, h.p1, h.l0, h.l1, by rw [e, hc.1, h.u0]; omega, by rw [e, hc.2.1, h.u1]; omega, fun i hi => by rw [e, hc.2.2 i hi]; exact h.ub i hi, h.nt, h.nv, by show upd D.pt b true = _; rw [h.pt, thN_s13], h.pv, h.dt, h.dv, h.on,
    fun i hi => by
      show upd D.o2 b 1 i = 1 ∧ upd D.v2 b 0 i = 0
      by_cases e : i = b
      · subst e; rw [upd_at, upd_at]; exact ⟨rfl, rfl⟩
      · rw [upd_other _ _ _ _ e, upd_other _ _ _ _ e]; exact h.op i (by omega), by omega⟩
/-- The system behind some takes. -/
def SB (w0 : World) (L : BLoc) (X : SLoc) (sb a b : Nat) (lm : Int) (W : World) : Prop := ∃ D, BQ w0 W L X sb D ∧ BD a b lm D
theorem SB.low {N : Nat} (h : SB w0 L X sb a b lm w) (hb : Below N w w') (h1 : L.T ≤ N ∧ X.s < N ∧ sb < N) : SB w0 L X sb a b lm w' := by obtain ⟨D, h2, h3⟩ := h; exact ⟨D, h2.low hb h1, h3⟩
theorem SB.below (h : SB w0 L X sb a b lm w) (hb : Below w.heap.size w w') : SB w0 L X sb a b lm w' := by obtain ⟨D, h2, h3⟩ := h; exact ⟨D, h2.below hb, h3⟩
theorem SB.lts (h : SB w0 L X sb a b lm w) : L.T ≤ w.heap.size ∧ X.s < w.heap.size ∧ sb < w.heap.size := by obtain ⟨D, h2, h3⟩ := h; exact h2.lts
theorem SB.bel (h : SB w0 L X sb a b lm w) : Below w0.heap.size w0 w := by obtain ⟨D, h2, h3⟩ := h; exact h2.k.bel
theorem SB.p3 (h : SB w0 L X sb a b lm w) : w.cell? ⟨X.s, 3, none⟩ = some (.pointer (some ⟨L.P, 0, none⟩)) := by obtain ⟨D, h2, h3⟩ := h; exact h2.b.c3
theorem SB.s0 (h : SB w0 L X sb a b lm w) : w.cell? ⟨sb, 0, none⟩ = some (.pointer (some ⟨X.s, 0, none⟩)) := by obtain ⟨D, h2, h3⟩ := h; exact h2.s
theorem SB.live (h : SB w0 L X sb a b lm w) (hn : L.n = 6) (i : Int) (hi : i = 0 ∨ i = 1) : Calls Tryz.prog 21 #[.pointer (some ⟨X.s, 0, none⟩), (Value.agg #[.int .i64 8, .int .i64 i, .int .i64 0, .int .i64 0, .int .u32 0])] w fun e w' => e = .returned (.bool true) ∧ Below w.heap.size w w' := by
  obtain ⟨D, h2, h3⟩ := h
  exact slive_bank i 0 0 0 L.p L.B L.n L.c L.bB (thN D.nb) (fun _ => 0) true (Lib.hid (by rw [hn, h3.nb]; rcases hi with rfl | rfl <;> rfl)) w h2.b h2.k.kk.f0 h2.k.kk.ar
theorem SB.node (h : SB w0 L X sb a b lm w) (hl : lm ≤ 7) (hab : (a : Int) + (b : Int) < lm) (hn : L.a.n = 12) (vs vr : Value) (hE : ErrsAt vs vr w) : Calls Tryz.prog 15 #[.pointer (some ⟨L.P, 0, none⟩), .int .i64 1, .slice none 0 0] w fun e w' => e = .returned (.tuple #[.int .i64 a, .int .i64 0, .nilIface]) ∧ SB w0 L X sb (a + 1) b lm w' ∧ UpT L.T w w' := by
  obtain ⟨D, h2, h3⟩ := h
  refine (bnode_w (D := D) 1 (by rw [h3.nb]; decide) vs vr none 0 0 (fun _ _ => 0) (Lib.hid (fun i hi => by omega)) (by decide) a (by have := h3.ab; omega) (Lib.hid (by rw [h3.nt, h3.nv]; exact thN_free a)) (Lib.hid (fun i hi => by rw [h3.nt, h3.nv]; exact thN_not a i hi)) 0 (Lib.hid (by rw [h3.nv])) (Lib.hid (h3.full false hl (decide_eq_false (by omega)))) (Lib.hid h3.wide) w h2.k hE (srcv_none L w _)).mono ?_
  rintro e w' ⟨he, hW, hu⟩
  exact ⟨he, ⟨_, h2.step hW hu.up, h3.node _ (by omega)⟩, hu.up⟩
theorem SB.page (h : SB w0 L X sb a b lm w) (hl : lm ≤ 7) (hab : (a : Int) + (b : Int) < lm) (hn : L.b.n = 12) : Calls Tryz.prog 17 #[.pointer (some ⟨L.P, 0, none⟩), .int .i64 1, .slice none 0 0] w fun e w' => e = .returned (.tuple #[.int .i64 b, .int .i64 0, .nilIface]) ∧ SB w0 L X sb a (b + 1) lm w' ∧ UpT L.T w w' := by
  obtain ⟨D, h2, h3⟩ := h
  refine (bpage_w (D := D) 1 (by rw [h3.nb]; decide) none 0 0 [] (Lib.hid rfl) (by decide) b (by have := h3.ab; omega) (Lib.hid (by rw [h3.pt, h3.pv]; exact thN_free b)) (Lib.hid (fun i hi => by rw [h3.pt, h3.pv]; exact thN_not b i hi)) 0 (Lib.hid (by rw [h3.pv])) (Lib.hid (h3.full false hl (decide_eq_false (by omega)))) (Lib.hid h3.wide) w h2.k (srcw_none L w)).mono ?_
  rintro e w' ⟨he, hW, hu⟩
  exact ⟨he, ⟨_, h2.step hW hu.up, h3.page _ (by omega)⟩, hu.up⟩
theorem SB.nodeNo (h : SB w0 L X sb a b lm w) (hl : lm ≤ 7) (hab : lm ≤ (a : Int) + (b : Int)) (vs vr v : Value) (hE : ErrsAt vs vr w) (hc : w.cell? ⟨4, 0, none⟩ = some v) : Calls Tryz.prog 15 #[.pointer (some ⟨L.P, 0, none⟩), .int .i64 1, .slice none 0 0] w fun e w' => e = .returned (.tuple #[.int .i64 0, .int .i64 0, v]) ∧ SB w0 L X sb a b lm w' ∧ UpT L.T w w' := by
  obtain ⟨D, h2, h3⟩ := h
  refine (bnode_limit (D := D) 1 (by rw [h3.nb]; decide) vs vr none 0 0 (fun _ _ => 0) (Lib.hid (fun i hi => by omega)) (by decide) (Lib.hid (h3.full true hl (decide_eq_true hab))) v w h2.k hE (srcv_none L w _) hc (cell_lt hc)).mono ?_
  rintro e w' ⟨he, hb⟩
  exact ⟨he, ⟨_, h2.below hb, h3⟩, UpT.below hb⟩
theorem SB.pageNo (h : SB w0 L X sb a b lm w) (hl : lm ≤ 7) (hab : lm ≤ (a : Int) + (b : Int)) (v : Value) (hc : w.cell? ⟨4, 0, none⟩ = some v) : Calls Tryz.prog 17 #[.pointer (some ⟨L.P, 0, none⟩), .int .i64 1, .slice none 0 0] w fun e w' => e = .returned (.tuple #[.int .i64 0, .int .i64 0, v]) ∧ SB w0 L X sb a b lm w' ∧ UpT L.T w w' := by
  obtain ⟨D, h2, h3⟩ := h
  refine (bpage_limit (D := D) 1 (by rw [h3.nb]; decide) none 0 0 [] (Lib.hid rfl) (by decide) (Lib.hid (h3.full true hl (decide_eq_true hab))) v w h2.k (srcw_none L w) hc (cell_lt hc)).mono ?_
  rintro e w' ⟨he, hb⟩
  exact ⟨he, ⟨_, h2.below hb, h3⟩, UpT.below hb⟩
theorem SB.nkey (h : SB w0 L X sb a b lm w) (i : Nat) (hi : i < a) (hn : L.a.n = 12) : Calls Tryz.prog 16 #[.pointer (some ⟨X.s, 0, none⟩), .int .i64 2, .int .i64 (i : Int)] w fun e w' => e = .returned (.agg #[.int .i64 2, .int .i64 i, .int .i64 0, .int .i64 0, .int .u32 0]) ∧ Below w.heap.size w w' := by
  obtain ⟨D, h2, h3⟩ := h
  exact skey_node (i : Int) 2 (i : Int) 0 0 0 w h2.b L.S h2.k.mm.m0 (fun V hV => snodekey_in (a := L.a) (b := L.b) (th := D.nt) (vr_ := D.nv) (th2 := D.pt) (vr2 := D.pv) (i : Int) 0 i (Lib.hid rfl) (by decide) (by decide) (by have := h3.ab; omega) (Lib.hid (by rw [h3.nt]; exact thN_at hi)) 0 (Lib.hid (by rw [h3.nv])) V (h2.below hV).k.mm.sv.st)
theorem SB.pkey (h : SB w0 L X sb a b lm w) (i : Nat) (hi : i < b) (hn : L.b.n = 12) : Calls Tryz.prog 16 #[.pointer (some ⟨X.s, 0, none⟩), .int .i64 3, .int .i64 (i : Int)] w fun e w' => e = .returned (.agg #[.int .i64 3, .int .i64 i, .int .i64 0, .int .i64 0, .int .u32 0]) ∧ Below w.heap.size w w' := by
  obtain ⟨D, h2, h3⟩ := h
  exact skey_page (i : Int) 3 (i : Int) 0 0 0 w h2.b L.S h2.k.mm.m0 (fun V hV => spagekey_in (a := L.a) (b := L.b) (th := D.nt) (vr_ := D.nv) (th2 := D.pt) (vr2 := D.pv) (i : Int) i (Lib.hid rfl) (by have := h3.ab; omega) (Lib.hid (by rw [h3.pt]; exact thN_at hi)) 0 (Lib.hid (by rw [h3.pv])) V (h2.below hV).k.mm.sv.st)
/-- The key of place 0, be it there or not. -/
theorem SB.nkey0 (h : SB w0 L X sb a b lm w) (hn : L.a.n = 12) : ∃ q0, ∀ W, SB w0 L X sb a b lm W → Calls Tryz.prog 16 #[.pointer (some ⟨X.s, 0, none⟩), .int .i64 2, .int .i64 0] W fun e w' => e = .returned (.agg #[.int .i64 q0, .int .i64 0, .int .i64 0, .int .i64 0, .int .u32 0]) ∧ Below W.heap.size W w' := by
  by_cases ha : 0 < a
  · exact ⟨2, fun W h => h.nkey 0 ha hn⟩
  · obtain rfl : a = 0 := by omega
    refine ⟨0, fun W h => ?_⟩
    obtain ⟨D, h2, h3⟩ := h
    exact skey_node 0 0 0 0 0 0 W h2.b L.S h2.k.mm.m0 (fun V hV => snodekey_dead (a := L.a) (b := L.b) (th := D.nt) (vr_ := D.nv) (th2 := D.pt) (vr2 := D.pv) 0 0 0 (Lib.hid rfl) (Lib.hid (by rw [h3.nt]; rfl)) V (h2.below hV).k.mm.sv.st)
theorem SB.pkey0 (h : SB w0 L X sb a b lm w) (hn : L.b.n = 12) : ∃ q0, ∀ W, SB w0 L X sb a b lm W → Calls Tryz.prog 16 #[.pointer (some ⟨X.s, 0, none⟩), .int .i64 3, .int .i64 0] W fun e w' => e = .returned (.agg #[.int .i64 q0, .int .i64 0, .int .i64 0, .int .i64 0, .int .u32 0]) ∧ Below W.heap.size W w' := by
  by_cases ha : 0 < b
  · exact ⟨3, fun W h => h.pkey 0 ha hn⟩
  · obtain rfl : b = 0 := by omega
    refine ⟨0, fun W h => ?_⟩
    obtain ⟨D, h2, h3⟩ := h
    exact skey_page 0 0 0 0 0 0 W h2.b L.S h2.k.mm.m0 (fun V hV => spagekey_dead (a := L.a) (b := L.b) (th := D.nt) (vr_ := D.nv) (th2 := D.pt) (vr2 := D.pv) 0 0 (Lib.hid rfl) (Lib.hid (by rw [h3.pt]; rfl)) V (h2.below hV).k.mm.sv.st)
end
end Go.Proofs.YtncopdhhchmpeaaGreatDoor
namespace Go.Proofs.YtncopdhhchmpeaaGreatDoor
open Go.ChangeShapes Go.WideShapes Go.ChangeAt Go.RowKit
set_option linter.unusedVariables false
set_option linter.unusedSimpArgs false
end Go.Proofs.YtncopdhhchmpeaaGreatDoor
namespace Go.Proofs.YtncopdhhchmpeaaGreatDoor
open Go.ChangeShapes Go.WideShapes Go.ChangeAt Go.RowKit
set_option linter.unusedVariables false
set_option linter.unusedSimpArgs false
theorem bused_gen {base P p B A G1 G2 G3 n c mb db : Nat} {th : Nat → Bool} {vr pr us lm o1 v1 o2 v2 o3 v3 : Nat → Int} (q : Nat) (x z : Int) (hx : Hid (x = (q : Int))) (hq : q < n) (ht : Hid (th q = true)) (hz : Hid (us q = z)) (w : World) (h : (BkAt w base P p B A G1 G2 G3 n c mb db th vr pr us lm o1 v1 o2 v2 o3 v3)) :
    Calls Tryz.prog 34 #[.pointer (some ⟨P, 0, none⟩), .int .i64 x] w fun e w' => e = .returned (.int .i64 z) ∧ w = w' := by
  rw [hx.out]
  have H := Lib.hid h
  have f0 := h.f0
  have f3 := h.f3
  have c0 := h.ac1 q hq
  rw [hz.out] at c0
  have k0 : (0 : Int) ≤ q := by omega
  have k1 : (q : Int) < n := by omega
  clear h hx
  go_enter Tryz.func34, Tryz.ntmps34
  go_wp2_with (first
    | (go_at_call 63; (with_reducible refine (athere_in q hq true ht _ H.out.ar).mono ?_); rintro e w1 ⟨rfl, rfl⟩))
  go_ret
  exact ⟨rfl, rfl⟩
theorem blimit_gen {base P p B A G1 G2 G3 n c mb db : Nat} {th : Nat → Bool} {vr pr us lm o1 v1 o2 v2 o3 v3 : Nat → Int} (q : Nat) (x z : Int) (hx : Hid (x = (q : Int))) (hq : q < n) (ht : Hid (th q = true)) (hz : Hid (lm q = z)) (w : World) (h : (BkAt w base P p B A G1 G2 G3 n c mb db th vr pr us lm o1 v1 o2 v2 o3 v3)) :
    Calls Tryz.prog 157 #[.pointer (some ⟨P, 0, none⟩), .int .i64 x] w fun e w' => e = .returned (.int .i64 z) ∧ w = w' := by
  rw [hx.out]
  have H := Lib.hid h
  have f0 := h.f0
  have f3 := h.f3
  have c0 := h.ac2 q hq
  rw [hz.out] at c0
  have k0 : (0 : Int) ≤ q := by omega
  have k1 : (q : Int) < n := by omega
  clear h hx
  go_enter Tryz.func157, Tryz.ntmps157
  go_wp2_with (first
    | (go_at_call 63; (with_reducible refine (athere_in q hq true ht _ H.out.ar).mono ?_); rintro e w1 ⟨rfl, rfl⟩))
  go_ret
  exact ⟨rfl, rfl⟩
def noteK (k i : Int) : List Value := [.int .u32 0, .int .u32 0, .int .u32 0, .int .u32 0, .int .i64 k, .int .i64 i, .int .i64 0, .int .i64 0, .int .u32 0, .int .i64 0, .int .i64 0, .int .i64 0, .int .i64 0, .int .u32 0, .int .i64 0, .int .i64 0, .int .i64 0, .int .i64 0, .int .u32 0]
def noteW (o u l : Int) : List Value := [.int .u32 o, .int .u32 u, .int .u32 l, .int .u32 0, .int .i64 0, .int .i64 0, .int .i64 0, .int .i64 0, .int .u32 0, .int .i64 0, .int .i64 0, .int .i64 0, .int .i64 0, .int .u32 0, .int .i64 0, .int .i64 0, .int .i64 0, .int .i64 0, .int .u32 0]
theorem noteK_len (k i : Int) : (noteK k i).length = 19 := rfl
theorem noteW_len (o u l : Int) : (noteW o u l).length = 19 := rfl
theorem noteK_one (k i : Int) : ∀ v, v ∈ noteK k i → v.oneCell' = true := by simp [noteK, Value.oneCell']
theorem noteW_one (o u l : Int) : ∀ v, v ∈ noteW o u l → v.oneCell' = true := by simp [noteW, Value.oneCell']
theorem oks_pre (o : Nat → Int) (q a : Nat) (h : ∀ i, i < a → o i = (q : Int)) : ∀ n, a ≤ n → (oks (thN a) o q n).length = a := by
  have key : ∀ n, (oks (thN a) o q n).length = min a n := by
    intro n
    induction n with
    | zero => simp [oks_zero]
    | succ n ih =>
      by_cases e : n < a
      · rw [oks_yes _ _ _ _ (thN_at e) (h n e), List.length_append, ih]; simp; omega
      · rw [oks_dead _ _ _ _ (by simp [thN]; omega), ih]; omega
  intro n hn
  rw [key]
  omega
theorem inL_one {pr : Nat → Int} (h0 : chL pr ((0 : Nat) : Int) = [((0 : Nat) : Int)]) (h1 : chL pr ((1 : Nat) : Int) = [((1 : Nat) : Int), ((0 : Nat) : Int)]) : inL 2 pr ((1 : Nat) : Int) 6 = [1] := by
  unfold inL
  rw [show List.range 6 = [0, 1, 2, 3, 4, 5] from rfl]
  rw [List.filter_cons_of_neg (by rw [h0]; decide), List.filter_cons_of_pos (by rw [h1]; decide), List.filter_cons_of_neg (by simp), List.filter_cons_of_neg (by simp), List.filter_cons_of_neg (by simp), List.filter_cons_of_neg (by simp)]
  rfl
section
variable {w0 w w' : World} {L : BLoc} {X : SLoc} {sb a b : Nat} {lm : Int} {D : BSt}
theorem oks_none13 (o : Nat → Int) (q n : Nat) : oks (fun _ => false) o q n = [] := by simp [oks]
theorem BD.own (h : BD a b lm D) (ha : L.a.n = 12) (hb : L.b.n = 12) : ownN L D 1 = a + b := by
  have hab := h.ab
  unfold ownN
  rw [h.nt, h.pt, h.dt, oks_none13, oks_pre D.o1 1 a (fun i hi => (h.on i hi).1) _ (by omega), oks_pre D.o2 1 b (fun i hi => (h.op i hi).1) _ (by omega)]
  rfl
theorem BD.ow (h : BD a b lm D) : OwI L D where
  n := fun i _ ht => by
    rw [h.nt] at ht
    obtain ⟨h1, h2⟩ := h.on i (by simpa [thN] using ht)
    exact ⟨1, by rw [h.nb]; decide, h1, by rw [h2, h.nv]⟩
  p := fun i _ ht => by
    rw [h.pt] at ht
    obtain ⟨h1, h2⟩ := h.op i (by simpa [thN] using ht)
    exact ⟨1, by rw [h.nb]; decide, h1, by rw [h2, h.pv]⟩
  d := fun i _ ht => by rw [h.dt] at ht; cases ht
theorem BD.ver (h : BD a b lm D) : VerOk D := ⟨fun i => by rw [h.nv]; show (-1000000 : Int) ≤ 0 ∧ (0 : Int) ≤ 1000000; decide, fun i => by rw [h.pv]; show (-1000000 : Int) ≤ 0 ∧ (0 : Int) ≤ 1000000; decide, fun i => by rw [h.dv]; show (-1000000 : Int) ≤ 0 ∧ (0 : Int) ≤ 1000000; decide⟩
theorem BD.kinds (h : BD a b lm D) (y : Nat) : ∀ (j : Nat) (z : Nat × Nat × Int), (items L D y)[j]? = some z → ((z.1 : Int) == 4) = false := fun j z hz => by
  have hm := List.mem_of_getElem? hz
  unfold items at hm
  rw [h.dt, oks_none13] at hm
  simp only [itK, List.mem_append, List.mem_map, List.map_nil, List.not_mem_nil, or_false] at hm
  rcases hm with ⟨i, _, rfl⟩ | ⟨i, _, rfl⟩ <;> rfl
/-- The bank and all that was its is gone. -/
structure EQ (w0 w : World) (L : BLoc) (X : SLoc) (sb : Nat) (D : BSt) : Prop where
  k : BE w0 w L D (thE 2 [1]) (vrE [1])
  b : SyB w X.s L.mb L.dP X.tP L.P X.fP X.q 0
  s : w.cell? ⟨sb, 0, none⟩ = some (.pointer (some ⟨X.s, 0, none⟩))
  lo : L.T ≤ X.s ∧ L.T ≤ sb
  nt : ∀ i, D.nt i = false
  pt : ∀ i, D.pt i = false
  u0 : D.us 0 = 0
  l0 : D.lm 0 = 20
/-- The end, and nothing more, at a world that is named. -/
def EB (w0 : World) (L : BLoc) (X : SLoc) (sb : Nat) (W : World) : Prop := ∃ D, EQ w0 W L X sb D
theorem EQ.below (h : EQ w0 w L X sb D) (hb : Below w.heap.size w w') : EQ w0 w' L X sb D := ⟨h.k.below hb, h.b.below hb, (hb.cell (p := ⟨sb, 0, none⟩) (cell_lt h.s)).trans h.s, h.lo, h.nt, h.pt, h.u0, h.l0⟩
theorem EB.below (h : EB w0 L X sb w) (hb : Below w.heap.size w w') : EB w0 L X sb w' := by obtain ⟨D, h⟩ := h; exact ⟨D, h.below hb⟩
theorem BE.high (h : BE w0 w L D (thE 2 [1]) (vrE [1])) (hb : Below L.T w w') : BE w0 w' L D (thE 2 [1]) (vrE [1]) := by
  have h1 := h.md
  have h2 := h.dl
  have h3 := h.tt
  have h4 := h.db
  have b1 := h.k.pb
  have b2 := h.k.ar.pb
  have b3 := h.k.ar.lt.1
  have b4 := h.k.ac.lt.1
  have b5 := h.k.t1.lt.1
  have b6 := h.k.t2.lt.1
  have b7 := h.k.t3.lt.1
  exact ⟨MMD.low h.m hb (by omega) (by omega) (by omega), DMD.keep h.d hb.size (hb.block _ (by omega)) (hb.block _ (by omega)) (hb.block _ (by omega)) (hb.block _ (by omega)) (hb.block _ (by omega)),
    BkAt.keep h.k hb.size (hb.block _ (by omega)) (h.k.ar.same2 hb.size (hb.block _ (by omega)) (hb.block _ (by omega))) (h.k.ac.same (hb.block _ (by omega))) (h.k.t1.same (hb.block _ (by omega))) (h.k.t2.same (hb.block _ (by omega))) (h.k.t3.same (hb.block _ (by omega))), h.md, h.db, h.dl, h.pk, h.nn, h.tt, Nat.le_trans h.tw hb.size⟩
theorem EB.low {N : Nat} (h : EB w0 L X sb w) (hb : Below N w w') (h1 : L.T ≤ N ∧ X.s < N ∧ sb < N) : EB w0 L X sb w' := by
  obtain ⟨D, h⟩ := h
  exact ⟨D, h.k.high (hb.mono h1.1), h.b.same hb.size (hb.block _ h1.2.1), (World.cell?_of_block (a := ⟨sb, 0, none⟩) (hb.block _ h1.2.2)).trans h.s, h.lo, h.nt, h.pt, h.u0, h.l0⟩
theorem EB.lts (h : EB w0 L X sb w) : L.T ≤ w.heap.size ∧ X.s < w.heap.size ∧ sb < w.heap.size := by obtain ⟨D, h⟩ := h; exact ⟨h.k.tw, h.b.lt, cell_lt h.s⟩
theorem EB.bel (h : EB w0 L X sb w) : Below w0.heap.size w0 w := by obtain ⟨D, h⟩ := h; exact h.k.bel
theorem EB.s0 (h : EB w0 L X sb w) : w.cell? ⟨sb, 0, none⟩ = some (.pointer (some ⟨X.s, 0, none⟩)) := by obtain ⟨D, h⟩ := h; exact h.s
theorem EB.p3 (h : EB w0 L X sb w) : w.cell? ⟨X.s, 3, none⟩ = some (.pointer (some ⟨L.P, 0, none⟩)) := by obtain ⟨D, h⟩ := h; exact h.b.c3
theorem EB.live (h : EB w0 L X sb w) (hn : L.n = 6) (i : Int) (r : Bool) (hi : i = 0 ∧ r = true ∨ i = 1 ∧ r = false) : Calls Tryz.prog 21 #[.pointer (some ⟨X.s, 0, none⟩), (Value.agg #[.int .i64 8, .int .i64 i, .int .i64 0, .int .i64 0, .int .u32 0])] w fun e w' => e = .returned (.bool r) ∧ Below w.heap.size w w' := by
  obtain ⟨D, h⟩ := h
  exact slive_bank i 0 0 0 L.p L.B L.n L.c L.bB (thE 2 [1]) (vrE [1]) r (Lib.hid (by rw [hn]; rcases hi with ⟨rfl, rfl⟩ | ⟨rfl, rfl⟩ <;> rfl)) w h.b h.k.kk.f0 h.k.kk.ar
theorem EB.dead (h : EB w0 L X sb w) (k i : Int) (hk : k = 2 ∨ k = 3) : Calls Tryz.prog 21 #[.pointer (some ⟨X.s, 0, none⟩), .agg #[.int .i64 k, .int .i64 i, .int .i64 0, .int .i64 0, .int .u32 0]] w fun e w' => e = .returned (.bool false) ∧ Below w.heap.size w w' := by
  obtain ⟨D, h⟩ := h
  refine slive_mem X.s L.mb k i 0 0 0 hk false (Lib.hid ?_) w h.b.c0 h.k.mm.m0 h.k.mm.sv.st
  unfold liveB thereB
  rcases hk with rfl | rfl
  · rw [if_pos rfl, h.nt]; simp
  · rw [if_neg (by decide), if_pos rfl, h.pt]; simp
theorem ofL_gone {T : Nat → Bool} {o : Nat → Int} {a n : Nat} (hT : T = thN a) (ho : ∀ i, i < a → o i = 1) (ha : a ≤ n) (i : Nat) : gT T (ofL T o n [1]) i = false := by
  by_cases e : i < a
  · exact if_pos (ofL_mem.2 ⟨by omega, by rw [hT]; exact thN_at e, 1, by simp, ho i e⟩)
  · have hf : T i = false := by rw [hT]; simp [thN]; omega
    unfold gT
    split
    · rfl
    · exact hf
theorem SB.end_ (h : SB w0 L X sb a b lm w) (ha : L.a.n = 12) (hb : L.b.n = 12) (hn : L.n = 6) : Calls Tryz.prog 25 #[.pointer (some ⟨L.P, 0, none⟩), .int .i64 1] w fun e w' => e = .returned (.tuple #[.int .i64 ((a + b : Nat) : Int), .nilIface]) ∧ EB w0 L X sb w' ∧ UpT L.T w w' := by
  obtain ⟨D, h2, h3⟩ := h
  have hab := h3.ab
  refine (bend_is (D := D) 1 1 (Lib.hid rfl) (by rw [h3.nb]; decide) h3.ow (Lib.hid h3.ver) [1] (Lib.hid (by rw [h3.nb, hn]; exact inL_one h3.ch0 h3.ch1)) (a + b) (Lib.hid (by show ownN L D 1 + 0 = a + b; rw [h3.own ha hb]; rfl)) (by omega) (Lib.hid h3.wide) w h2.k).mono ?_
  rintro e w' ⟨he, hW, hu⟩
  rw [h3.nb] at hW
  refine ⟨he, ⟨_, hW, h2.b.same hu.1 (hu.2 _ h2.lo.1 h2.b.lt), (World.cell?_of_block (a := ⟨sb, 0, none⟩) (hu.2 _ h2.lo.2 (cell_lt h2.s))).trans h2.s, h2.lo, fun i => ofL_gone h3.nt (fun i hi => (h3.on i hi).1) (by omega) i, fun i => ofL_gone h3.pt (fun i hi => (h3.op i hi).1) (by omega) i, ?_, h3.l0⟩, hu⟩
  show addL D.us (chL D.pr (D.pr 1)) (-((a + b : Nat) : Int)) 0 = 0
  rw [h3.p1]
  show addL D.us (chL D.pr ((0 : Nat) : Int)) (-((a + b : Nat) : Int)) 0 = 0
  rw [h3.ch0]
  simp only [addL]
  rw [if_pos (by simp), h3.u0]
  omega
end
end Go.Proofs.YtncopdhhchmpeaaGreatDoor
