import Derived.Test.YtggnaalcdekccabTurnMath
import Derived.Laws.AppendOwnNone
import Derived.Laws.OwnMore
import Derived.Deep.AppendLies
import Derived.OwnWalk
namespace Go.Proofs.Ytggnaalcdekccab
open Go.ChangeShapes Go.WideShapes Go.ChangeAt Go.RowKit
set_option linter.unusedVariables false
theorem RowI.below {W w' : World} {a : Option Addr} {len : Nat} {xs : List Int} (h : RowI W a len xs) (hb : Below W.heap.size W w') : RowI w' a len xs := by
  obtain ⟨h1, h2⟩ := h
  refine ⟨h1, ?_⟩
  rcases h2 with h2 | ⟨b, off, rfl, hl, hc⟩
  · exact .inl h2
  · exact .inr ⟨b, off, rfl, Nat.lt_of_lt_of_le hl hb.size, fun i hi => (hb.cell (p := ⟨b, off + i, none⟩) hl).trans (hc i hi)⟩
/-- What was turned round so far: nothing yet, or a row of its own behind block p. -/
def Turn (wr : World) (p : Nat) (v : Value) (j : Nat) (ys : List Int) : Prop :=
  (j = 0 ∧ v = .slice none 0 0 ∧ ys = []) ∨
  ∃ g cap, 0 < j ∧ v = .slice (some ⟨g, 0, none⟩) j cap ∧ p < g ∧ g < wr.heap.size ∧ ys.length = j ∧ ∀ i, i < j → wr.cell? ⟨g, i, none⟩ = some (.int .i64 (ys.getD i 0))
/-- The worlds within the law's loop. -/
structure LI (w wr : World) (p : Nat) (k0 k1 k2 k3 k4 R : Int) (v : Value) (j : Nat) (ys : List Int) : Prop where
  bel : Below w.heap.size w wr
  lt : w.heap.size < p
  key : w.heap.size < wr.heap.size ∧ wr.cell? ⟨w.heap.size, 0, none⟩ = some (.int .i64 k0) ∧ wr.cell? ⟨w.heap.size, 1, none⟩ = some (.int .i64 k1) ∧ wr.cell? ⟨w.heap.size, 2, none⟩ = some (.int .i64 k2) ∧ wr.cell? ⟨w.heap.size, 3, none⟩ = some (.int .i64 k3) ∧ wr.cell? ⟨w.heap.size, 4, none⟩ = some (.int .u32 k4)
  one : p < wr.heap.size ∧ wr.cell? ⟨p, 0, none⟩ = some (.int .i64 k0) ∧ wr.cell? ⟨p, 1, none⟩ = some (.int .i64 k1) ∧ wr.cell? ⟨p, 2, none⟩ = some (.int .i64 k2) ∧ wr.cell? ⟨p, 3, none⟩ = some (.int .i64 R) ∧ wr.cell? ⟨p, 4, none⟩ = some (.int .u32 k4)
  fr : ∀ i, wr.frozen? ⟨p, i, none⟩ = false
  turn : Turn wr p v j ys
theorem Turn.below {wr w' : World} {p : Nat} {v : Value} {j : Nat} {ys : List Int} (h : Turn wr p v j ys) (hb : Below wr.heap.size wr w') : Turn w' p v j ys := by
  rcases h with h | ⟨g, cap, h0, h1, h2, h3, h4, h5⟩
  · exact .inl h
  · exact .inr ⟨g, cap, h0, h1, h2, Nat.lt_of_lt_of_le h3 hb.size, h4, fun i hi => (hb.cell (p := ⟨g, i, none⟩) h3).trans (h5 i hi)⟩
theorem LI.below {w wr w' : World} {p : Nat} {k0 k1 k2 k3 k4 R : Int} {v : Value} {j : Nat} {ys : List Int} (h : LI w wr p k0 k1 k2 k3 k4 R v j ys) (hb : Below wr.heap.size wr w') : LI w w' p k0 k1 k2 k3 k4 R v j ys :=
  ⟨h.bel.trans (hb.mono h.bel.size), h.lt, keep5 h.key hb, keep5 h.one hb, fun i => (hb.frozen (p := ⟨p, i, none⟩) h.one.1).trans (h.fr i), h.turn.below hb⟩
theorem LI.set {w wr : World} {p : Nat} {k0 k1 k2 k3 k4 R : Int} {v : Value} {j : Nat} {ys : List Int} (h : LI w wr p k0 k1 k2 k3 k4 R v j ys) (R' : Int) : LI w ((((((wr).setCell ⟨p, 0, none⟩ (.int .i64 k0)).setCell ⟨p, 1, none⟩ (.int .i64 k1)).setCell ⟨p, 2, none⟩ (.int .i64 k2)).setCell ⟨p, 3, none⟩ (.int .i64 R')).setCell ⟨p, 4, none⟩ (.int .u32 k4)) p k0 k1 k2 k3 k4 R' v j ys := by
  obtain ⟨h1, h2, ⟨q0, q1, q2, q3, q4, q5⟩, ⟨o0, o1, o2, o3, o4, o5⟩, h5, h6⟩ := h
  have hz : ∀ (W : World) (a : Addr) (x : Value), (W.setCell a x).heap.size = W.heap.size := fun W a x => by simp [World.setCell]
  have far : ∀ (b i : Nat), b ≠ p → (((((((wr).setCell ⟨p, 0, none⟩ (.int .i64 k0)).setCell ⟨p, 1, none⟩ (.int .i64 k1)).setCell ⟨p, 2, none⟩ (.int .i64 k2)).setCell ⟨p, 3, none⟩ (.int .i64 R')).setCell ⟨p, 4, none⟩ (.int .u32 k4))).cell? ⟨b, i, none⟩ = wr.cell? ⟨b, i, none⟩ := fun b i hb => by
    have ne : ∀ n, (⟨p, n, none⟩ : Addr) ≠ ⟨b, i, none⟩ := fun n e => by injection e with e1; exact hb e1.symm
    rw [World.cell?_setCell_other _ _ _ _ (ne 4), World.cell?_setCell_other _ _ _ _ (ne 3), World.cell?_setCell_other _ _ _ _ (ne 2), World.cell?_setCell_other _ _ _ _ (ne 1), World.cell?_setCell_other _ _ _ _ (ne 0)]
  have hp : w.heap.size ≤ p := Nat.le_of_lt h2
  refine ⟨((((h1.setCell (p := ⟨p, 0, none⟩) hp _).setCell (p := ⟨p, 1, none⟩) hp _).setCell (p := ⟨p, 2, none⟩) hp _).setCell (p := ⟨p, 3, none⟩) hp _).setCell (p := ⟨p, 4, none⟩) hp _, h2, ?_, ?_, fun i => ?_, ?_⟩
  · refine ⟨by simp only [hz]; omega, ?_, ?_, ?_, ?_, ?_⟩ <;> (rw [far _ _ (by omega)]; assumption)
  · refine ⟨by simp only [hz]; omega, ?_, ?_, ?_, ?_, ?_⟩
    · rw [World.cell?_setCell_other _ _ _ _ (by simp), World.cell?_setCell_other _ _ _ _ (by simp), World.cell?_setCell_other _ _ _ _ (by simp), World.cell?_setCell_other _ _ _ _ (by simp)]
      exact World.cell?_setCell_same _ _ _ o1
    · rw [World.cell?_setCell_other _ _ _ _ (by simp), World.cell?_setCell_other _ _ _ _ (by simp), World.cell?_setCell_other _ _ _ _ (by simp)]
      exact World.cell?_setCell_same _ _ _ (by rw [World.cell?_setCell_other _ _ _ _ (by simp)]; exact o2)
    · rw [World.cell?_setCell_other _ _ _ _ (by simp), World.cell?_setCell_other _ _ _ _ (by simp)]
      exact World.cell?_setCell_same _ _ _ (by rw [World.cell?_setCell_other _ _ _ _ (by simp), World.cell?_setCell_other _ _ _ _ (by simp)]; exact o3)
    · rw [World.cell?_setCell_other _ _ _ _ (by simp)]
      exact World.cell?_setCell_same _ _ _ (by rw [World.cell?_setCell_other _ _ _ _ (by simp), World.cell?_setCell_other _ _ _ _ (by simp), World.cell?_setCell_other _ _ _ _ (by simp)]; exact o4)
    · exact World.cell?_setCell_same _ _ _ (by rw [World.cell?_setCell_other _ _ _ _ (by simp), World.cell?_setCell_other _ _ _ _ (by simp), World.cell?_setCell_other _ _ _ _ (by simp), World.cell?_setCell_other _ _ _ _ (by simp)]; exact o5)
  · simp only [World.frozen?_setCell]; exact h5 i
  · rcases h6 with h6 | ⟨g, cap, g0, g1, g2, g3, g4, g5⟩
    · exact .inl h6
    · exact .inr ⟨g, cap, g0, g1, g2, by simp only [hz]; exact g3, g4, fun i hi => by rw [far _ _ (by omega)]; exact g5 i hi⟩
theorem RowI.new1 (W : World) (x : Int) : RowI (W.alloc (.cells #[.int .i64 x] 3)) (some ⟨W.heap.size, 0, none⟩) 1 [x] := by
  refine ⟨rfl, .inr ⟨W.heap.size, 0, rfl, by simp, fun i hi => ?_⟩⟩
  match i, hi with
  | 0, _ => simp
theorem RowI.drew {W : World} {a : Option Addr} {len : Nat} {xs : List Int} (h : RowI W a len xs) : RowI W.drew a len xs := ⟨h.1, h.2⟩
theorem lessK_nil (k0 k3 : Int) : lessK k0 k3 [] = k3 := by unfold lessK; split <;> rfl
theorem lessK_snoc (k0 k3 : Int) (l : List Int) (x : Int) : lessK k0 k3 (l ++ [x]) = lessK k0 (lessK k0 k3 l) [x] := by
  unfold lessK
  split
  · rw [lessR_snoc]; rfl
  · rfl
theorem Try.infoInt : (Try.prog.info? 3).map (fun i => (i.zero, i.size, i.bytes)) = some (some (.int .i64 0), 1, 8) := by kernel_rfl
theorem own1 (W : World) (x : Int) (base : Nat) (h : base ≤ W.heap.size) : (W.alloc (.cells #[.int .i64 x] 3)).ownsRow base 3 1 (.slice (some ⟨W.heap.size, 0, none⟩) 1 1) 1 [.int .i64 x] :=
  ⟨rfl, .inr ⟨W.heap.size, 1, #[.int .i64 x], rfl, h, heap_alloc_new W _, Nat.le_refl _, by unfold maxLen; omega, rfl, rfl⟩⟩
theorem grown_below {w6 w7 : World} {o : Obj} (hg : (w6.alloc o).grownBy w7 (some w6.heap.size)) : Below w6.heap.size w6 w7 :=
  ⟨hg.os, hg.tape, hg.output, Nat.le_trans (by simp) hg.size, fun k hk => (hg.block k (by simp; omega) (by simp; omega)).trans (Below.heap_alloc w6 o k hk)⟩
theorem Turn.first {w6 : World} {p : Nat} (hp : p < w6.heap.size) (x : Int) : Turn (w6.alloc (.cells #[.int .i64 x] 3)) p (.slice (some ⟨w6.heap.size, 0, none⟩) 1 1) 1 [x] := by
  refine .inr ⟨w6.heap.size, 1, by omega, rfl, hp, by simp, rfl, fun i hi => ?_⟩
  obtain rfl : i = 0 := by omega
  simp
theorem Turn.next {w7 : World} {p base j : Nat} {v' : Value} {x : Int} {ys : List Int} (hb : p < base) (hl : ys.length = j) (hown : w7.ownsRow base 3 1 v' (1 + j) ([.int .i64 x] ++ ys.map (Value.int .i64))) : Turn w7 p v' (j + 1) (x :: ys) := by
  obtain ⟨g, cap, hv, hg, hlt⟩ := hown.form (by omega)
  refine .inr ⟨g, cap, by omega, by rw [hv, Nat.add_comm], by omega, hlt, by simp [hl], fun i hi => ?_⟩
  subst hv
  have hc := hown.cells (g := g) rfl i (.int .i64 ((x :: ys).getD i 0)) (by
    have e : ([.int .i64 x] ++ ys.map (Value.int .i64)) = (x :: ys).map (Value.int .i64) := rfl
    rw [e, List.getElem?_map]
    have hi' : i < (x :: ys).length := by simp; omega
    have hgd : (x :: ys).getD i 0 = (x :: ys)[i] := by rw [List.getD, List.getElem?_eq_getElem hi']; rfl
    rw [List.getElem?_eq_getElem hi', hgd]; rfl)
  by_cases h0 : i = 0
  · subst h0; simpa [Addr.add] using hc
  · simpa [Addr.add, h0] using hc
theorem Turn.row {wr : World} {p : Nat} {v : Value} {j : Nat} {ys : List Int} (h : Turn wr p v j ys) : ∃ a' cap', v = .slice a' j cap' ∧ RowI wr a' j ys := by
  rcases h with ⟨rfl, rfl, rfl⟩ | ⟨g, cap, h0, rfl, h1, h2, h3, h4⟩
  · exact ⟨none, 0, rfl, rfl, .inl rfl⟩
  · exact ⟨_, _, rfl, h3, .inr ⟨g, 0, rfl, h2, fun i hi => by simpa using h4 i hi⟩⟩
theorem keepZ {w W w' : World} (k0 k1 k2 k3 k4 : Int) (p : Nat) (R : Int) (a a' : Option Addr) (len : Nat) (xs ys : List Int) (h : Below w.heap.size w W ∧ (w.heap.size < W.heap.size ∧ W.cell? ⟨w.heap.size, 0, none⟩ = some (.int .i64 k0) ∧ W.cell? ⟨w.heap.size, 1, none⟩ = some (.int .i64 k1) ∧ W.cell? ⟨w.heap.size, 2, none⟩ = some (.int .i64 k2) ∧ W.cell? ⟨w.heap.size, 3, none⟩ = some (.int .i64 k3) ∧ W.cell? ⟨w.heap.size, 4, none⟩ = some (.int .u32 k4)) ∧ (p < W.heap.size ∧ W.cell? ⟨p, 0, none⟩ = some (.int .i64 k0) ∧ W.cell? ⟨p, 1, none⟩ = some (.int .i64 k1) ∧ W.cell? ⟨p, 2, none⟩ = some (.int .i64 k2) ∧ W.cell? ⟨p, 3, none⟩ = some (.int .i64 R) ∧ W.cell? ⟨p, 4, none⟩ = some (.int .u32 k4)) ∧ RowI W a len xs ∧ RowI W a' len ys) (hb : Below W.heap.size W w') : Below w.heap.size w w' ∧ (w.heap.size < w'.heap.size ∧ w'.cell? ⟨w.heap.size, 0, none⟩ = some (.int .i64 k0) ∧ w'.cell? ⟨w.heap.size, 1, none⟩ = some (.int .i64 k1) ∧ w'.cell? ⟨w.heap.size, 2, none⟩ = some (.int .i64 k2) ∧ w'.cell? ⟨w.heap.size, 3, none⟩ = some (.int .i64 k3) ∧ w'.cell? ⟨w.heap.size, 4, none⟩ = some (.int .u32 k4)) ∧ (p < w'.heap.size ∧ w'.cell? ⟨p, 0, none⟩ = some (.int .i64 k0) ∧ w'.cell? ⟨p, 1, none⟩ = some (.int .i64 k1) ∧ w'.cell? ⟨p, 2, none⟩ = some (.int .i64 k2) ∧ w'.cell? ⟨p, 3, none⟩ = some (.int .i64 R) ∧ w'.cell? ⟨p, 4, none⟩ = some (.int .u32 k4)) ∧ RowI w' a len xs ∧ RowI w' a' len ys := by
  obtain ⟨h0, h1, h2, h3, h4⟩ := h
  exact ⟨h0.trans (hb.mono h0.size), keep5 h1 hb, keep5 h2 hb, h3.below hb, h4.below hb⟩
set_option maxHeartbeats 16000000 in
theorem rless_loop (k0 k1 k2 k3 k4 : Int) (a : Option Addr) (len cap : Nat) (xs : List Int) (w : World) (hx : Hid (RowI w a len xs)) (hl8 : len ≤ 8) (gk : k4 ≤ 4294967295) (hk : Hid (codeOf k0 k1 k2 k3 k4 = 0)) :
    Calls Try.prog 3 #[(Value.agg #[.int .i64 k0, .int .i64 k1, .int .i64 k2, .int .i64 k3, .int .u32 k4]), .slice a len cap] w fun e w' => e = .returned (.bool true) ∧ Below w.heap.size w w' := by
  have d1 : decide ((8 : Int) < (len : Int)) = false := by rw [decide_eq_false_iff_not]; omega
  go_enter Try.func3, Try.ntmps3
  go_wp2_with (first
    | (go_at_call 8; refine (first_any _).mono ?_; rintro e w0 ⟨rfl, hb⟩; have Ka := keep5 (new5 w k0 k1 k2 k3 k4) hb; have Ba := Lib.hid (Below.trans ((Below.refl _ _).alloc (Nat.le_refl _) _) (hb.mono (by simp))); clear hb)
    | (go_at_call 9; refine (valid_is _ _ _ _ _ 0 hk gk _).mono ?_; rintro e w1 ⟨rfl, hb⟩; have Kb := keep5 Ka hb; have Bb := Lib.hid (Ba.out.trans (hb.mono Ba.out.size)); clear hb Ka Ba))
  have N5 := new5 w1 k0 k1 k2 k3 k4
  have L0 : Hid (LI w (w1.alloc (.cells #[.int .i64 k0, .int .i64 k1, .int .i64 k2, .int .i64 k3, .int .u32 k4] 24)) w1.heap.size k0 k1 k2 k3 k4 k3 (.slice none 0 0) 0 []) :=
    Lib.hid ⟨Bb.out.alloc Bb.out.size _, Kb.1, keep5_alloc Kb _, N5, fun i => by simp, .inl ⟨rfl, rfl, rfl⟩⟩
  have hlen := Lib.hid hx.out.len_eq
  have i1 := Lib.hid Kb.1
  clear N5 Kb Bb
  go_loopw [7, 8] (fun v i wr => ∃ j : Nat, j ≤ len ∧ i = .int .i64 j ∧ LI w wr w1.heap.size k0 k1 k2 k3 k4 (lessK k0 k3 (xs.take j)) v j (xs.take j).reverse) (fun _ i _ => len - (intOf i).toNat)
  case atStart => exact ⟨0, Nat.zero_le _, rfl, by have := L0.out; simpa [lessK_nil] using this⟩
  case round =>
    obtain ⟨j, hj, rfl, hR⟩ := hrel
    by_cases hlt : j < len
    · obtain ⟨x, hxe⟩ : ∃ x, xs.getD j 0 = x := ⟨_, rfl⟩
      have HT : Hid (xs.take (j + 1) = xs.take j ++ [x]) := Lib.hid (by rw [take_snoc xs j (by rw [hlen.out]; exact hlt), hxe])
      obtain ⟨x3, h3⟩ : ∃ r, lessK k0 (lessK k0 k3 (xs.take j)) [x] = r := ⟨_, rfl⟩
      obtain ⟨R, hRe⟩ : ∃ r, lessK k0 k3 (xs.take j) = r := ⟨_, rfl⟩
      rw [hRe] at hR h3
      have H3 := Lib.hid h3
      rcases (hx.out.below hR.bel).2 with h0 | ⟨b, off, rfl, hbl, hc⟩
      · omega
      have hcell : wr.cell? ⟨b, off + j, none⟩ = some (.int .i64 x) := by rw [← hxe]; exact hc j hlt
      have hS := hR.one
      have HR := Lib.hid hR
      have HC := Lib.hid hcell
      have HX := Lib.hid hxe
      have HRe := Lib.hid hRe
      clear hc hR hxe h3 hRe
      go_wp2
      go_region_with (first | (go_at_call 10; refine (less_any k0 k1 k2 R k4 _ 1 1 [x] _ ?_ ?_ x3 H3).mono ?_; exact (RowI.new1 _ _).drew; omega; rintro e w5 ⟨rfl, hb⟩; have h5 := (HR.out.below ((Below.refl _ _).alloc (Nat.le_refl _) _).drew).below hb; have o5 := h5.one; have f0 := h5.fr 0; have f1 := h5.fr 1; have f2 := h5.fr 2; have f3 := h5.fr 3; have f4 := h5.fr 4; have H5 := Lib.hid h5; clear h5 hb))
      all_goals
        have L6 := H5.out.set x3
        generalize ((((((w5).setCell ⟨w1.heap.size, 0, none⟩ (.int .i64 k0)).setCell ⟨w1.heap.size, 1, none⟩ (.int .i64 k1)).setCell ⟨w1.heap.size, 2, none⟩ (.int .i64 k2)).setCell ⟨w1.heap.size, 3, none⟩ (.int .i64 x3)).setCell ⟨w1.heap.size, 4, none⟩ (.int .u32 k4)) = w6 at L6 ⊢
        rcases (hx.out.below L6.bel).2 with h0 | ⟨b', off', e, _, hc6⟩
        · omega
        injection e with e
        injection e with e1 e2
        subst e1; subst e2
        have c6 : w6.cell? ⟨b, off + j, none⟩ = some (.int .i64 x) := by rw [← HX.out]; exact hc6 j hlt
        have hp6 := L6.one.1
        have own6 := own1 w6 x (w1.heap.size + 1) hp6
        have HL6 := Lib.hid L6
        have HOwn := Lib.hid own6
        have hnn : Hid (lessK k0 k3 (xs.take (j + 1)) = x3) := Lib.hid (by rw [HT.out, lessK_snoc, HRe.out, H3.out])
        have hrr : Hid ((xs.take (j + 1)).reverse = x :: (xs.take j).reverse) := Lib.hid (by rw [HT.out]; simp)
        have hty : Hid ((xs.take j).reverse.length = j) := Lib.hid (by rw [List.length_reverse, List.length_take, hlen.out]; omega)
        obtain ⟨i0, hi0, hz0, hz1, hz2⟩ := info_parts Try.infoInt
        have HI := Lib.hid hi0
        have HZ := Lib.hid (And.intro hz0 (And.intro hz1 hz2))
        have ht6 := L6.turn
        clear L6 own6 hc6 hi0 hz0 hz1 hz2
        rcases ht6 with ⟨rfl, rfl, hy⟩ | ⟨g, cp, hj0, rfl, hg1, hg2, hyl, hyc⟩
        · simp only [Nat.add_zero] at c6
          have lb := HL6.out.below ((Below.refl _ _).alloc (Nat.le_refl _) (.cells #[.int .i64 x] 3))
          have H7 : Hid (LI w (w6.alloc (.cells #[.int .i64 x] 3)) w1.heap.size k0 k1 k2 k3 k4 x3 (.slice (some ⟨w6.heap.size, 0, none⟩) 1 1) 1 [x]) := Lib.hid ⟨lb.bel, lb.lt, lb.key, lb.one, lb.fr, Turn.first hp6 x⟩
          have HY := Lib.hid hy
          clear lb hy
          go_wp2_with (first | (at_builtin; refine wpList_append_own_none rfl _ _ 25 rfl (w1.heap.size + 1) 3 i0 1 Try.underlying25 HI.out _ 1 [.int .i64 x] rfl HOwn.out rfl ?_))
          go_roundw
          case rel => exact ⟨0 + 1, by omega, by go_num, by rw [hnn.out, hrr.out, HY.out]; exact H7.out⟩
          case measure => simp [intOf]; omega
        · have lb0 := HL6.out
          have C1 : Hid (((xs.take j).reverse.map (Value.int .i64)).length = j * 1) := Lib.hid (by rw [List.length_map, hyl, Nat.mul_one])
          have C2 : Hid (∀ i u, ((xs.take j).reverse.map (Value.int .i64))[i]? = some u → (w6.alloc (.cells #[.int .i64 x] 3)).cell? ((⟨g, 0, none⟩ : Addr).add i) = some u) := Lib.hid fun i u hu => by
            have hi : i < ((xs.take j).reverse.map (Value.int .i64)).length := (List.getElem?_eq_some_iff.1 hu).1
            rw [C1.out, Nat.mul_one] at hi
            have hi' : i < (xs.take j).reverse.length := by rw [hyl]; exact hi
            rw [List.getElem?_map, List.getElem?_eq_getElem hi'] at hu
            have hgd : (xs.take j).reverse.getD i 0 = (xs.take j).reverse[i] := by rw [List.getD, List.getElem?_eq_getElem hi']; rfl
            have hcc := hyc i hi
            rw [hgd] at hcc
            have hu' : u = Value.int .i64 ((xs.take j).reverse[i]) := by injection hu with hu; exact hu.symm
            have ha : (⟨g, 0, none⟩ : Addr).add i = ⟨g, i, none⟩ := by by_cases h0 : i = 0 <;> simp [Addr.add, h0]
            rw [ha, hu']
            exact (World.cell?_alloc_lt w6 _ ⟨g, i, none⟩ hg2).trans hcc
          have C3 : Hid (∀ u ∈ (xs.take j).reverse.map (Value.int .i64), u.oneCell' = true) := Lib.hid fun u hu => by
            obtain ⟨z, _, rfl⟩ := List.mem_map.1 hu
            rfl
          have C4 : 1 + j ≤ maxLen := by unfold maxLen; omega
          have C5 : (1 + j) * 8 ≤ 140737488355328 := by omega
          have C6 : w1.heap.size + 1 ≤ (w6.alloc (.cells #[.int .i64 x] 3)).heap.size := by simp; omega
          have K6 := Lib.hid (And.intro C4 (And.intro C5 C6))
          have HYL := Lib.hid hyl
          clear hyc hyl C4 C5 C6 lb0
          go_wp2_with (first | (at_builtin; refine wpList_append_own _ rfl _ _ 25 rfl (w1.heap.size + 1) 3 i0 (.int .i64 0) 1 8 Try.underlying25 HI.out HZ.out.1 HZ.out.2.1 HZ.out.2.2 rfl (by decide) _ 1 [.int .i64 x] rfl HOwn.out ⟨g, 0, none⟩ j cp ((xs.take j).reverse.map (Value.int .i64)) rfl C1.out C2.out C3.out K6.out.1 K6.out.2.1 K6.out.2.2 ?_; intro v' w7 hown' hgrow _hiff; have hb67 := grown_below hgrow; have lb := HL6.out.below hb67; have H7 : Hid (LI w w7 w1.heap.size k0 k1 k2 k3 k4 x3 v' (j + 1) (x :: (xs.take j).reverse)) := Lib.hid ⟨lb.bel, lb.lt, lb.key, lb.one, lb.fr, Turn.next (by omega) HYL.out hown'⟩; clear hown' hgrow hb67 lb _hiff))
          go_roundw
          case rel => exact ⟨j + 1, by omega, by go_num, by rw [hnn.out, hrr.out]; exact H7.out⟩
          case measure => simp [intOf]; omega
    · have he : xs.take j = xs := List.take_of_length_le (by rw [hlen.out]; omega)
      rw [he] at hR
      obtain rfl : j = len := by omega
      obtain ⟨R, hRe⟩ : ∃ r, lessK k0 k3 xs = r := ⟨_, rfl⟩
      have hcR : Hid (codeOf k0 k1 k2 R k4 = 0) := Lib.hid (by rw [← hRe]; exact codeOf_less hk.out xs)
      have hrv : Hid (lessK k0 k3 xs.reverse = R) := Lib.hid (by rw [lessK_rev k0 k3 (rights_in _ _ _ _ _ hk.out), hRe])
      rw [hRe] at hR
      have HRe := Lib.hid hRe
      obtain ⟨a', cap', rfl, hrow⟩ := hR.turn.row
      have HZ := Lib.hid (And.intro hR.bel (And.intro hR.key (And.intro hR.one (And.intro (hx.out.below hR.bel) hrow))))
      have hK := HZ.out.2.1
      clear hR hrow hx L0 he hRe
      have hd : k0 = 2 ∨ k0 = 3 ∨ (¬ k0 = 2 ∧ ¬ k0 = 3 ∧ Hid (sameB k0 k1 k2 R k4 k0 k1 k2 k3 k4 = true)) := by
        by_cases h2 : k0 = 2
        · exact .inl h2
        by_cases h3 : k0 = 3
        · exact .inr (.inl h3)
        refine .inr (.inr ⟨h2, h3, Lib.hid ?_⟩)
        have e : lessK k0 k3 xs = k3 := if_neg (by omega)
        have e' : R = k3 := by rw [← HRe.out, e]
        rw [e']; simp [sameB]
      rcases hd with rfl | rfl | ⟨hd1, hd2, hsm⟩
      · go_wp2_with (first
          | (go_at_call 10; (with_reducible refine (less_any 2 k1 k2 k3 k4 a _ cap xs _ ?_ ?_ R HRe).mono ?_); (exact HZ.out.2.2.2.1); omega; rintro e w2 ⟨rfl, hb⟩; replace HZ := Lib.hid (keepZ 2 k1 k2 k3 k4 w1.heap.size R a a' _ xs xs.reverse HZ.out hb); replace HZ := Lib.hid (keepZ 2 k1 k2 k3 k4 w1.heap.size R a a' _ xs xs.reverse HZ.out ((Below.refl _ _).alloc (Nat.le_refl _) (.cells #[.int .i64 2, .int .i64 k1, .int .i64 k2, .int .i64 R, .int .u32 k4] 24))); replace hK := HZ.out.2.1; have hA := new5 w2 2 k1 k2 R k4; clear hb)
          | (go_at_call 10; (with_reducible refine (less_any 2 k1 k2 k3 k4 a' _ cap' xs.reverse _ ?_ ?_ R hrv).mono ?_); (exact HZ.out.2.2.2.2); omega; rintro e w3 ⟨rfl, hb⟩; replace HZ := Lib.hid (keepZ 2 k1 k2 k3 k4 w1.heap.size R a a' _ xs xs.reverse HZ.out hb); replace HZ := Lib.hid (keepZ 2 k1 k2 k3 k4 w1.heap.size R a a' _ xs xs.reverse HZ.out ((Below.refl _ _).alloc (Nat.le_refl _) (.cells #[.int .i64 2, .int .i64 k1, .int .i64 k2, .int .i64 R, .int .u32 k4] 24))); replace hK := HZ.out.2.1; replace hO := HZ.out.2.2.1; replace hA := keep5_alloc (keep5 hA hb) (.cells #[.int .i64 2, .int .i64 k1, .int .i64 k2, .int .i64 R, .int .u32 k4] 24); have hB := new5 w3 2 k1 k2 R k4; clear hb)
          | (go_at_call 11; (with_reducible refine (same_is _ _ _ _ _ _ _ _ _ _ true (same_self _ _ _ _ _) _).mono ?_); rintro e w' ⟨rfl, hb⟩; replace HZ := Lib.hid (keepZ 2 k1 k2 k3 k4 w1.heap.size R a a' _ xs xs.reverse HZ.out hb); replace hK := HZ.out.2.1; replace hO := HZ.out.2.2.1; replace hA := keep5 hA hb; replace hB := keep5 hB hb; clear hb)
          | (go_at_call 9; (with_reducible refine (valid_is _ _ _ _ _ 0 hcR gk _).mono ?_); rintro e w' ⟨rfl, hb⟩; replace HZ := Lib.hid (keepZ 2 k1 k2 k3 k4 w1.heap.size R a a' _ xs xs.reverse HZ.out hb); replace hK := HZ.out.2.1; replace hO := HZ.out.2.2.1; replace hA := keep5 hA hb; replace hB := keep5 hB hb; clear hb))
        go_ret
        exact ⟨rfl, HZ.out.1⟩
      · go_wp2_with (first
          | (go_at_call 10; (with_reducible refine (less_any 3 k1 k2 k3 k4 a _ cap xs _ ?_ ?_ R HRe).mono ?_); (exact HZ.out.2.2.2.1); omega; rintro e w2 ⟨rfl, hb⟩; replace HZ := Lib.hid (keepZ 3 k1 k2 k3 k4 w1.heap.size R a a' _ xs xs.reverse HZ.out hb); replace HZ := Lib.hid (keepZ 3 k1 k2 k3 k4 w1.heap.size R a a' _ xs xs.reverse HZ.out ((Below.refl _ _).alloc (Nat.le_refl _) (.cells #[.int .i64 3, .int .i64 k1, .int .i64 k2, .int .i64 R, .int .u32 k4] 24))); replace hK := HZ.out.2.1; have hA := new5 w2 3 k1 k2 R k4; clear hb)
          | (go_at_call 10; (with_reducible refine (less_any 3 k1 k2 k3 k4 a' _ cap' xs.reverse _ ?_ ?_ R hrv).mono ?_); (exact HZ.out.2.2.2.2); omega; rintro e w3 ⟨rfl, hb⟩; replace HZ := Lib.hid (keepZ 3 k1 k2 k3 k4 w1.heap.size R a a' _ xs xs.reverse HZ.out hb); replace HZ := Lib.hid (keepZ 3 k1 k2 k3 k4 w1.heap.size R a a' _ xs xs.reverse HZ.out ((Below.refl _ _).alloc (Nat.le_refl _) (.cells #[.int .i64 3, .int .i64 k1, .int .i64 k2, .int .i64 R, .int .u32 k4] 24))); replace hK := HZ.out.2.1; replace hO := HZ.out.2.2.1; replace hA := keep5_alloc (keep5 hA hb) (.cells #[.int .i64 3, .int .i64 k1, .int .i64 k2, .int .i64 R, .int .u32 k4] 24); have hB := new5 w3 3 k1 k2 R k4; clear hb)
          | (go_at_call 11; (with_reducible refine (same_is _ _ _ _ _ _ _ _ _ _ true (same_self _ _ _ _ _) _).mono ?_); rintro e w' ⟨rfl, hb⟩; replace HZ := Lib.hid (keepZ 3 k1 k2 k3 k4 w1.heap.size R a a' _ xs xs.reverse HZ.out hb); replace hK := HZ.out.2.1; replace hO := HZ.out.2.2.1; replace hA := keep5 hA hb; replace hB := keep5 hB hb; clear hb)
          | (go_at_call 9; (with_reducible refine (valid_is _ _ _ _ _ 0 hcR gk _).mono ?_); rintro e w' ⟨rfl, hb⟩; replace HZ := Lib.hid (keepZ 3 k1 k2 k3 k4 w1.heap.size R a a' _ xs xs.reverse HZ.out hb); replace hK := HZ.out.2.1; replace hO := HZ.out.2.2.1; replace hA := keep5 hA hb; replace hB := keep5 hB hb; clear hb))
        go_ret
        exact ⟨rfl, HZ.out.1⟩
      · have hb1 : (k0 == 2) = false := by simp [hd1]
        have hb2 : (k0 == 3) = false := by simp [hd2]
        go_wp2_with (first
          | (go_at_call 10; (with_reducible refine (less_any k0 k1 k2 k3 k4 a _ cap xs _ ?_ ?_ R HRe).mono ?_); (exact HZ.out.2.2.2.1); omega; rintro e w2 ⟨rfl, hb⟩; replace HZ := Lib.hid (keepZ k0 k1 k2 k3 k4 w1.heap.size R a a' _ xs xs.reverse HZ.out hb); replace HZ := Lib.hid (keepZ k0 k1 k2 k3 k4 w1.heap.size R a a' _ xs xs.reverse HZ.out ((Below.refl _ _).alloc (Nat.le_refl _) (.cells #[.int .i64 k0, .int .i64 k1, .int .i64 k2, .int .i64 R, .int .u32 k4] 24))); replace hK := HZ.out.2.1; have hA := new5 w2 k0 k1 k2 R k4; clear hb)
          | (go_at_call 10; (with_reducible refine (less_any k0 k1 k2 k3 k4 a' _ cap' xs.reverse _ ?_ ?_ R hrv).mono ?_); (exact HZ.out.2.2.2.2); omega; rintro e w3 ⟨rfl, hb⟩; replace HZ := Lib.hid (keepZ k0 k1 k2 k3 k4 w1.heap.size R a a' _ xs xs.reverse HZ.out hb); replace HZ := Lib.hid (keepZ k0 k1 k2 k3 k4 w1.heap.size R a a' _ xs xs.reverse HZ.out ((Below.refl _ _).alloc (Nat.le_refl _) (.cells #[.int .i64 k0, .int .i64 k1, .int .i64 k2, .int .i64 R, .int .u32 k4] 24))); replace hK := HZ.out.2.1; replace hO := HZ.out.2.2.1; replace hA := keep5_alloc (keep5 hA hb) (.cells #[.int .i64 k0, .int .i64 k1, .int .i64 k2, .int .i64 R, .int .u32 k4] 24); have hB := new5 w3 k0 k1 k2 R k4; clear hb)
          | (go_at_call 11; (with_reducible refine (same_is _ _ _ _ _ _ _ _ _ _ true (same_self _ _ _ _ _) _).mono ?_); rintro e w' ⟨rfl, hb⟩; replace HZ := Lib.hid (keepZ k0 k1 k2 k3 k4 w1.heap.size R a a' _ xs xs.reverse HZ.out hb); replace hK := HZ.out.2.1; replace hO := HZ.out.2.2.1; replace hA := keep5 hA hb; replace hB := keep5 hB hb; clear hb)
          | (go_at_call 11; (with_reducible refine (same_is _ _ _ _ _ _ _ _ _ _ true hsm _).mono ?_); rintro e w' ⟨rfl, hb⟩; replace HZ := Lib.hid (keepZ k0 k1 k2 k3 k4 w1.heap.size R a a' _ xs xs.reverse HZ.out hb); replace hK := HZ.out.2.1; replace hO := HZ.out.2.2.1; replace hA := keep5 hA hb; replace hB := keep5 hB hb; clear hb)
          | (go_at_call 9; (with_reducible refine (valid_is _ _ _ _ _ 0 hcR gk _).mono ?_); rintro e w' ⟨rfl, hb⟩; replace HZ := Lib.hid (keepZ k0 k1 k2 k3 k4 w1.heap.size R a a' _ xs xs.reverse HZ.out hb); replace hK := HZ.out.2.1; replace hO := HZ.out.2.2.1; replace hA := keep5 hA hb; replace hB := keep5 hB hb; clear hb))
        go_ret
        exact ⟨rfl, HZ.out.1⟩
end Go.Proofs.Ytggnaalcdekccab
