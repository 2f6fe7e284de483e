/-
  package dom: domains for whom nobody waits; New, Make, Key.
-/
import Derived.Test.YtahhnfhnlffmpaaDoorPl
import Derived.Test.YtahhnfhnlffmpaaDoorNdK
import Derived.Test.YtahhnfhnlffmpaaDoorSen
namespace Go.Proofs.YtahhnfhnlffmpaaDoor
open Go.ChangeShapes Go.WideShapes Go.ChangeAt Go.RowKit
set_option linter.unusedVariables false
set_option linter.unusedSimpArgs false
/-- The cells of a domain that is nothing yet. -/
def zd (b : Nat) : Value := if b < 9 then .int .u32 0 else if b < 11 then .int .i64 0 else if b = 106 then .int .i64 0 else if (b - 11) % 5 = 4 then .int .u32 0 else .int .i64 0
/-- .. and of one that is Available. -/
def zd1 (b : Nat) : Value := if b = 9 then .int .i64 1 else zd b
def zsD : List Value := (List.range 107).map zd
def zsD1 : List Value := (List.range 107).map zd1
def zq (b : Nat) : Value := if b = 0 then .slice none 0 0 else .map none
def zsQ : List Value := [.slice none 0 0, .map none]
theorem zsD_len : zsD.length = 107 := by simp [zsD]
theorem zsD1_len : zsD1.length = 107 := by simp [zsD1]
theorem infoDom : (Tryd.prog.info? 70).map (fun i => (i.zero, i.size, i.bytes)) = some (some (.agg zsD.toArray), 107, 824) := by kernel_rfl
theorem infoQue : (Tryd.prog.info? 135).map (fun i => (i.zero, i.size, i.bytes)) = some (some (.agg zsQ.toArray), 2, 32) := by kernel_rfl
theorem zsD_get (b : Nat) (hb : b < 107) : zsD.getD b (.int .i64 0) = zd b := by simp [zsD, List.getD, hb]
theorem zsD1_get (b : Nat) (hb : b < 107) : zsD1[b]? = some (zd1 b) := by simp [zsD1, hb]
theorem zd_one (b : Nat) : (zd b).oneCell' = true := by
  unfold zd
  repeat' split
  all_goals rfl
theorem zsD1_one : ∀ v ∈ zsD1, v.oneCell' = true := by
  intro v hv
  obtain ⟨x, _, rfl⟩ := List.mem_map.1 hv
  unfold zd1
  split
  · rfl
  · exact zd_one _
/-- Domains at block P: their arena; their cells at block G; nobody waits for any of them. -/
structure DsAt (w : World) (base P p B G Q n c : Nat) (th : Nat → Bool) (vr : Nat → Int) (W : Nat → Nat → Value) : Prop where
  pl : PlAt 70 107 w base P p B G n c th vr W
  f2 : w.cell? ⟨P, 2, none⟩ = some (.slice (some ⟨Q, 0, none⟩) n n)
  qs : w.ownsRow base 135 2 (.slice (some ⟨Q, 0, none⟩) n n) n (flatS 2 (fun _ b => zq b) n)
  q1 : P ≠ Q
  q2 : Q ≠ B
  q3 : Q ≠ G
section
variable {w w' : World} {base P p B G Q n c : Nat} {th th' : Nat → Bool} {vr vr' : Nat → Int} {W W' : Nat → Nat → Value}
theorem DsAt.below (h : DsAt w base P p B G Q n c th vr W) (hb : Below w.heap.size w w') : DsAt w' base P p B G Q n c th vr W :=
  ⟨h.pl.below hb, (hb.cell (p := ⟨P, 2, none⟩) h.pl.pl).trans h.f2, own_below h.qs hb, h.q1, h.q2, h.q3⟩
theorem DsAt.turn (h : DsAt w base P p B G Q n c th vr W) (hA : ArAt w' base p B n c th' vr') (hg : w.grownBy w' (some B)) : DsAt w' base P p B G Q n c th' vr' W :=
  ⟨h.pl.turn hA hg, (World.cell?_of_block (a := ⟨P, 2, none⟩) (hg.block P h.pl.pl (fun e => h.pl.n1 (by injection e)))).trans h.f2, h.qs.kept hg (.inr (fun e => h.q2 (by simpa [Value.ownBlock] using e))), h.q1, h.q2, h.q3⟩
theorem DsAt.cells (h : DsAt w base P p B G Q n c th vr W) (i o : Nat) (hi : i < n) (xs : List Value) (hx : o + xs.length ≤ 107) : DsAt (w.setCells G (i * 107 + o) xs) base P p B G Q n c th vr (updS W i o xs) ∧ w.grownBy (w.setCells G (i * 107 + o) xs) (some G) := by
  have hs := h.pl.cells i o hi xs hx
  exact ⟨⟨hs.1, (World.cell?_of_block (a := ⟨P, 2, none⟩) (hs.2.block P h.pl.pl (fun e => h.pl.n2 (by injection e)))).trans h.f2, h.qs.kept hs.2 (.inr (fun e => h.q3 (by simpa [Value.ownBlock] using e))), h.q1, h.q2, h.q3⟩, hs.2⟩
theorem DsAt.queue (h : DsAt w base P p B G Q n c th vr W) (i : Nat) (hi : i < n) : w.cell? ⟨Q, i * 2, none⟩ = some (.slice none 0 0) ∧ w.cell? ⟨Q, i * 2 + 1, none⟩ = some (.map none) := by
  constructor
  · rw [h.qs.cellAt (i * 2) (by omega), ← Nat.add_zero (i * 2), flatS_at 2 _ n i 0 hi (by decide)]; rfl
  · rw [h.qs.cellAt (i * 2 + 1) (by omega), flatS_at 2 _ n i 1 hi (by decide)]; rfl
theorem DsAt.same (h : DsAt w base P p B G Q n c th vr W) (hs : w.heap.size ≤ w'.heap.size) (hk : ∀ k, base ≤ k → k < w.heap.size → w'.heap[k]? = w.heap[k]?) : DsAt w' base P p B G Q n c th vr W := by
  have hP := hk P h.pl.pb h.pl.pl
  have hp := hk p h.pl.ar.pb h.pl.ar.pl
  have hB := hk B h.pl.ar.lt.1 h.pl.ar.lt.2
  have hG := hk G h.pl.gl.1 h.pl.gl.2
  have hQ := hk Q (h.qs.lt Q rfl).1 (h.qs.lt Q rfl).2
  have row : ∀ {e s m : Nat} {g : Nat} {xs : List Value}, w.ownsRow base e s (.slice (some ⟨g, 0, none⟩) m m) m xs → w'.heap[g]? = w.heap[g]? → w'.ownsRow base e s (.slice (some ⟨g, 0, none⟩) m m) m xs := fun {e s m g xs} hr hb => by
    refine ⟨hr.1, ?_⟩
    rcases hr.2 with hn | ⟨g', cap, cur, e', hB, hg, rest⟩
    · exact .inl hn
    · refine .inr ⟨g', cap, cur, e', hB, ?_, rest⟩
      simp at e'
      rw [← e'.1, hb, e'.1]; exact hg
  refine ⟨⟨Nat.lt_of_lt_of_le h.pl.pl hs, h.pl.pb, (World.cell?_of_block (a := ⟨P, 0, none⟩) hP).trans h.pl.f0, (World.cell?_of_block (a := ⟨P, 1, none⟩) hP).trans h.pl.f1, ⟨Nat.lt_of_lt_of_le h.pl.ar.pl hs, h.pl.ar.pb, (World.cell?_of_block (a := ⟨p, 0, none⟩) hp).trans h.pl.ar.fld, ?_, h.pl.ar.ne, h.pl.ar.le⟩, row h.pl.row hG, h.pl.n1, h.pl.n2, h.pl.n3, h.pl.n4⟩, (World.cell?_of_block (a := ⟨P, 2, none⟩) hP).trans h.f2, row h.qs hQ, h.q1, h.q2, h.q3⟩
  refine ⟨h.pl.ar.own.1, ?_⟩
  rcases h.pl.ar.own.2 with hn | ⟨g', cap, cur, e', hB', hg, rest⟩
  · exact .inl hn
  · refine .inr ⟨g', cap, cur, e', hB', ?_, rest⟩
    simp at e'
    rw [← e'.1, hB, e'.1]; exact hg
end
theorem zsQ_get (b : Nat) (hb : b < 2) : zsQ.getD b (.int .i64 0) = zq b := by
  rcases (show b = 0 ∨ b = 1 by omega) with rfl | rfl <;> rfl
theorem flatS_congr (s : Nat) (W W' : Nat → Nat → Value) (n : Nat) (h0 : 0 < s) (hw : ∀ i j, i < n → j < s → W i j = W' i j) : flatS s W n = flatS s W' n := by
  apply List.ext_getElem?
  intro j
  by_cases hj : j < n * s
  · have h1 : j / s < n := by rw [Nat.div_lt_iff_lt_mul h0]; exact hj
    simp [flatS, hj, hw (j / s) (j % s) h1 (Nat.mod_lt _ h0)]
  · rw [List.getElem?_eq_none (by rw [flatS_len]; omega), List.getElem?_eq_none (by rw [flatS_len]; omega)]
/-- Domains being made: their cells, their queues, as far as they are there. -/
structure D0 (B0 : Nat) (w1 w : World) (n : Nat) (oG oQ : Option Nat) : Prop where
  bel : Below w1.heap.size w1 w
  g : ∀ G, oG = some G → w1.heap.size ≤ G ∧ w.ownsRow B0 70 107 (.slice (some ⟨G, 0, none⟩) n n) n (flatS 107 (fun _ b => zd b) n)
  q : ∀ Q, oQ = some Q → w1.heap.size ≤ Q ∧ w.ownsRow B0 135 2 (.slice (some ⟨Q, 0, none⟩) n n) n (flatS 2 (fun _ b => zq b) n)
  ne : ∀ G Q, oG = some G → oQ = some Q → G ≠ Q
theorem own_grown {w w' : World} {B E s n : Nat} {v : Value} {xs : List Value} (h : w.ownsRow B E s v n xs) (hg : w.grownBy w' none) : w'.ownsRow B E s v n xs := own_below h ((Below.refl _ _).grown hg (Nat.le_refl _) (fun k hk => by cases hk))
theorem D0.mkG {B0 : Nat} {w1 w w' : World} {n : Nat} {oQ : Option Nat} (h : D0 B0 w1 w n none oQ) (G : Nat) (hG : w.heap.size = G) (hown : w'.ownsRow B0 70 107 (.slice (some ⟨G, 0, none⟩) n n) n (madeCells zsD.toArray (n * 107)).toList) (hgrow : w.grownBy w' none) : D0 B0 w1 w' n (some G) oQ := by
  refine ⟨h.bel.grown hgrow h.bel.size (fun k hk => by cases hk), fun G' e => ?_, fun Q e => ⟨(h.q Q e).1, own_grown (h.q Q e).2 hgrow⟩, fun G' Q e1 e2 => ?_⟩
  · injection e with e
    subst e
    refine ⟨by rw [← hG]; exact h.bel.size, ?_⟩
    have h2 := flatS_made zsD n (by rw [zsD_len]; decide)
    rw [zsD_len] at h2
    rw [flatS_congr 107 _ (fun _ b => zsD.getD b (.int .i64 0)) n (by decide) (fun i j _ hj => (zsD_get j hj).symm), ← h2]
    exact hown
  · injection e1 with e1
    have := ((h.q Q e2).2.lt Q rfl).2
    omega
theorem D0.mkQ {B0 : Nat} {w1 w w' : World} {n : Nat} {oG : Option Nat} (h : D0 B0 w1 w n oG none) (Q : Nat) (hQ : w.heap.size = Q) (hown : w'.ownsRow B0 135 2 (.slice (some ⟨Q, 0, none⟩) n n) n (madeCells zsQ.toArray (n * 2)).toList) (hgrow : w.grownBy w' none) : D0 B0 w1 w' n oG (some Q) := by
  refine ⟨h.bel.grown hgrow h.bel.size (fun k hk => by cases hk), fun G e => ⟨(h.g G e).1, own_grown (h.g G e).2 hgrow⟩, fun Q' e => ?_, fun G Q' e1 e2 => ?_⟩
  · injection e with e
    subst e
    refine ⟨by rw [← hQ]; exact h.bel.size, ?_⟩
    have h2 := flatS_made zsQ n (by decide)
    rw [show zsQ.length = 2 from rfl] at h2
    rw [flatS_congr 2 _ (fun _ b => zsQ.getD b (.int .i64 0)) n (by decide) (fun i j _ hj => (zsQ_get j hj).symm), ← h2]
    exact hown
  · injection e2 with e2
    have := ((h.g G e1).2.lt G rfl).2
    omega
theorem D0.done {w0 w1 w w2 : World} {n p B G Q : Nat} (hA : ArAt w1 w0.heap.size p B n n (fun _ => false) (fun _ => 0)) (hb : Below w0.heap.size w0 w1) (h : D0 w0.heap.size w1 w n (some G) (some Q)) (T : TypeId) (h2 : w2 = w.alloc (.cells #[.pointer (some ⟨p, 0, none⟩), .slice (some ⟨G, 0, none⟩) n n, .slice (some ⟨Q, 0, none⟩) n n] T (0, 0))) : DsAt w2 w0.heap.size w.heap.size p B G Q n n (fun _ => false) (fun _ => 0) (fun _ b => zd b) ∧ Below w0.heap.size w0 w2 := by
  subst h2
  have hp := hA.pl
  have hB := hA.lt
  have hG := h.g G rfl
  have hQ := h.q Q rfl
  have hGl := (hG.2.lt G rfl).2
  have hQl := (hQ.2.lt Q rfl).2
  have hne := h.ne G Q rfl rfl
  have hs := h.bel.size
  have hs1 := hb.size
  have h2' : ∀ o, Below w.heap.size w (w.alloc o) := fun o => (Below.refl _ _).alloc (Nat.le_refl _) o
  exact ⟨⟨⟨by simp, by omega, by simp, by simp, (hA.below h.bel).below (h2' _), hG.2.alloc _, by omega, by omega, by omega, by omega⟩, by simp, hQ.2.alloc _, by omega, by omega, Ne.symm hne⟩, (hb.trans (h.bel.mono hs1)).alloc (by omega) _⟩
set_option maxRecDepth 100000 in
set_option maxHeartbeats 1000000 in
theorem dnew_ok (x : Int) (n : Nat) (hx : Hid (x = n)) (h1 : 1 ≤ n) (h2 : n ≤ 256) (w : World) :
    Calls Tryd.prog 24 #[.int .i64 x] w fun e w' => ∃ P p B G Q, e = .returned (.tuple #[.pointer (some ⟨P, 0, none⟩), .nilIface]) ∧ DsAt w' w.heap.size P p B G Q n n (fun _ => false) (fun _ => 0) (fun _ b => zd b) ∧ Below w.heap.size w w' := by
  rw [hx.out]
  obtain ⟨i0, hi, hz0, hz1, hz2⟩ := info_parts infoDom
  have HI := Lib.hid (⟨hi, hz0, hz1, hz2⟩ : Tryd.prog.info? 70 = some i0 ∧ i0.zero = some (.agg zsD.toArray) ∧ i0.size = 107 ∧ i0.bytes = 824)
  clear hi hz0 hz1 hz2 hx
  obtain ⟨i1, hi, hz0, hz1, hz2⟩ := info_parts infoQue
  have HJ := Lib.hid (⟨hi, hz0, hz1, hz2⟩ : Tryd.prog.info? 135 = some i1 ∧ i1.zero = some (.agg zsQ.toArray) ∧ i1.size = 2 ∧ i1.bytes = 32)
  clear hi hz0 hz1 hz2
  go_enter Tryd.func24, Tryd.ntmps24
  go_upto_region 4 with (first
    | (go_at_call 52; (with_reducible refine (anew_at _ n (Lib.hid rfl) h1 h2 _).mono ?_); rintro e w1 ⟨p, B, rfl, hA, hb⟩; have HA := Lib.hid hA; have HB := Lib.hid hb; clear hA hb))
  obtain ⟨wD, hwD⟩ : ∃ wD, wD = w1.drew := ⟨_, rfl⟩
  have HD : Hid (D0 w.heap.size w1 wD n none none) := Lib.hid (by rw [hwD]; exact ⟨(Below.refl _ _).drew, fun _ e => (by cases e), fun _ e => (by cases e), fun _ _ e => (by cases e)⟩)
  refine wp_region_noPanic ?_
  refine wp_region_held_drew (S := fun w' => True) (by kernel_rfl) trivial (fun hHeld => ?_)
  rw [← hwD]
  clear hwD
  refine wpAnyH_take (i := 0) (v := ?_) (by rfl) (by kernel_rfl) (by kernel_rfl) (by kernel_rfl) (fun _ _ _ h => h) (Or.inl ⟨by kernel_rfl, ?_⟩) (by assumption) ?_; rotate_left 1; (focus (intro w hSw; (try dsimp only at hSw); simp only [List.getElem_toArray, List.getElem_cons_succ, List.getElem_cons_zero]; all_goals go_simp; all_goals (try with_reducible rfl))); (try simp only [Act.put, List.getElem_toArray, List.getElem_cons_succ, List.getElem_cons_zero, List.setIfInBounds_toArray, List.set_cons_zero, List.set_cons_succ])
  refine wpAnyH_take (i := 1) (v := ?_) (by rfl) (by kernel_rfl) (by kernel_rfl) (by kernel_rfl) (fun _ _ _ h => h) (Or.inl ⟨by kernel_rfl, ?_⟩) (by assumption) ?_; rotate_left 1; (focus (intro w hSw; (try dsimp only at hSw); simp only [List.getElem_toArray, List.getElem_cons_succ, List.getElem_cons_zero]; all_goals go_simp; all_goals (try with_reducible rfl))); (try simp only [Act.put, List.getElem_toArray, List.getElem_cons_succ, List.getElem_cons_zero, List.setIfInBounds_toArray, List.set_cons_zero, List.set_cons_succ])
  refine wpAnyH_take (i := 3) (v := ?_) (by rfl) (by kernel_rfl) (by kernel_rfl) (by kernel_rfl) (fun _ _ _ h => h) (Or.inl ⟨by kernel_rfl, ?_⟩) (by assumption) ?_; rotate_left 1; (focus (intro w hSw; (try dsimp only at hSw); simp only [List.getElem_toArray, List.getElem_cons_succ, List.getElem_cons_zero]; all_goals go_simp; all_goals (try with_reducible rfl))); (try simp only [Act.put, List.getElem_toArray, List.getElem_cons_succ, List.getElem_cons_zero, List.setIfInBounds_toArray, List.set_cons_zero, List.set_cons_succ])
  refine wpAnyH_ready (rs := [2, 4]) (by kernel_rfl) (by simp) ?_
  refine AllReadyH.cons (by rfl) (fun K' hK => ?_) (AllReadyH.cons (by rfl) (fun K' hK => ?_) AllReadyH.nil)
  · rw [if_pos (by kernel_rfl)]; simp only [List.getElem_toArray, List.getElem_cons_succ, List.getElem_cons_zero]
    obtain ⟨wG, hrun, hown, hgrow⟩ := run_make_full (P := Tryd.prog) wD w.heap.size 77 70 i0 (.agg zsD.toArray) 107 Tryd.underlying77 HI.out.1 HI.out.2.1 HI.out.2.2.1 .i64 .i64 n (by rw [HI.out.2.2.2]; omega) (by unfold maxLen; omega) (Nat.le_trans HB.out.size HD.out.bel.size); obtain ⟨G, hG⟩ : ∃ G, wD.heap.size = G := ⟨_, rfl⟩; rw [hG] at hown hrun; have HwG := Lib.hid (HD.out.mkG G hG hown hgrow); clear hown hgrow hG; go_wp2_with fail; clear hrun
    refine hK.out _ _ trivial (fun hHeld => ?_); clear hK; (try simp only [Act.put, List.getElem_toArray, List.getElem_cons_succ, List.getElem_cons_zero, List.setIfInBounds_toArray, List.set_cons_zero, List.set_cons_succ])
    refine wpAnyH_ready (rs := [4]) (by kernel_rfl) (by simp) ?_; refine AllReadyH.cons (by rfl) (fun K hK => ?_) AllReadyH.nil; rw [if_pos (by kernel_rfl)]; simp only [List.getElem_toArray, List.getElem_cons_succ, List.getElem_cons_zero]
    obtain ⟨wQ, hrun, hown, hgrow⟩ := run_make_full (P := Tryd.prog) wG w.heap.size 78 135 i1 (.agg zsQ.toArray) 2 Tryd.underlying78 HJ.out.1 HJ.out.2.1 HJ.out.2.2.1 .i64 .i64 n (by rw [HJ.out.2.2.2]; omega) (by unfold maxLen; omega) (Nat.le_trans HB.out.size HwG.out.bel.size); obtain ⟨Q, hQ⟩ : ∃ Q, wG.heap.size = Q := ⟨_, rfl⟩; rw [hQ] at hown hrun; have HwQ := Lib.hid (HwG.out.mkQ Q hQ hown hgrow); clear hown hgrow hQ; go_wp2_with fail; clear hrun
    refine hK.out _ _ trivial (fun hHeld => ?_); clear hK; (try simp only [Act.put, List.getElem_toArray, List.getElem_cons_succ, List.getElem_cons_zero, List.setIfInBounds_toArray, List.set_cons_zero, List.set_cons_succ])
    refine wpAnyH_take (i := 5) (v := ?_) (by rfl) (by kernel_rfl) (by kernel_rfl) (by kernel_rfl) (fun _ _ _ h => h) (Or.inl ⟨by kernel_rfl, ?_⟩) (by assumption) ?_; rotate_left 1; (focus (intro w hSw; (try dsimp only at hSw); simp only [List.getElem_toArray, List.getElem_cons_succ, List.getElem_cons_zero]; all_goals go_simp; all_goals (try with_reducible rfl))); (try simp only [Act.put, List.getElem_toArray, List.getElem_cons_succ, List.getElem_cons_zero, List.setIfInBounds_toArray, List.set_cons_zero, List.set_cons_succ]); refine wpAnyH_ready (rs := [6]) (by kernel_rfl) (by simp) ?_; refine AllReadyH.cons (by rfl) (fun K hK => ?_) AllReadyH.nil; rw [if_pos (by kernel_rfl)]; simp only [List.getElem_toArray, List.getElem_cons_succ, List.getElem_cons_zero]; go_wp2_with fail; refine hK.out _ _ trivial (fun hHeld => ?_); clear hK; (try simp only [Act.put, List.getElem_toArray, List.getElem_cons_succ, List.getElem_cons_zero, List.setIfInBounds_toArray, List.set_cons_zero, List.set_cons_succ]); (try refine wpAnyH_take (i := 7) (v := ?_) (by rfl) (by kernel_rfl) (by kernel_rfl) (by kernel_rfl) (fun _ _ _ h => h) (Or.inl ⟨by kernel_rfl, ?_⟩) (by assumption) ?_; rotate_left 1; (focus (intro w hSw; (try dsimp only at hSw); simp only [List.getElem_toArray, List.getElem_cons_succ, List.getElem_cons_zero]; all_goals go_simp; all_goals (try with_reducible rfl))); (try simp only [Act.put, List.getElem_toArray, List.getElem_cons_succ, List.getElem_cons_zero, List.setIfInBounds_toArray, List.set_cons_zero, List.set_cons_succ])); (try refine wpAnyH_take (i := 8) (v := ?_) (by rfl) (by kernel_rfl) (by kernel_rfl) (by kernel_rfl) (fun _ _ _ h => h) (Or.inl ⟨by kernel_rfl, ?_⟩) (by assumption) ?_; rotate_left 1; (focus (intro w hSw; (try dsimp only at hSw); simp only [List.getElem_toArray, List.getElem_cons_succ, List.getElem_cons_zero]; all_goals go_simp; all_goals (try with_reducible rfl))); (try simp only [Act.put, List.getElem_toArray, List.getElem_cons_succ, List.getElem_cons_zero, List.setIfInBounds_toArray, List.set_cons_zero, List.set_cons_succ])); refine wpAnyH_done (by kernel_rfl) ?_ _; refine NoPanic.normal ?_; go_wp2_with fail; go_ret2; have hD := D0.done HA.out HB.out HwQ.out 80 rfl; exact ⟨_, _, _, _, _, rfl, hD.1, hD.2⟩
  · rw [if_pos (by kernel_rfl)]; simp only [List.getElem_toArray, List.getElem_cons_succ, List.getElem_cons_zero]
    obtain ⟨wQ, hrun, hown, hgrow⟩ := run_make_full (P := Tryd.prog) wD w.heap.size 78 135 i1 (.agg zsQ.toArray) 2 Tryd.underlying78 HJ.out.1 HJ.out.2.1 HJ.out.2.2.1 .i64 .i64 n (by rw [HJ.out.2.2.2]; omega) (by unfold maxLen; omega) (Nat.le_trans HB.out.size HD.out.bel.size); obtain ⟨Q, hQ⟩ : ∃ Q, wD.heap.size = Q := ⟨_, rfl⟩; rw [hQ] at hown hrun; have HwQ := Lib.hid (HD.out.mkQ Q hQ hown hgrow); clear hown hgrow hQ; go_wp2_with fail; clear hrun
    refine hK.out _ _ trivial (fun hHeld => ?_); clear hK; (try simp only [Act.put, List.getElem_toArray, List.getElem_cons_succ, List.getElem_cons_zero, List.setIfInBounds_toArray, List.set_cons_zero, List.set_cons_succ])
    refine wpAnyH_ready (rs := [2]) (by kernel_rfl) (by simp) ?_; refine AllReadyH.cons (by rfl) (fun K hK => ?_) AllReadyH.nil; rw [if_pos (by kernel_rfl)]; simp only [List.getElem_toArray, List.getElem_cons_succ, List.getElem_cons_zero]
    obtain ⟨wG, hrun, hown, hgrow⟩ := run_make_full (P := Tryd.prog) wQ w.heap.size 77 70 i0 (.agg zsD.toArray) 107 Tryd.underlying77 HI.out.1 HI.out.2.1 HI.out.2.2.1 .i64 .i64 n (by rw [HI.out.2.2.2]; omega) (by unfold maxLen; omega) (Nat.le_trans HB.out.size HwQ.out.bel.size); obtain ⟨G, hG⟩ : ∃ G, wQ.heap.size = G := ⟨_, rfl⟩; rw [hG] at hown hrun; have HwG := Lib.hid (HwQ.out.mkG G hG hown hgrow); clear hown hgrow hG; go_wp2_with fail; clear hrun
    refine hK.out _ _ trivial (fun hHeld => ?_); clear hK; (try simp only [Act.put, List.getElem_toArray, List.getElem_cons_succ, List.getElem_cons_zero, List.setIfInBounds_toArray, List.set_cons_zero, List.set_cons_succ])
    refine wpAnyH_take (i := 5) (v := ?_) (by rfl) (by kernel_rfl) (by kernel_rfl) (by kernel_rfl) (fun _ _ _ h => h) (Or.inl ⟨by kernel_rfl, ?_⟩) (by assumption) ?_; rotate_left 1; (focus (intro w hSw; (try dsimp only at hSw); simp only [List.getElem_toArray, List.getElem_cons_succ, List.getElem_cons_zero]; all_goals go_simp; all_goals (try with_reducible rfl))); (try simp only [Act.put, List.getElem_toArray, List.getElem_cons_succ, List.getElem_cons_zero, List.setIfInBounds_toArray, List.set_cons_zero, List.set_cons_succ]); refine wpAnyH_ready (rs := [6]) (by kernel_rfl) (by simp) ?_; refine AllReadyH.cons (by rfl) (fun K hK => ?_) AllReadyH.nil; rw [if_pos (by kernel_rfl)]; simp only [List.getElem_toArray, List.getElem_cons_succ, List.getElem_cons_zero]; go_wp2_with fail; refine hK.out _ _ trivial (fun hHeld => ?_); clear hK; (try simp only [Act.put, List.getElem_toArray, List.getElem_cons_succ, List.getElem_cons_zero, List.setIfInBounds_toArray, List.set_cons_zero, List.set_cons_succ]); (try refine wpAnyH_take (i := 7) (v := ?_) (by rfl) (by kernel_rfl) (by kernel_rfl) (by kernel_rfl) (fun _ _ _ h => h) (Or.inl ⟨by kernel_rfl, ?_⟩) (by assumption) ?_; rotate_left 1; (focus (intro w hSw; (try dsimp only at hSw); simp only [List.getElem_toArray, List.getElem_cons_succ, List.getElem_cons_zero]; all_goals go_simp; all_goals (try with_reducible rfl))); (try simp only [Act.put, List.getElem_toArray, List.getElem_cons_succ, List.getElem_cons_zero, List.setIfInBounds_toArray, List.set_cons_zero, List.set_cons_succ])); (try refine wpAnyH_take (i := 8) (v := ?_) (by rfl) (by kernel_rfl) (by kernel_rfl) (by kernel_rfl) (fun _ _ _ h => h) (Or.inl ⟨by kernel_rfl, ?_⟩) (by assumption) ?_; rotate_left 1; (focus (intro w hSw; (try dsimp only at hSw); simp only [List.getElem_toArray, List.getElem_cons_succ, List.getElem_cons_zero]; all_goals go_simp; all_goals (try with_reducible rfl))); (try simp only [Act.put, List.getElem_toArray, List.getElem_cons_succ, List.getElem_cons_zero, List.setIfInBounds_toArray, List.set_cons_zero, List.set_cons_succ])); refine wpAnyH_done (by kernel_rfl) ?_ _; refine NoPanic.normal ?_; go_wp2_with fail; go_ret2; have hD := D0.done HA.out HB.out HwG.out 80 rfl; exact ⟨_, _, _, _, _, rfl, hD.1, hD.2⟩
end Go.Proofs.YtahhnfhnlffmpaaDoor
