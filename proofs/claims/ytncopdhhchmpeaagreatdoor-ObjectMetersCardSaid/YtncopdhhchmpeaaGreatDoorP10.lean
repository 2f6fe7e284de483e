/-
  Ds, ChF, Sx, Bk, Bk2, Bk3, Bk4, Bk5, Bk6, Bk7, Bk8, Bk9, BkA as one.
-/
import Derived.Test.YtncopdhhchmpeaaGreatDoorPl
import Derived.Test.YtncopdhhchmpeaaGreatDoorNdK
import Derived.Test.YtncopdhhchmpeaaGreatDoorSen
import Derived.Test.YtncopdhhchmpeaaGreatDoorAr
import Derived.Test.YtncopdhhchmpeaaGreatDoorP9
namespace Go.Proofs.YtncopdhhchmpeaaGreatDoor
open Go.ChangeShapes Go.WideShapes Go.ChangeAt Go.RowKit
set_option linter.unusedVariables false
set_option linter.unusedSimpArgs false
/-- The cells of a domain that is nothing yet. -/
def zd (b : Nat) : Value := if b < 9 then .int .u32 0 else if b < 11 then .int .i64 0 else if b = 106 then .int .i64 0 else if (b - 11) % 5 = 4 then .int .u32 0 else .int .i64 0
/-- .. and of one that is Available. -/
def zd1 (b : Nat) : Value := if b = 9 then .int .i64 1 else zd b
def zsD : List Value := (List.range 107).map zd
def zsD1 : List Value := (List.range 107).map zd1
def zq (b : Nat) : Value := if b = 0 then .slice none 0 0 else .map none
def zsQ : List Value := [.slice none 0 0, .map none]
theorem zsD_len : zsD.length = 107 := by simp [zsD]
theorem zsD1_len : zsD1.length = 107 := by simp [zsD1]
theorem infoDom : (Tryz.prog.info? 171).map (fun i => (i.zero, i.size, i.bytes)) = some (some (.agg zsD.toArray), 107, 824) := by kernel_rfl
theorem infoQue : (Tryz.prog.info? 135).map (fun i => (i.zero, i.size, i.bytes)) = some (some (.agg zsQ.toArray), 2, 32) := by kernel_rfl
theorem zsD_get (b : Nat) (hb : b < 107) : zsD.getD b (.int .i64 0) = zd b := by simp [zsD, List.getD, hb]
theorem zsD1_get (b : Nat) (hb : b < 107) : zsD1[b]? = some (zd1 b) := by simp [zsD1, hb]
theorem zd_one (b : Nat) : (zd b).oneCell' = true := by
  unfold zd
  repeat' split
  all_goals rfl
theorem zsD1_one : ∀ v ∈ zsD1, v.oneCell' = true := by
  intro v hv
  obtain ⟨x, _, rfl⟩ := List.mem_map.1 hv
  unfold zd1
  split
  · rfl
  · exact zd_one _
/-- Domains at block P: their arena; their cells at block G; nobody waits for any of them. -/
structure DsAt (w : World) (base P p B G Q n c : Nat) (th : Nat → Bool) (vr : Nat → Int) (W : Nat → Nat → Value) : Prop where
  pl : PlAt 171 107 w base P p B G n c th vr W
  f2 : w.cell? ⟨P, 2, none⟩ = some (.slice (some ⟨Q, 0, none⟩) n n)
  qs : w.ownsRow base 135 2 (.slice (some ⟨Q, 0, none⟩) n n) n (flatS 2 (fun _ b => zq b) n)
  q1 : P ≠ Q
  q2 : Q ≠ B
  q3 : Q ≠ G
section
variable {w w' : World} {base P p B G Q n c : Nat} {th th' : Nat → Bool} {vr vr' : Nat → Int} {W W' : Nat → Nat → Value}
theorem DsAt.below (h : DsAt w base P p B G Q n c th vr W) (hb : Below w.heap.size w w') : DsAt w' base P p B G Q n c th vr W :=
  ⟨h.pl.below hb, (hb.cell (p := ⟨P, 2, none⟩) h.pl.pl).trans h.f2, own_below h.qs hb, h.q1, h.q2, h.q3⟩
theorem DsAt.turn (h : DsAt w base P p B G Q n c th vr W) (hA : ArAt w' base p B n c th' vr') (hg : w.grownBy w' (some B)) : DsAt w' base P p B G Q n c th' vr' W :=
  ⟨h.pl.turn hA hg, (World.cell?_of_block (a := ⟨P, 2, none⟩) (hg.block P h.pl.pl (fun e => h.pl.n1 (by injection e)))).trans h.f2, h.qs.kept hg (.inr (fun e => h.q2 (by simpa [Value.ownBlock] using e))), h.q1, h.q2, h.q3⟩
theorem DsAt.cells (h : DsAt w base P p B G Q n c th vr W) (i o : Nat) (hi : i < n) (xs : List Value) (hx : o + xs.length ≤ 107) : DsAt (w.setCells G (i * 107 + o) xs) base P p B G Q n c th vr (updS W i o xs) ∧ w.grownBy (w.setCells G (i * 107 + o) xs) (some G) := by
  have hs := h.pl.cells i o hi xs hx
  exact ⟨⟨hs.1, (World.cell?_of_block (a := ⟨P, 2, none⟩) (hs.2.block P h.pl.pl (fun e => h.pl.n2 (by injection e)))).trans h.f2, h.qs.kept hs.2 (.inr (fun e => h.q3 (by simpa [Value.ownBlock] using e))), h.q1, h.q2, h.q3⟩, hs.2⟩
theorem DsAt.queue (h : DsAt w base P p B G Q n c th vr W) (i : Nat) (hi : i < n) : w.cell? ⟨Q, i * 2, none⟩ = some (.slice none 0 0) ∧ w.cell? ⟨Q, i * 2 + 1, none⟩ = some (.map none) := by
  constructor
  · rw [h.qs.cellAt (i * 2) (by omega), ← Nat.add_zero (i * 2), flatS_at 2 _ n i 0 hi (by decide)]; rfl
  · rw [h.qs.cellAt (i * 2 + 1) (by omega), flatS_at 2 _ n i 1 hi (by decide)]; rfl
theorem DsAt.same (h : DsAt w base P p B G Q n c th vr W) (hs : w.heap.size ≤ w'.heap.size) (hk : ∀ k, base ≤ k → k < w.heap.size → w'.heap[k]? = w.heap[k]?) : DsAt w' base P p B G Q n c th vr W := by
  have hP := hk P h.pl.pb h.pl.pl
  have hp := hk p h.pl.ar.pb h.pl.ar.pl
  have hB := hk B h.pl.ar.lt.1 h.pl.ar.lt.2
  have hG := hk G h.pl.gl.1 h.pl.gl.2
  have hQ := hk Q (h.qs.lt Q rfl).1 (h.qs.lt Q rfl).2
  have row : ∀ {e s m : Nat} {g : Nat} {xs : List Value}, w.ownsRow base e s (.slice (some ⟨g, 0, none⟩) m m) m xs → w'.heap[g]? = w.heap[g]? → w'.ownsRow base e s (.slice (some ⟨g, 0, none⟩) m m) m xs := fun {e s m g xs} hr hb => by
    refine ⟨hr.1, ?_⟩
    rcases hr.2 with hn | ⟨g', cap, cur, e', hB, hg, rest⟩
    · exact .inl hn
    · refine .inr ⟨g', cap, cur, e', hB, ?_, rest⟩
      simp at e'
      rw [← e'.1, hb, e'.1]; exact hg
  refine ⟨⟨Nat.lt_of_lt_of_le h.pl.pl hs, h.pl.pb, (World.cell?_of_block (a := ⟨P, 0, none⟩) hP).trans h.pl.f0, (World.cell?_of_block (a := ⟨P, 1, none⟩) hP).trans h.pl.f1, ⟨Nat.lt_of_lt_of_le h.pl.ar.pl hs, h.pl.ar.pb, (World.cell?_of_block (a := ⟨p, 0, none⟩) hp).trans h.pl.ar.fld, ?_, h.pl.ar.ne, h.pl.ar.le⟩, row h.pl.row hG, h.pl.n1, h.pl.n2, h.pl.n3, h.pl.n4⟩, (World.cell?_of_block (a := ⟨P, 2, none⟩) hP).trans h.f2, row h.qs hQ, h.q1, h.q2, h.q3⟩
  refine ⟨h.pl.ar.own.1, ?_⟩
  rcases h.pl.ar.own.2 with hn | ⟨g', cap, cur, e', hB', hg, rest⟩
  · exact .inl hn
  · refine .inr ⟨g', cap, cur, e', hB', ?_, rest⟩
    simp at e'
    rw [← e'.1, hB, e'.1]; exact hg
end
theorem zsQ_get (b : Nat) (hb : b < 2) : zsQ.getD b (.int .i64 0) = zq b := by
  rcases (show b = 0 ∨ b = 1 by omega) with rfl | rfl <;> rfl
theorem flatS_congr (s : Nat) (W W' : Nat → Nat → Value) (n : Nat) (h0 : 0 < s) (hw : ∀ i j, i < n → j < s → W i j = W' i j) : flatS s W n = flatS s W' n := by
  apply List.ext_getElem?
  intro j
  by_cases hj : j < n * s
  · have h1 : j / s < n := by rw [Nat.div_lt_iff_lt_mul h0]; exact hj
    simp [flatS, hj, hw (j / s) (j % s) h1 (Nat.mod_lt _ h0)]
  · rw [List.getElem?_eq_none (by rw [flatS_len]; omega), List.getElem?_eq_none (by rw [flatS_len]; omega)]
/-- Domains being made: their cells, their queues, as far as they are there. -/
structure D0 (B0 : Nat) (w1 w : World) (n : Nat) (oG oQ : Option Nat) : Prop where
  bel : Below w1.heap.size w1 w
  g : ∀ G, oG = some G → w1.heap.size ≤ G ∧ w.ownsRow B0 171 107 (.slice (some ⟨G, 0, none⟩) n n) n (flatS 107 (fun _ b => zd b) n)
  q : ∀ Q, oQ = some Q → w1.heap.size ≤ Q ∧ w.ownsRow B0 135 2 (.slice (some ⟨Q, 0, none⟩) n n) n (flatS 2 (fun _ b => zq b) n)
  ne : ∀ G Q, oG = some G → oQ = some Q → G ≠ Q
theorem own_grown {w w' : World} {B E s n : Nat} {v : Value} {xs : List Value} (h : w.ownsRow B E s v n xs) (hg : w.grownBy w' none) : w'.ownsRow B E s v n xs := own_below h ((Below.refl _ _).grown hg (Nat.le_refl _) (fun k hk => by cases hk))
theorem D0.mkG {B0 : Nat} {w1 w w' : World} {n : Nat} {oQ : Option Nat} (h : D0 B0 w1 w n none oQ) (G : Nat) (hG : w.heap.size = G) (hown : w'.ownsRow B0 171 107 (.slice (some ⟨G, 0, none⟩) n n) n (madeCells zsD.toArray (n * 107)).toList) (hgrow : w.grownBy w' none) : D0 B0 w1 w' n (some G) oQ := by
  refine ⟨h.bel.grown hgrow h.bel.size (fun k hk => by cases hk), fun G' e => ?_, fun Q e => ⟨(h.q Q e).1, own_grown (h.q Q e).2 hgrow⟩, fun G' Q e1 e2 => ?_⟩
  · injection e with e
    subst e
    refine ⟨by rw [← hG]; exact h.bel.size, ?_⟩
    have h2 := flatS_made zsD n (by rw [zsD_len]; decide)
    rw [zsD_len] at h2
    rw [flatS_congr 107 _ (fun _ b => zsD.getD b (.int .i64 0)) n (by decide) (fun i j _ hj => (zsD_get j hj).symm), ← h2]
    exact hown
  · injection e1 with e1
    have := ((h.q Q e2).2.lt Q rfl).2
    omega
theorem D0.mkQ {B0 : Nat} {w1 w w' : World} {n : Nat} {oG : Option Nat} (h : D0 B0 w1 w n oG none) (Q : Nat) (hQ : w.heap.size = Q) (hown : w'.ownsRow B0 135 2 (.slice (some ⟨Q, 0, none⟩) n n) n (madeCells zsQ.toArray (n * 2)).toList) (hgrow : w.grownBy w' none) : D0 B0 w1 w' n oG (some Q) := by
  refine ⟨h.bel.grown hgrow h.bel.size (fun k hk => by cases hk), fun G e => ⟨(h.g G e).1, own_grown (h.g G e).2 hgrow⟩, fun Q' e => ?_, fun G Q' e1 e2 => ?_⟩
  · injection e with e
    subst e
    refine ⟨by rw [← hQ]; exact h.bel.size, ?_⟩
    have h2 := flatS_made zsQ n (by decide)
    rw [show zsQ.length = 2 from rfl] at h2
    rw [flatS_congr 2 _ (fun _ b => zsQ.getD b (.int .i64 0)) n (by decide) (fun i j _ hj => (zsQ_get j hj).symm), ← h2]
    exact hown
  · injection e2 with e2
    have := ((h.g G e1).2.lt G rfl).2
    omega
theorem D0.done {w0 w1 w w2 : World} {n p B G Q : Nat} (hA : ArAt w1 w0.heap.size p B n n (fun _ => false) (fun _ => 0)) (hb : Below w0.heap.size w0 w1) (h : D0 w0.heap.size w1 w n (some G) (some Q)) (T : TypeId) (h2 : w2 = w.alloc (.cells #[.pointer (some ⟨p, 0, none⟩), .slice (some ⟨G, 0, none⟩) n n, .slice (some ⟨Q, 0, none⟩) n n] T (0, 0))) : DsAt w2 w0.heap.size w.heap.size p B G Q n n (fun _ => false) (fun _ => 0) (fun _ b => zd b) ∧ Below w0.heap.size w0 w2 := by
  subst h2
  have hp := hA.pl
  have hB := hA.lt
  have hG := h.g G rfl
  have hQ := h.q Q rfl
  have hGl := (hG.2.lt G rfl).2
  have hQl := (hQ.2.lt Q rfl).2
  have hne := h.ne G Q rfl rfl
  have hs := h.bel.size
  have hs1 := hb.size
  have h2' : ∀ o, Below w.heap.size w (w.alloc o) := fun o => (Below.refl _ _).alloc (Nat.le_refl _) o
  exact ⟨⟨⟨by simp, by omega, by simp, by simp, (hA.below h.bel).below (h2' _), hG.2.alloc _, by omega, by omega, by omega, by omega⟩, by simp, hQ.2.alloc _, by omega, by omega, Ne.symm hne⟩, (hb.trans (h.bel.mono hs1)).alloc (by omega) _⟩
set_option maxRecDepth 100000 in
set_option maxHeartbeats 1000000 in
theorem dnew_ok (x : Int) (n : Nat) (hx : Hid (x = n)) (h1 : 1 ≤ n) (h2 : n ≤ 256) (w : World) :
    Calls Tryz.prog 84 #[.int .i64 x] w fun e w' => ∃ P p B G Q, e = .returned (.tuple #[.pointer (some ⟨P, 0, none⟩), .nilIface]) ∧ DsAt w' w.heap.size P p B G Q n n (fun _ => false) (fun _ => 0) (fun _ b => zd b) ∧ Below w.heap.size w w' := by
  rw [hx.out]
  obtain ⟨i0, hi, hz0, hz1, hz2⟩ := info_parts infoDom
  have HI := Lib.hid (⟨hi, hz0, hz1, hz2⟩ : Tryz.prog.info? 171 = some i0 ∧ i0.zero = some (.agg zsD.toArray) ∧ i0.size = 107 ∧ i0.bytes = 824)
  clear hi hz0 hz1 hz2 hx
  obtain ⟨i1, hi, hz0, hz1, hz2⟩ := info_parts infoQue
  have HJ := Lib.hid (⟨hi, hz0, hz1, hz2⟩ : Tryz.prog.info? 135 = some i1 ∧ i1.zero = some (.agg zsQ.toArray) ∧ i1.size = 2 ∧ i1.bytes = 32)
  clear hi hz0 hz1 hz2
  go_enter Tryz.func84, Tryz.ntmps84
  go_upto_region 4 with (first
    | (go_at_call 127; (with_reducible refine (anew_at _ n (Lib.hid rfl) h1 h2 _).mono ?_); rintro e w1 ⟨p, B, rfl, hA, hb⟩; have HA := Lib.hid hA; have HB := Lib.hid hb; clear hA hb))
  obtain ⟨wD, hwD⟩ : ∃ wD, wD = w1.drew := ⟨_, rfl⟩
  have HD : Hid (D0 w.heap.size w1 wD n none none) := Lib.hid (by rw [hwD]; exact ⟨(Below.refl _ _).drew, fun _ e => (by cases e), fun _ e => (by cases e), fun _ _ e => (by cases e)⟩)
  refine wp_region_noPanic ?_
  refine wp_region_held_drew (S := fun w' => True) (by kernel_rfl) trivial (fun hHeld => ?_)
  rw [← hwD]
  clear hwD
  refine wpAnyH_take (i := 0) (v := ?_) (by rfl) (by kernel_rfl) (by kernel_rfl) (by kernel_rfl) (fun _ _ _ h => h) (Or.inl ⟨by kernel_rfl, ?_⟩) (by assumption) ?_; rotate_left 1; (focus (intro w hSw; (try dsimp only at hSw); simp only [List.getElem_toArray, List.getElem_cons_succ, List.getElem_cons_zero]; all_goals go_simp; all_goals (try with_reducible rfl))); (try simp only [Act.put, List.getElem_toArray, List.getElem_cons_succ, List.getElem_cons_zero, List.setIfInBounds_toArray, List.set_cons_zero, List.set_cons_succ])
  refine wpAnyH_take (i := 1) (v := ?_) (by rfl) (by kernel_rfl) (by kernel_rfl) (by kernel_rfl) (fun _ _ _ h => h) (Or.inl ⟨by kernel_rfl, ?_⟩) (by assumption) ?_; rotate_left 1; (focus (intro w hSw; (try dsimp only at hSw); simp only [List.getElem_toArray, List.getElem_cons_succ, List.getElem_cons_zero]; all_goals go_simp; all_goals (try with_reducible rfl))); (try simp only [Act.put, List.getElem_toArray, List.getElem_cons_succ, List.getElem_cons_zero, List.setIfInBounds_toArray, List.set_cons_zero, List.set_cons_succ])
  refine wpAnyH_take (i := 3) (v := ?_) (by rfl) (by kernel_rfl) (by kernel_rfl) (by kernel_rfl) (fun _ _ _ h => h) (Or.inl ⟨by kernel_rfl, ?_⟩) (by assumption) ?_; rotate_left 1; (focus (intro w hSw; (try dsimp only at hSw); simp only [List.getElem_toArray, List.getElem_cons_succ, List.getElem_cons_zero]; all_goals go_simp; all_goals (try with_reducible rfl))); (try simp only [Act.put, List.getElem_toArray, List.getElem_cons_succ, List.getElem_cons_zero, List.setIfInBounds_toArray, List.set_cons_zero, List.set_cons_succ])
  refine wpAnyH_ready (rs := [2, 4]) (by kernel_rfl) (by simp) ?_
  refine AllReadyH.cons (by rfl) (fun K' hK => ?_) (AllReadyH.cons (by rfl) (fun K' hK => ?_) AllReadyH.nil)
  · rw [if_pos (by kernel_rfl)]; simp only [List.getElem_toArray, List.getElem_cons_succ, List.getElem_cons_zero]
    obtain ⟨wG, hrun, hown, hgrow⟩ := run_make_full (P := Tryz.prog) wD w.heap.size 115 171 i0 (.agg zsD.toArray) 107 Tryz.underlying115 HI.out.1 HI.out.2.1 HI.out.2.2.1 .i64 .i64 n (by rw [HI.out.2.2.2]; omega) (by unfold maxLen; omega) (Nat.le_trans HB.out.size HD.out.bel.size); obtain ⟨G, hG⟩ : ∃ G, wD.heap.size = G := ⟨_, rfl⟩; rw [hG] at hown hrun; have HwG := Lib.hid (HD.out.mkG G hG hown hgrow); clear hown hgrow hG; go_wp2_with fail; clear hrun
    refine hK.out _ _ trivial (fun hHeld => ?_); clear hK; (try simp only [Act.put, List.getElem_toArray, List.getElem_cons_succ, List.getElem_cons_zero, List.setIfInBounds_toArray, List.set_cons_zero, List.set_cons_succ])
    refine wpAnyH_ready (rs := [4]) (by kernel_rfl) (by simp) ?_; refine AllReadyH.cons (by rfl) (fun K hK => ?_) AllReadyH.nil; rw [if_pos (by kernel_rfl)]; simp only [List.getElem_toArray, List.getElem_cons_succ, List.getElem_cons_zero]
    obtain ⟨wQ, hrun, hown, hgrow⟩ := run_make_full (P := Tryz.prog) wG w.heap.size 116 135 i1 (.agg zsQ.toArray) 2 Tryz.underlying116 HJ.out.1 HJ.out.2.1 HJ.out.2.2.1 .i64 .i64 n (by rw [HJ.out.2.2.2]; omega) (by unfold maxLen; omega) (Nat.le_trans HB.out.size HwG.out.bel.size); obtain ⟨Q, hQ⟩ : ∃ Q, wG.heap.size = Q := ⟨_, rfl⟩; rw [hQ] at hown hrun; have HwQ := Lib.hid (HwG.out.mkQ Q hQ hown hgrow); clear hown hgrow hQ; go_wp2_with fail; clear hrun
    refine hK.out _ _ trivial (fun hHeld => ?_); clear hK; (try simp only [Act.put, List.getElem_toArray, List.getElem_cons_succ, List.getElem_cons_zero, List.setIfInBounds_toArray, List.set_cons_zero, List.set_cons_succ])
    refine wpAnyH_take (i := 5) (v := ?_) (by rfl) (by kernel_rfl) (by kernel_rfl) (by kernel_rfl) (fun _ _ _ h => h) (Or.inl ⟨by kernel_rfl, ?_⟩) (by assumption) ?_; rotate_left 1; (focus (intro w hSw; (try dsimp only at hSw); simp only [List.getElem_toArray, List.getElem_cons_succ, List.getElem_cons_zero]; all_goals go_simp; all_goals (try with_reducible rfl))); (try simp only [Act.put, List.getElem_toArray, List.getElem_cons_succ, List.getElem_cons_zero, List.setIfInBounds_toArray, List.set_cons_zero, List.set_cons_succ]); refine wpAnyH_ready (rs := [6]) (by kernel_rfl) (by simp) ?_; refine AllReadyH.cons (by rfl) (fun K hK => ?_) AllReadyH.nil; rw [if_pos (by kernel_rfl)]; simp only [List.getElem_toArray, List.getElem_cons_succ, List.getElem_cons_zero]; go_wp2_with fail; refine hK.out _ _ trivial (fun hHeld => ?_); clear hK; (try simp only [Act.put, List.getElem_toArray, List.getElem_cons_succ, List.getElem_cons_zero, List.setIfInBounds_toArray, List.set_cons_zero, List.set_cons_succ]); (try refine wpAnyH_take (i := 7) (v := ?_) (by rfl) (by kernel_rfl) (by kernel_rfl) (by kernel_rfl) (fun _ _ _ h => h) (Or.inl ⟨by kernel_rfl, ?_⟩) (by assumption) ?_; rotate_left 1; (focus (intro w hSw; (try dsimp only at hSw); simp only [List.getElem_toArray, List.getElem_cons_succ, List.getElem_cons_zero]; all_goals go_simp; all_goals (try with_reducible rfl))); (try simp only [Act.put, List.getElem_toArray, List.getElem_cons_succ, List.getElem_cons_zero, List.setIfInBounds_toArray, List.set_cons_zero, List.set_cons_succ])); (try refine wpAnyH_take (i := 8) (v := ?_) (by rfl) (by kernel_rfl) (by kernel_rfl) (by kernel_rfl) (fun _ _ _ h => h) (Or.inl ⟨by kernel_rfl, ?_⟩) (by assumption) ?_; rotate_left 1; (focus (intro w hSw; (try dsimp only at hSw); simp only [List.getElem_toArray, List.getElem_cons_succ, List.getElem_cons_zero]; all_goals go_simp; all_goals (try with_reducible rfl))); (try simp only [Act.put, List.getElem_toArray, List.getElem_cons_succ, List.getElem_cons_zero, List.setIfInBounds_toArray, List.set_cons_zero, List.set_cons_succ])); refine wpAnyH_done (by kernel_rfl) ?_ _; refine NoPanic.normal ?_; go_wp2_with fail; go_ret2; have hD := D0.done HA.out HB.out HwQ.out 118 rfl; exact ⟨_, _, _, _, _, rfl, hD.1, hD.2⟩
  · rw [if_pos (by kernel_rfl)]; simp only [List.getElem_toArray, List.getElem_cons_succ, List.getElem_cons_zero]
    obtain ⟨wQ, hrun, hown, hgrow⟩ := run_make_full (P := Tryz.prog) wD w.heap.size 116 135 i1 (.agg zsQ.toArray) 2 Tryz.underlying116 HJ.out.1 HJ.out.2.1 HJ.out.2.2.1 .i64 .i64 n (by rw [HJ.out.2.2.2]; omega) (by unfold maxLen; omega) (Nat.le_trans HB.out.size HD.out.bel.size); obtain ⟨Q, hQ⟩ : ∃ Q, wD.heap.size = Q := ⟨_, rfl⟩; rw [hQ] at hown hrun; have HwQ := Lib.hid (HD.out.mkQ Q hQ hown hgrow); clear hown hgrow hQ; go_wp2_with fail; clear hrun
    refine hK.out _ _ trivial (fun hHeld => ?_); clear hK; (try simp only [Act.put, List.getElem_toArray, List.getElem_cons_succ, List.getElem_cons_zero, List.setIfInBounds_toArray, List.set_cons_zero, List.set_cons_succ])
    refine wpAnyH_ready (rs := [2]) (by kernel_rfl) (by simp) ?_; refine AllReadyH.cons (by rfl) (fun K hK => ?_) AllReadyH.nil; rw [if_pos (by kernel_rfl)]; simp only [List.getElem_toArray, List.getElem_cons_succ, List.getElem_cons_zero]
    obtain ⟨wG, hrun, hown, hgrow⟩ := run_make_full (P := Tryz.prog) wQ w.heap.size 115 171 i0 (.agg zsD.toArray) 107 Tryz.underlying115 HI.out.1 HI.out.2.1 HI.out.2.2.1 .i64 .i64 n (by rw [HI.out.2.2.2]; omega) (by unfold maxLen; omega) (Nat.le_trans HB.out.size HwQ.out.bel.size); obtain ⟨G, hG⟩ : ∃ G, wQ.heap.size = G := ⟨_, rfl⟩; rw [hG] at hown hrun; have HwG := Lib.hid (HwQ.out.mkG G hG hown hgrow); clear hown hgrow hG; go_wp2_with fail; clear hrun
    refine hK.out _ _ trivial (fun hHeld => ?_); clear hK; (try simp only [Act.put, List.getElem_toArray, List.getElem_cons_succ, List.getElem_cons_zero, List.setIfInBounds_toArray, List.set_cons_zero, List.set_cons_succ])
    refine wpAnyH_take (i := 5) (v := ?_) (by rfl) (by kernel_rfl) (by kernel_rfl) (by kernel_rfl) (fun _ _ _ h => h) (Or.inl ⟨by kernel_rfl, ?_⟩) (by assumption) ?_; rotate_left 1; (focus (intro w hSw; (try dsimp only at hSw); simp only [List.getElem_toArray, List.getElem_cons_succ, List.getElem_cons_zero]; all_goals go_simp; all_goals (try with_reducible rfl))); (try simp only [Act.put, List.getElem_toArray, List.getElem_cons_succ, List.getElem_cons_zero, List.setIfInBounds_toArray, List.set_cons_zero, List.set_cons_succ]); refine wpAnyH_ready (rs := [6]) (by kernel_rfl) (by simp) ?_; refine AllReadyH.cons (by rfl) (fun K hK => ?_) AllReadyH.nil; rw [if_pos (by kernel_rfl)]; simp only [List.getElem_toArray, List.getElem_cons_succ, List.getElem_cons_zero]; go_wp2_with fail; refine hK.out _ _ trivial (fun hHeld => ?_); clear hK; (try simp only [Act.put, List.getElem_toArray, List.getElem_cons_succ, List.getElem_cons_zero, List.setIfInBounds_toArray, List.set_cons_zero, List.set_cons_succ]); (try refine wpAnyH_take (i := 7) (v := ?_) (by rfl) (by kernel_rfl) (by kernel_rfl) (by kernel_rfl) (fun _ _ _ h => h) (Or.inl ⟨by kernel_rfl, ?_⟩) (by assumption) ?_; rotate_left 1; (focus (intro w hSw; (try dsimp only at hSw); simp only [List.getElem_toArray, List.getElem_cons_succ, List.getElem_cons_zero]; all_goals go_simp; all_goals (try with_reducible rfl))); (try simp only [Act.put, List.getElem_toArray, List.getElem_cons_succ, List.getElem_cons_zero, List.setIfInBounds_toArray, List.set_cons_zero, List.set_cons_succ])); (try refine wpAnyH_take (i := 8) (v := ?_) (by rfl) (by kernel_rfl) (by kernel_rfl) (by kernel_rfl) (fun _ _ _ h => h) (Or.inl ⟨by kernel_rfl, ?_⟩) (by assumption) ?_; rotate_left 1; (focus (intro w hSw; (try dsimp only at hSw); simp only [List.getElem_toArray, List.getElem_cons_succ, List.getElem_cons_zero]; all_goals go_simp; all_goals (try with_reducible rfl))); (try simp only [Act.put, List.getElem_toArray, List.getElem_cons_succ, List.getElem_cons_zero, List.setIfInBounds_toArray, List.set_cons_zero, List.set_cons_succ])); refine wpAnyH_done (by kernel_rfl) ?_ _; refine NoPanic.normal ?_; go_wp2_with fail; go_ret2; have hD := D0.done HA.out HB.out HwG.out 118 rfl; exact ⟨_, _, _, _, _, rfl, hD.1, hD.2⟩
end Go.Proofs.YtncopdhhchmpeaaGreatDoor
namespace Go.Proofs.YtncopdhhchmpeaaGreatDoor
open Go.ChangeShapes Go.WideShapes Go.ChangeAt Go.RowKit
set_option linter.unusedVariables false
/-- The chain of x: at most f of it. -/
def chF (pr : Nat → Int) : Nat → Int → List Int
  | 0, _ => []
  | f + 1, x => if x < 0 then [] else x :: chF pr f (pr x.toNat)
theorem chF_neg (pr : Nat → Int) (f : Nat) (x : Int) (h : x < 0) : chF pr f x = [] := by
  cases f with
  | zero => rfl
  | succ f => simp [chF, h]
theorem chF_fuel (pr : Nat → Int) (j : Nat) (hpr : ∀ i, i ≤ j → -1 ≤ pr i ∧ pr i < i) : ∀ (f g : Nat) (x : Int), x ≤ j → x < f → x < g → chF pr f x = chF pr g x := by
  intro f
  induction f with
  | zero => intro g x _ h _; rw [chF_neg _ _ _ (by omega), chF_neg _ _ _ (by omega)]
  | succ f ih =>
    intro g x hx h1 h2
    cases g with
    | zero => rw [chF_neg _ _ _ (by omega), chF_neg _ _ _ (by omega)]
    | succ g =>
      unfold chF
      by_cases h0 : x < 0
      · rw [if_pos h0, if_pos h0]
      · rw [if_neg h0, if_neg h0]
        have h3 := hpr x.toNat (by omega)
        rw [ih g (pr x.toNat) (by omega) (by omega) (by omega)]
end Go.Proofs.YtncopdhhchmpeaaGreatDoor
namespace Go.Proofs.YtncopdhhchmpeaaGreatDoor
open Go.ChangeShapes Go.WideShapes Go.ChangeAt Go.RowKit
set_option linter.unusedVariables false
/-- Numbers that are read there. -/
def RN (w : World) (g d : Nat) (xs : List Int) : Prop := ∀ i, i < d → w.cell? ⟨g, i, none⟩ = some (.int .i64 (xs.getD i 0))
set_option maxRecDepth 100000 in
theorem six_no (g d c' : Nat) (xs : List Int) (v : Int) (hd : d ≤ 1000) (hno : Hid (∀ i, i < d → xs.getD i 0 ≠ v)) (w : World) (hr : RN w g d xs) :
    Calls Tryz.prog 103 #[.slice (some ⟨g, 0, none⟩) d c', .int .i64 v] w fun e w' => e = .returned (.int .i64 (-1)) ∧ w = w' := by
  have HR := Lib.hid hr
  clear hr
  go_enter Tryz.func103, Tryz.ntmps103
  go_wp2_with fail
  go_loop [8] (fun i => ∃ k : Nat, k ≤ d ∧ i = .int .i64 k) (fun i => d - (intOf i).toNat)
  case atStart => exact ⟨0, by omega, rfl⟩
  case round =>
    obtain ⟨k, hk, rfl⟩ := hrel
    by_cases hlt : k < d
    · have hc := HR.out k hlt
      have hne := hno.out k hlt
      generalize xs.getD k 0 = x at hc hne
      have hb : (v == x) = false := beq_eq_false_iff_ne.2 (Ne.symm hne)
      have k0 : (0 : Int) ≤ k := by omega
      have k1 : (k : Int) < d := by omega
      clear hne
      go_wp2_with fail
      go_round
      case rel => exact ⟨k + 1, by omega, by go_num⟩
      case measure => simp [intOf]; omega
    · obtain rfl : d = k := by omega
      have hdd : decide (d < d) = false := by simp
      go_wp2_with fail
      go_ret
      exact ⟨rfl, rfl⟩
set_option maxRecDepth 100000 in
theorem six_yes (g d c' q : Nat) (xs : List Int) (v : Int) (hd : d ≤ 1000) (hq : q < d) (hno : Hid (∀ i, i < q → xs.getD i 0 ≠ v)) (hyes : Hid (xs.getD q 0 = v)) (w : World) (hr : RN w g d xs) :
    Calls Tryz.prog 103 #[.slice (some ⟨g, 0, none⟩) d c', .int .i64 v] w fun e w' => e = .returned (.int .i64 q) ∧ w = w' := by
  have HR := Lib.hid hr
  clear hr
  go_enter Tryz.func103, Tryz.ntmps103
  go_wp2_with fail
  go_loop [8] (fun i => ∃ k : Nat, k ≤ q ∧ i = .int .i64 k) (fun i => d - (intOf i).toNat)
  case atStart => exact ⟨0, by omega, rfl⟩
  case round =>
    obtain ⟨k, hk, rfl⟩ := hrel
    have hc := HR.out k (by omega)
    have k0 : (0 : Int) ≤ k := by omega
    have k1 : (k : Int) < d := by omega
    by_cases hlt : k < q
    · have hne := hno.out k hlt
      generalize xs.getD k 0 = x at hc hne
      have hb : (v == x) = false := beq_eq_false_iff_ne.2 (Ne.symm hne)
      clear hne
      go_wp2_with fail
      go_round
      case rel => exact ⟨k + 1, by omega, by go_num⟩
      case measure => simp [intOf]; omega
    · obtain rfl : q = k := by omega
      rw [hyes.out] at hc
      have hb : (v == v) = true := beq_self_eq_true v
      go_wp2_with fail
      go_ret
      exact ⟨rfl, rfl⟩
theorem first_in (xs : List Int) (v : Int) : ∀ d, (∀ i, i < d → xs.getD i 0 ≠ v) ∨ ∃ q, q < d ∧ (∀ i, i < q → xs.getD i 0 ≠ v) ∧ xs.getD q 0 = v := by
  intro d
  induction d with
  | zero => exact .inl (fun i hi => by omega)
  | succ d ih =>
    rcases ih with h | ⟨q, h1, h2⟩
    · by_cases e : xs.getD d 0 = v
      · exact .inr ⟨d, by omega, h, e⟩
      · refine .inl (fun i hi => ?_)
        by_cases h3 : i = d
        · subst h3; exact e
        · exact h i (by omega)
    · exact .inr ⟨q, by omega, h2⟩
theorem scon_is (g d c' : Nat) (xs : List Int) (v : Int) (hd : d ≤ 1000) (b : Bool) (hb : Hid ((b = true) ↔ ∃ i, i < d ∧ xs.getD i 0 = v)) (w : World) (hr : RN w g d xs) :
    Calls Tryz.prog 71 #[.slice (some ⟨g, 0, none⟩) d c', .int .i64 v] w fun e w' => e = .returned (.bool b) ∧ w = w' := by
  rcases first_in xs v d with h | ⟨q, h1, h2, h3⟩
  · have HC := Lib.hid (six_no g d c' xs v hd (Lib.hid h) w hr)
    obtain rfl : b = false := by
      cases b
      · rfl
      · obtain ⟨i, h4, h5⟩ := hb.out.1 rfl
        exact absurd h5 (h i h4)
    clear hr h hb
    go_enter Tryz.func71, Tryz.ntmps71
    go_wp2_with (first | (go_at_call 103; (with_reducible refine HC.out.mono ?_); rintro e w1 ⟨rfl, rfl⟩))
    go_ret
    exact ⟨rfl, rfl⟩
  · have HC := Lib.hid (six_yes g d c' q xs v hd h1 (Lib.hid h2) (Lib.hid h3) w hr)
    obtain rfl : b = true := hb.out.2 ⟨q, h1, h3⟩
    have q0 : decide ((0 : Int) ≤ (q : Int)) = true := decide_eq_true (by omega)
    clear hr h2 h3 hb
    go_enter Tryz.func71, Tryz.ntmps71
    go_wp2_with (first | (go_at_call 103; (with_reducible refine HC.out.mono ?_); rintro e w1 ⟨rfl, rfl⟩))
    go_ret
    exact ⟨rfl, rfl⟩
end Go.Proofs.YtncopdhhchmpeaaGreatDoor
namespace Go.Proofs.YtncopdhhchmpeaaGreatDoor
open Go.ChangeShapes Go.WideShapes Go.ChangeAt Go.RowKit
set_option linter.unusedVariables false
/-- The cells of a bank's account, of a title. -/
def acS (pr us lm : Nat → Int) : Nat → Nat → Value := fun i b => if b = 0 then .int .i64 (pr i) else if b = 1 then .int .i64 (us i) else .int .i64 (lm i)
def tiS (ow vn : Nat → Int) : Nat → Nat → Value := fun i b => if b = 0 then .int .i64 (ow i) else .int .i64 (vn i)
/-- Which blocks are unlike. -/
structure BkNe (P p B A G1 G2 G3 : Nat) : Prop where
  PB : P ≠ B
  PA : P ≠ A
  P1 : P ≠ G1
  P2 : P ≠ G2
  P3 : P ≠ G3
  pA : p ≠ A
  p1 : p ≠ G1
  p2 : p ≠ G2
  p3 : p ≠ G3
  AB : A ≠ B
  A1 : A ≠ G1
  A2 : A ≠ G2
  A3 : A ≠ G3
  B1 : B ≠ G1
  B2 : B ≠ G2
  B3 : B ≠ G3
  g12 : G1 ≠ G2
  g13 : G1 ≠ G3
  g23 : G2 ≠ G3
/-- A row of so many places of so many cells. -/
def RowS (w : World) (base : Nat) (T : TypeId) (s G n : Nat) (W : Nat → Nat → Value) : Prop := w.ownsRow base T s (.slice (some ⟨G, 0, none⟩) n n) n (flatS s W n)
theorem RowS.lt {w : World} {base : Nat} {T : TypeId} {s G n : Nat} {W : Nat → Nat → Value} (h : RowS w base T s G n W) : base ≤ G ∧ G < w.heap.size := World.ownsRow.lt h G rfl
theorem RowS.same {w w' : World} {base : Nat} {T : TypeId} {s G n : Nat} {W : Nat → Nat → Value} (h : RowS w base T s G n W) (hb : w'.heap[G]? = w.heap[G]?) : RowS w' base T s G n W := by
  refine ⟨h.1, ?_⟩
  rcases h.2 with hn | ⟨g', cap, cur, e', hB, hg, rest⟩
  · exact .inl hn
  · refine .inr ⟨g', cap, cur, e', hB, ?_, rest⟩
    simp at e'
    rw [← e'.1, hb, e'.1]; exact hg
theorem RowS.at {w : World} {base : Nat} {T : TypeId} {s G n : Nat} {W : Nat → Nat → Value} (h : RowS w base T s G n W) (i j : Nat) (hi : i < n) (hj : j < s) : w.cell? ⟨G, i * s + j, none⟩ = some (W i j) := by
  rw [World.ownsRow.cellAt h (i * s + j) (mid_lt hi hj), flatS_at s W n i j hi hj]
theorem RowS.fr {w : World} {base : Nat} {T : TypeId} {s G n : Nat} {W : Nat → Nat → Value} (h : RowS w base T s G n W) (j : Nat) : w.frozen? ⟨G, j, none⟩ = false := World.ownsRow.frozenAt h j
theorem RowS.congr {w : World} {base : Nat} {T : TypeId} {s G n : Nat} {W W' : Nat → Nat → Value} (h : RowS w base T s G n W) (h0 : 0 < s) (hw : ∀ i j, i < n → j < s → W i j = W' i j) : RowS w base T s G n W' := by
  unfold RowS
  rw [← flatS_congr s W W' n h0 hw]
  exact h
theorem RowS.set {w : World} {base : Nat} {T : TypeId} {s G n : Nat} {W : Nat → Nat → Value} (h : RowS w base T s G n W) (i j : Nat) (hi : i < n) (hj : j < s) (u : Value) : RowS (w.setCell ⟨G, i * s + j, none⟩ u) base T s G n (updS W i j [u]) ∧ w.grownBy (w.setCell ⟨G, i * s + j, none⟩ u) (some G) := by
  have hs := own_setCells [u] (i * s + j) _ _ h
  rw [flatS_over s W n i j [u] hi (by simp; omega)] at hs
  exact hs
theorem updS_acP (pr us lm : Nat → Int) (i : Nat) (x : Int) : ∀ a b, b < 3 → updS (acS pr us lm) i 0 [.int .i64 x] a b = acS (upd pr i x) us lm a b := by
  intro a b hb
  unfold updS acS upd
  rcases (show b = 0 ∨ b = 1 ∨ b = 2 by omega) with rfl | rfl | rfl <;> by_cases e : a = i <;> simp [e]
theorem updS_acU (pr us lm : Nat → Int) (i : Nat) (x : Int) : ∀ a b, b < 3 → updS (acS pr us lm) i 1 [.int .i64 x] a b = acS pr (upd us i x) lm a b := by
  intro a b hb
  unfold updS acS upd
  rcases (show b = 0 ∨ b = 1 ∨ b = 2 by omega) with rfl | rfl | rfl <;> by_cases e : a = i <;> simp [e]
theorem updS_acL (pr us lm : Nat → Int) (i : Nat) (x : Int) : ∀ a b, b < 3 → updS (acS pr us lm) i 2 [.int .i64 x] a b = acS pr us (upd lm i x) a b := by
  intro a b hb
  unfold updS acS upd
  rcases (show b = 0 ∨ b = 1 ∨ b = 2 by omega) with rfl | rfl | rfl <;> by_cases e : a = i <;> simp [e]
theorem updS_ti0 (ow vn : Nat → Int) (i : Nat) (x : Int) : ∀ a b, b < 2 → updS (tiS ow vn) i 0 [.int .i64 x] a b = tiS (upd ow i x) vn a b := by
  intro a b hb
  unfold updS tiS upd
  rcases (show b = 0 ∨ b = 1 by omega) with rfl | rfl <;> by_cases e : a = i <;> simp [e]
theorem updS_ti1 (ow vn : Nat → Int) (i : Nat) (x : Int) : ∀ a b, b < 2 → updS (tiS ow vn) i 1 [.int .i64 x] a b = tiS ow (upd vn i x) a b := by
  intro a b hb
  unfold updS tiS upd
  rcases (show b = 0 ∨ b = 1 by omega) with rfl | rfl <;> by_cases e : a = i <;> simp [e]
/-- Banks at block P: their arena, accounts at A, whose the nodes, pages, domains are. -/
structure BkAt (w : World) (base P p B A G1 G2 G3 n c mb db : Nat) (th : Nat → Bool) (vr pr us lm o1 v1 o2 v2 o3 v3 : Nat → Int) : Prop where
  pl : P < w.heap.size
  pb : base ≤ P
  f0 : w.cell? ⟨P, 0, none⟩ = some (.pointer (some ⟨p, 0, none⟩))
  f1 : w.cell? ⟨P, 1, none⟩ = some (.pointer (some ⟨mb, 0, none⟩))
  f2 : w.cell? ⟨P, 2, none⟩ = some (.pointer (some ⟨db, 0, none⟩))
  f3 : w.cell? ⟨P, 3, none⟩ = some (.slice (some ⟨A, 0, none⟩) n n)
  f4 : w.cell? ⟨P, 4, none⟩ = some (.slice (some ⟨G1, 0, none⟩) 256 256)
  f5 : w.cell? ⟨P, 5, none⟩ = some (.slice (some ⟨G2, 0, none⟩) 256 256)
  f6 : w.cell? ⟨P, 6, none⟩ = some (.slice (some ⟨G3, 0, none⟩) 256 256)
  ar : ArAt w base p B n c th vr
  ac : RowS w base 124 3 A n (acS pr us lm)
  t1 : RowS w base 158 2 G1 256 (tiS o1 v1)
  t2 : RowS w base 158 2 G2 256 (tiS o2 v2)
  t3 : RowS w base 158 2 G3 256 (tiS o3 v3)
  ne : BkNe P p B A G1 G2 G3
section
variable {w w' : World}
theorem BkAt.keep {base P p B A G1 G2 G3 n c mb db : Nat} {th : Nat → Bool} {vr pr us lm o1 v1 o2 v2 o3 v3 : Nat → Int} (h : (BkAt w base P p B A G1 G2 G3 n c mb db th vr pr us lm o1 v1 o2 v2 o3 v3)) (hs : w.heap.size ≤ w'.heap.size) (hP : w'.heap[P]? = w.heap[P]?) {th' : Nat → Bool} {vr' pr' us' lm' o1' v1' o2' v2' o3' v3' : Nat → Int} (hr : ArAt w' base p B n c th' vr') (ha : RowS w' base 124 3 A n (acS pr' us' lm')) (h1 : RowS w' base 158 2 G1 256 (tiS o1' v1')) (h2 : RowS w' base 158 2 G2 256 (tiS o2' v2')) (h3 : RowS w' base 158 2 G3 256 (tiS o3' v3')) : BkAt w' base P p B A G1 G2 G3 n c mb db th' vr' pr' us' lm' o1' v1' o2' v2' o3' v3' :=
  ⟨Nat.lt_of_lt_of_le h.pl hs, h.pb, (World.cell?_of_block (a := ⟨P, 0, none⟩) hP).trans h.f0, (World.cell?_of_block (a := ⟨P, 1, none⟩) hP).trans h.f1, (World.cell?_of_block (a := ⟨P, 2, none⟩) hP).trans h.f2, (World.cell?_of_block (a := ⟨P, 3, none⟩) hP).trans h.f3, (World.cell?_of_block (a := ⟨P, 4, none⟩) hP).trans h.f4, (World.cell?_of_block (a := ⟨P, 5, none⟩) hP).trans h.f5, (World.cell?_of_block (a := ⟨P, 6, none⟩) hP).trans h.f6, hr, ha, h1, h2, h3, h.ne⟩
theorem ArAt.same2 {base p B n c : Nat} {th : Nat → Bool} {vr : Nat → Int} (h : ArAt w base p B n c th vr) (hs : w.heap.size ≤ w'.heap.size) (h1 : w'.heap[p]? = w.heap[p]?) (h2 : w'.heap[B]? = w.heap[B]?) : ArAt w' base p B n c th vr := by
  refine ⟨Nat.lt_of_lt_of_le h.pl hs, h.pb, (World.cell?_of_block (a := ⟨p, 0, none⟩) h1).trans h.fld, ?_, h.ne, h.le⟩
  refine ⟨h.own.1, ?_⟩
  rcases h.own.2 with hn | ⟨g', cap, cur, e', hB, hg, rest⟩
  · exact .inl hn
  · refine .inr ⟨g', cap, cur, e', hB, ?_, rest⟩
    simp at e'
    rw [← e'.1, h2, e'.1]; exact hg
theorem BkAt.same {base P p B A G1 G2 G3 n c mb db : Nat} {th : Nat → Bool} {vr pr us lm o1 v1 o2 v2 o3 v3 : Nat → Int} (h : (BkAt w base P p B A G1 G2 G3 n c mb db th vr pr us lm o1 v1 o2 v2 o3 v3)) (hs : w.heap.size ≤ w'.heap.size) (hk : ∀ k, base ≤ k → k < w.heap.size → w'.heap[k]? = w.heap[k]?) : (BkAt w' base P p B A G1 G2 G3 n c mb db th vr pr us lm o1 v1 o2 v2 o3 v3) :=
  h.keep hs (hk P h.pb h.pl) (h.ar.same2 hs (hk p h.ar.pb h.ar.pl) (hk B h.ar.lt.1 h.ar.lt.2)) (h.ac.same (hk A h.ac.lt.1 h.ac.lt.2)) (h.t1.same (hk G1 h.t1.lt.1 h.t1.lt.2)) (h.t2.same (hk G2 h.t2.lt.1 h.t2.lt.2)) (h.t3.same (hk G3 h.t3.lt.1 h.t3.lt.2))
theorem BkAt.below {base P p B A G1 G2 G3 n c mb db : Nat} {th : Nat → Bool} {vr pr us lm o1 v1 o2 v2 o3 v3 : Nat → Int} (h : (BkAt w base P p B A G1 G2 G3 n c mb db th vr pr us lm o1 v1 o2 v2 o3 v3)) (hb : Below w.heap.size w w') : (BkAt w' base P p B A G1 G2 G3 n c mb db th vr pr us lm o1 v1 o2 v2 o3 v3) := h.same hb.size (fun k _ hk => hb.block k hk)
/-- The arena's row was written. -/
theorem BkAt.turn {base P p B A G1 G2 G3 n c mb db : Nat} {th : Nat → Bool} {vr pr us lm o1 v1 o2 v2 o3 v3 : Nat → Int} (h : (BkAt w base P p B A G1 G2 G3 n c mb db th vr pr us lm o1 v1 o2 v2 o3 v3)) {th' : Nat → Bool} {vr' : Nat → Int} (hA : ArAt w' base p B n c th' vr') (hg : w.grownBy w' (some B)) : BkAt w' base P p B A G1 G2 G3 n c mb db th' vr' pr us lm o1 v1 o2 v2 o3 v3 := by
  have k : ∀ x, x < w.heap.size → x ≠ B → w'.heap[x]? = w.heap[x]? := fun x hx hn => hg.block x hx (fun e => hn (by injection e))
  exact h.keep hg.size (k P h.pl h.ne.PB) hA (h.ac.same (k A h.ac.lt.2 h.ne.AB)) (h.t1.same (k G1 h.t1.lt.2 (Ne.symm h.ne.B1))) (h.t2.same (k G2 h.t2.lt.2 (Ne.symm h.ne.B2))) (h.t3.same (k G3 h.t3.lt.2 (Ne.symm h.ne.B3)))
theorem BkAt.acc {base P p B A G1 G2 G3 n c mb db : Nat} {th : Nat → Bool} {vr pr us lm o1 v1 o2 v2 o3 v3 : Nat → Int} (h : (BkAt w base P p B A G1 G2 G3 n c mb db th vr pr us lm o1 v1 o2 v2 o3 v3)) {pr' us' lm' : Nat → Int} (ha : RowS w' base 124 3 A n (acS pr' us' lm')) (hg : w.grownBy w' (some A)) : BkAt w' base P p B A G1 G2 G3 n c mb db th vr pr' us' lm' o1 v1 o2 v2 o3 v3 := by
  have k : ∀ x, x < w.heap.size → x ≠ A → w'.heap[x]? = w.heap[x]? := fun x hx hn => hg.block x hx (fun e => hn (by injection e))
  exact h.keep hg.size (k P h.pl h.ne.PA) (h.ar.same2 hg.size (k p h.ar.pl h.ne.pA) (k B h.ar.lt.2 (Ne.symm h.ne.AB))) ha (h.t1.same (k G1 h.t1.lt.2 (Ne.symm h.ne.A1))) (h.t2.same (k G2 h.t2.lt.2 (Ne.symm h.ne.A2))) (h.t3.same (k G3 h.t3.lt.2 (Ne.symm h.ne.A3)))
theorem BkAt.ti1 {base P p B A G1 G2 G3 n c mb db : Nat} {th : Nat → Bool} {vr pr us lm o1 v1 o2 v2 o3 v3 : Nat → Int} (h : (BkAt w base P p B A G1 G2 G3 n c mb db th vr pr us lm o1 v1 o2 v2 o3 v3)) {o1' v1' : Nat → Int} (ha : RowS w' base 158 2 G1 256 (tiS o1' v1')) (hg : w.grownBy w' (some G1)) : BkAt w' base P p B A G1 G2 G3 n c mb db th vr pr us lm o1' v1' o2 v2 o3 v3 := by
  have k : ∀ x, x < w.heap.size → x ≠ G1 → w'.heap[x]? = w.heap[x]? := fun x hx hn => hg.block x hx (fun e => hn (by injection e))
  exact h.keep hg.size (k P h.pl h.ne.P1) (h.ar.same2 hg.size (k p h.ar.pl h.ne.p1) (k B h.ar.lt.2 h.ne.B1)) (h.ac.same (k A h.ac.lt.2 h.ne.A1)) ha (h.t2.same (k G2 h.t2.lt.2 (Ne.symm h.ne.g12))) (h.t3.same (k G3 h.t3.lt.2 (Ne.symm h.ne.g13)))
theorem BkAt.ti2 {base P p B A G1 G2 G3 n c mb db : Nat} {th : Nat → Bool} {vr pr us lm o1 v1 o2 v2 o3 v3 : Nat → Int} (h : (BkAt w base P p B A G1 G2 G3 n c mb db th vr pr us lm o1 v1 o2 v2 o3 v3)) {o2' v2' : Nat → Int} (ha : RowS w' base 158 2 G2 256 (tiS o2' v2')) (hg : w.grownBy w' (some G2)) : BkAt w' base P p B A G1 G2 G3 n c mb db th vr pr us lm o1 v1 o2' v2' o3 v3 := by
  have k : ∀ x, x < w.heap.size → x ≠ G2 → w'.heap[x]? = w.heap[x]? := fun x hx hn => hg.block x hx (fun e => hn (by injection e))
  exact h.keep hg.size (k P h.pl h.ne.P2) (h.ar.same2 hg.size (k p h.ar.pl h.ne.p2) (k B h.ar.lt.2 h.ne.B2)) (h.ac.same (k A h.ac.lt.2 h.ne.A2)) (h.t1.same (k G1 h.t1.lt.2 h.ne.g12)) ha (h.t3.same (k G3 h.t3.lt.2 (Ne.symm h.ne.g23)))
theorem BkAt.ti3 {base P p B A G1 G2 G3 n c mb db : Nat} {th : Nat → Bool} {vr pr us lm o1 v1 o2 v2 o3 v3 : Nat → Int} (h : (BkAt w base P p B A G1 G2 G3 n c mb db th vr pr us lm o1 v1 o2 v2 o3 v3)) {o3' v3' : Nat → Int} (ha : RowS w' base 158 2 G3 256 (tiS o3' v3')) (hg : w.grownBy w' (some G3)) : BkAt w' base P p B A G1 G2 G3 n c mb db th vr pr us lm o1 v1 o2 v2 o3' v3' := by
  have k : ∀ x, x < w.heap.size → x ≠ G3 → w'.heap[x]? = w.heap[x]? := fun x hx hn => hg.block x hx (fun e => hn (by injection e))
  exact h.keep hg.size (k P h.pl h.ne.P3) (h.ar.same2 hg.size (k p h.ar.pl h.ne.p3) (k B h.ar.lt.2 h.ne.B3)) (h.ac.same (k A h.ac.lt.2 h.ne.A3)) (h.t1.same (k G1 h.t1.lt.2 h.ne.g13)) (h.t2.same (k G2 h.t2.lt.2 h.ne.g23)) ha
theorem low_of {base g : Nat} (hg : w.grownBy w' (some g)) (h1 : base ≤ g) (h2 : base ≤ w.heap.size) : Below base w w' := ⟨hg.os, hg.tape, hg.output, hg.size, fun k hk => hg.block k (by omega) (fun e => by injection e with e; omega)⟩
/-- An account's field anew. -/
theorem BkAt.setU {base P p B A G1 G2 G3 n c mb db : Nat} {th : Nat → Bool} {vr pr us lm o1 v1 o2 v2 o3 v3 : Nat → Int} (h : (BkAt w base P p B A G1 G2 G3 n c mb db th vr pr us lm o1 v1 o2 v2 o3 v3)) (i : Nat) (hi : i < n) (x : Int) : BkAt (w.setCell ⟨A, i * 3 + 1, none⟩ (.int .i64 x)) base P p B A G1 G2 G3 n c mb db th vr pr (upd us i x) lm o1 v1 o2 v2 o3 v3 ∧ w.grownBy (w.setCell ⟨A, i * 3 + 1, none⟩ (.int .i64 x)) (some A) := by
  have hs := h.ac.set i 1 hi (by decide) (.int .i64 x)
  exact ⟨h.acc (hs.1.congr (by decide) (fun a b _ hb => updS_acU _ _ _ _ _ a b hb)) hs.2, hs.2⟩
theorem BkAt.setP {base P p B A G1 G2 G3 n c mb db : Nat} {th : Nat → Bool} {vr pr us lm o1 v1 o2 v2 o3 v3 : Nat → Int} (h : (BkAt w base P p B A G1 G2 G3 n c mb db th vr pr us lm o1 v1 o2 v2 o3 v3)) (i : Nat) (hi : i < n) (x : Int) : BkAt (w.setCell ⟨A, i * 3, none⟩ (.int .i64 x)) base P p B A G1 G2 G3 n c mb db th vr (upd pr i x) us lm o1 v1 o2 v2 o3 v3 ∧ w.grownBy (w.setCell ⟨A, i * 3, none⟩ (.int .i64 x)) (some A) := by
  have hs := h.ac.set i 0 hi (by decide) (.int .i64 x)
  rw [Nat.add_zero] at hs
  exact ⟨h.acc (hs.1.congr (by decide) (fun a b _ hb => updS_acP _ _ _ _ _ a b hb)) hs.2, hs.2⟩
theorem BkAt.setL {base P p B A G1 G2 G3 n c mb db : Nat} {th : Nat → Bool} {vr pr us lm o1 v1 o2 v2 o3 v3 : Nat → Int} (h : (BkAt w base P p B A G1 G2 G3 n c mb db th vr pr us lm o1 v1 o2 v2 o3 v3)) (i : Nat) (hi : i < n) (x : Int) : BkAt (w.setCell ⟨A, i * 3 + 2, none⟩ (.int .i64 x)) base P p B A G1 G2 G3 n c mb db th vr pr us (upd lm i x) o1 v1 o2 v2 o3 v3 ∧ w.grownBy (w.setCell ⟨A, i * 3 + 2, none⟩ (.int .i64 x)) (some A) := by
  have hs := h.ac.set i 2 hi (by decide) (.int .i64 x)
  exact ⟨h.acc (hs.1.congr (by decide) (fun a b _ hb => updS_acL _ _ _ _ _ a b hb)) hs.2, hs.2⟩
theorem RowS.title {base G : Nat} {ow vn : Nat → Int} (h : RowS w base 158 2 G 256 (tiS ow vn)) (i : Nat) (hi : i < 256) (x y : Int) : RowS ((w.setCell ⟨G, i * 2, none⟩ (.int .i64 x)).setCell ⟨G, i * 2 + 1, none⟩ (.int .i64 y)) base 158 2 G 256 (tiS (upd ow i x) (upd vn i y)) ∧ w.grownBy ((w.setCell ⟨G, i * 2, none⟩ (.int .i64 x)).setCell ⟨G, i * 2 + 1, none⟩ (.int .i64 y)) (some G) := by
  have h1 := h.set i 0 hi (by decide) (.int .i64 x)
  rw [Nat.add_zero] at h1
  have h2 := (h1.1.congr (by decide) (fun a b _ hb => updS_ti0 _ _ _ _ a b hb)).set i 1 hi (by decide) (.int .i64 y)
  exact ⟨h2.1.congr (by decide) (fun a b _ hb => updS_ti1 _ _ _ _ a b hb), grown_more h1.2 h2.2⟩
theorem BkAt.ac0 {base P p B A G1 G2 G3 n c mb db : Nat} {th : Nat → Bool} {vr pr us lm o1 v1 o2 v2 o3 v3 : Nat → Int} (h : (BkAt w base P p B A G1 G2 G3 n c mb db th vr pr us lm o1 v1 o2 v2 o3 v3)) (i : Nat) (hi : i < n) : w.cell? ⟨A, i * 3, none⟩ = some (.int .i64 (pr i)) := by have := h.ac.at i 0 hi (by decide); simpa [acS] using this
theorem BkAt.ac1 {base P p B A G1 G2 G3 n c mb db : Nat} {th : Nat → Bool} {vr pr us lm o1 v1 o2 v2 o3 v3 : Nat → Int} (h : (BkAt w base P p B A G1 G2 G3 n c mb db th vr pr us lm o1 v1 o2 v2 o3 v3)) (i : Nat) (hi : i < n) : w.cell? ⟨A, i * 3 + 1, none⟩ = some (.int .i64 (us i)) := by have := h.ac.at i 1 hi (by decide); simpa [acS] using this
theorem BkAt.ac2 {base P p B A G1 G2 G3 n c mb db : Nat} {th : Nat → Bool} {vr pr us lm o1 v1 o2 v2 o3 v3 : Nat → Int} (h : (BkAt w base P p B A G1 G2 G3 n c mb db th vr pr us lm o1 v1 o2 v2 o3 v3)) (i : Nat) (hi : i < n) : w.cell? ⟨A, i * 3 + 2, none⟩ = some (.int .i64 (lm i)) := by have := h.ac.at i 2 hi (by decide); simpa [acS] using this
theorem RowS.ti {base G : Nat} {ow vn : Nat → Int} (h : RowS w base 158 2 G 256 (tiS ow vn)) (i : Nat) (hi : i < 256) : w.cell? ⟨G, i * 2, none⟩ = some (.int .i64 (ow i)) ∧ w.cell? ⟨G, i * 2 + 1, none⟩ = some (.int .i64 (vn i)) := by
  have h0 := h.at i 0 hi (by decide)
  have h1 := h.at i 1 hi (by decide)
  exact ⟨by simpa [tiS] using h0, by simpa [tiS] using h1⟩
end
end Go.Proofs.YtncopdhhchmpeaaGreatDoor
namespace Go.Proofs.YtncopdhhchmpeaaGreatDoor
open Go.ChangeShapes Go.WideShapes Go.ChangeAt Go.RowKit
set_option linter.unusedVariables false
/-- The banks from number x up. -/
def chL (pr : Nat → Int) (x : Int) : List Int := chF pr 300 x
/-- Parents stand below. -/
def PrOk (nb : Nat) (pr : Nat → Int) : Prop := ∀ i, i < nb → -1 ≤ pr i ∧ pr i < (i : Int)
theorem chL_neg (pr : Nat → Int) (x : Int) (h : x < 0) : chL pr x = [] := chF_neg pr 300 x h
theorem chL_cons {nb : Nat} {pr : Nat → Int} (hp : PrOk nb pr) (q : Nat) (hq : q < nb) (hb : nb ≤ 256) : chL pr (q : Int) = (q : Int) :: chL pr (pr q) := by
  have h := hp q hq
  have e1 : ∀ f : Nat, chF pr (f + 1) (q : Int) = (q : Int) :: chF pr f (pr q) := fun f => by
    rw [chF, if_neg (by omega), Int.toNat_natCast]
  have e2 := e1 299
  unfold chL
  rw [show (300 : Nat) = 299 + 1 from rfl, e2, chF_fuel pr q (fun i hi => hp i (by omega)) 299 (299 + 1) (pr q) (by omega) (by omega) (by omega)]
theorem chL_bound {nb : Nat} {pr : Nat → Int} (hp : PrOk nb pr) (hb : nb ≤ 256) : ∀ (q : Nat) (y : Int), y < q → q ≤ nb → (chL pr y).length ≤ q ∧ ∀ z, z ∈ chL pr y → 0 ≤ z ∧ z ≤ y := by
  intro q
  induction q with
  | zero => intro y hy _; rw [chL_neg pr y (by omega)]; exact ⟨Nat.le_refl _, fun z hz => by cases hz⟩
  | succ q ih =>
    intro y hy hq
    by_cases h0 : y < 0
    · rw [chL_neg pr y h0]; exact ⟨by simp, fun z hz => by cases hz⟩
    · obtain ⟨k, rfl⟩ : ∃ k : Nat, y = k := ⟨y.toNat, by omega⟩
      have h := hp k (by omega)
      rw [chL_cons hp k (by omega) hb]
      have h2 := ih (pr k) (by omega) (by omega)
      refine ⟨by simp; exact h2.1, fun z hz => ?_⟩
      rcases List.mem_cons.1 hz with rfl | hz
      · omega
      · have := h2.2 z hz; omega
theorem infoIntB : (Tryz.prog.info? 3).map (fun i => (i.zero, i.size, i.bytes)) = some (some (.int .i64 0), 1, 8) := by kernel_rfl
set_option maxRecDepth 100000 in
set_option maxHeartbeats 1000000 in
theorem bchain_is {base P p B A G1 G2 G3 n c mb db : Nat} {th : Nat → Bool} {vr pr us lm o1 v1 o2 v2 o3 v3 : Nat → Int} (y0 : Int) (nb : Nat) (hy0 : -1 ≤ y0) (hy1 : y0 < nb) (hnb : nb ≤ n) (hth : Hid (∀ i, i < nb → th i = true)) (hpr : Hid (PrOk nb pr)) (w : World) (h : (BkAt w base P p B A G1 G2 G3 n c mb db th vr pr us lm o1 v1 o2 v2 o3 v3)) :
    Calls Tryz.prog 77 #[.pointer (some ⟨P, 0, none⟩), .int .i64 y0] w fun e w' => ∃ v, e = .returned v ∧ w'.ownsRow w.heap.size 3 1 v (chL pr y0).length ((chL pr y0).map (Value.int .i64)) ∧ Below w.heap.size w w' := by
  have H := Lib.hid h
  have hn := h.ar.le
  obtain ⟨i0, hi, hz0, hz1, hz2⟩ := info_parts infoIntB
  have HI := Lib.hid (⟨hi, hz0, hz1, hz2⟩ : Tryz.prog.info? 3 = some i0 ∧ i0.zero = some (.int .i64 0) ∧ i0.size = 1 ∧ i0.bytes = 8)
  obtain ⟨LL, HLL⟩ : ∃ LL, Hid (chL pr y0 = LL) := ⟨_, Lib.hid rfl⟩
  have hLn : LL.length ≤ nb := by rw [← HLL.out]; exact (chL_bound hpr.out (by omega) nb y0 (by omega) (Nat.le_refl _)).1
  rw [HLL.out]
  clear h hi hz0 hz1 hz2
  go_enter Tryz.func77, Tryz.ntmps77
  go_wp2_with fail
  go_loopw [1, 5] (fun x v wr => ∃ (y : Int) (xs : List Int), x = .int .i64 y ∧ -1 ≤ y ∧ y < nb ∧ Hid (xs ++ chL pr y = LL) ∧ wr.ownsRow w.heap.size 3 1 v xs.length (xs.map (Value.int .i64)) ∧ Below w.heap.size w wr) (fun x _ _ => (intOf x + 1).toNat)
  case atStart => exact ⟨y0, [], rfl, by omega, by omega, Lib.hid (by simpa using HLL.out), World.ownsRow_nil _ _ _ _, Below.refl _ _⟩
  case round =>
    obtain ⟨y, xs, rfl, hy0, hy1, HE, hown, hbel⟩ := hrel
    have HW := Lib.hid hown
    have HL := Lib.hid hbel
    have HM := Lib.hid (H.out.below hbel)
    have f0 := HM.out.f0
    have f3 := HM.out.f3
    have hxs : xs.length ≤ nb := by have := HE.out; rw [← this] at hLn; simp at hLn; omega
    clear hown hbel
    by_cases hlt : 0 ≤ y
    · obtain ⟨q, rfl⟩ : ∃ q : Nat, y = q := ⟨y.toNat, by omega⟩
      have hqj : q < nb := by omega
      obtain ⟨r, HR⟩ : ∃ r, Hid (pr q = r) := ⟨_, Lib.hid rfl⟩
      have hr := hpr.out q hqj
      rw [HR.out] at hr
      obtain ⟨hr0, hr1⟩ := hr
      have c0 := HM.out.ac0 q (by omega)
      rw [HR.out] at c0
      have HT := Lib.hid (hth.out q hqj)
      have HE2 : Hid ((xs ++ [(q : Int)]) ++ chL pr r = LL) := Lib.hid (by
        rw [← HE.out, ← HR.out, chL_cons hpr.out q hqj (by omega)]
        simp)
      obtain ⟨nl, HNL⟩ : ∃ nl, Hid (xs.length = nl) := ⟨_, Lib.hid rfl⟩
      have hnl : nl ≤ 256 := by have := HNL.out; omega
      rw [HNL.out] at HW
      have k0 : (0 : Int) ≤ q := by omega
      have k1 : (q : Int) < n := by omega
      clear HE
      go_wp2_with (first
        | (go_at_call 63; (with_reducible refine (athere_in q (by omega) true HT _ HM.out.ar).mono ?_); rintro e w1 ⟨rfl, rfl⟩)
        | (at_builtin; refine wpList_append_own _ rfl _ _ 57 rfl w.heap.size 3 i0 (.int .i64 0) 1 8 Tryz.underlying57 HI.out.1 HI.out.2.1 HI.out.2.2.1 HI.out.2.2.2 rfl (by decide) _ _ _ rfl (HW.out.alloc _) ⟨wr.heap.size, 0, none⟩ 1 1 [.int .i64 q] rfl rfl (cell_one_new _ _ _) (ints_oneCell .i64 [(q : Int)]) (by unfold maxLen; omega) (by omega) (by have := HL.out.size; simp; omega) ?_; intro v' w2 hown' hgrow' _; have HB2 : Hid (Below w.heap.size w w2) := Lib.hid ((HL.out.alloc HL.out.size _).grown hgrow' (by have := HL.out.size; simp; omega) (fun g hg => (HW.out.lt g hg).1)); have HO2 : Hid (w2.ownsRow w.heap.size 3 1 v' (nl + 1) ((xs ++ [(q : Int)]).map (Value.int .i64))) := Lib.hid (by rw [List.map_append]; exact hown'); have HM2 := Lib.hid (H.out.below HB2.out); have f0' := HM2.out.f0; have f3' := HM2.out.f3; have c0' := HM2.out.ac0 q (by omega); rw [HR.out] at c0'; clear hown' hgrow' f0 f3 c0))
      go_roundw
      case rel => exact ⟨r, xs ++ [(q : Int)], rfl, by omega, by omega, HE2, by rw [show (xs ++ [(q : Int)]).length = nl + 1 by have := HNL.out; simp; omega]; exact HO2.out, HB2.out⟩
      case measure => simp [intOf]; omega
    · have HE3 : Hid (xs = LL) := Lib.hid (by have h := HE.out; rw [chL_neg _ _ (by omega)] at h; simpa using h)
      go_wp2_with (first
        | (go_at_call 63; (with_reducible refine (athere_out _ (by omega) _ HM.out.ar).mono ?_); rintro e w1 ⟨rfl, rfl⟩))
      go_ret
      exact ⟨_, rfl, by rw [← HE3.out]; exact HW.out, HL.out⟩
/-- A row of numbers, some or none: its address. -/
theorem own_ints {w : World} {B : Nat} {v : Value} {L : List Int} (h : w.ownsRow B 3 1 v L.length (L.map (Value.int .i64))) : ∃ a c, v = .slice a L.length c ∧ (0 < L.length → ∃ g, a = some ⟨g, 0, none⟩ ∧ RN w g L.length L ∧ B ≤ g ∧ g < w.heap.size) := by
  rcases h.2 with ⟨rfl, h0⟩ | ⟨g, cap, cur, rfl, hB, hg, rest⟩
  · exact ⟨none, 0, by rw [h0], fun h => by omega⟩
  · refine ⟨some ⟨g, 0, none⟩, cap, rfl, fun _ => ⟨g, rfl, fun i hi => ?_, hB, (h.lt g rfl).2⟩⟩
    rw [h.cellAt i (by omega)]
    simp [List.getD, hi]
theorem mem_getD (L : List Int) (x : Int) : x ∈ L ↔ ∃ i, i < L.length ∧ L.getD i 0 = x := by
  rw [List.mem_iff_getElem]
  constructor
  · rintro ⟨i, hi, e⟩; exact ⟨i, hi, by simp [List.getD, hi, e]⟩
  · rintro ⟨i, hi, e⟩; refine ⟨i, hi, ?_⟩; simpa [List.getD, hi] using e
end Go.Proofs.YtncopdhhchmpeaaGreatDoor
namespace Go.Proofs.YtncopdhhchmpeaaGreatDoor
open Go.ChangeShapes Go.WideShapes Go.ChangeAt Go.RowKit
set_option linter.unusedVariables false
set_option linter.unusedSimpArgs false
set_option maxRecDepth 100000 in
theorem mul64_is (w : World) : Calls Tryz.prog 211 #[.int .u64 1, .int .u64 256] w fun e w' => e = .returned (.tuple #[.int .u64 0, .int .u64 256]) ∧ w = w' := by
  go_enter Tryz.func211, Tryz.ntmps211
  go_wp2_with fail
  go_ret2
  exact ⟨rfl, rfl⟩
set_option maxRecDepth 100000 in
theorem mul_is (w : World) : Calls Tryz.prog 195 #[.int .u64 1, .int .u64 256] w fun e w' => e = .returned (.tuple #[.int .u64 0, .int .u64 256]) ∧ w = w' := by
  go_enter Tryz.func195, Tryz.ntmps195
  go_wp2_with (first | (go_at_call 211; (with_reducible refine (mul64_is _).mono ?_); rintro e w1 ⟨rfl, rfl⟩))
  go_ret2
  exact ⟨rfl, rfl⟩
/-- Some places anew. -/
theorem flatS_places (s : Nat) (W W' : Nat → Nat → Value) (n k m : Nat) (h0 : 0 < s) (hk : k + m ≤ n) (xs : List Value) (hx : xs.length = m * s) (h1 : ∀ i j, i < m → j < s → xs[i * s + j]? = some (W' (k + i) j)) (h2 : ∀ i j, i < n → j < s → ¬ (k ≤ i ∧ i < k + m) → W' i j = W i j) : over (flatS s W n) (k * s) xs = flatS s W' n := by
  have hle : k * s + m * s ≤ n * s := by rw [← Nat.add_mul]; exact Nat.mul_le_mul_right s hk
  apply List.ext_getElem?
  intro j
  rw [over_get _ _ _ _ (by rw [flatS_len, hx]; omega)]
  by_cases hj : j < n * s
  · have hdm : j = j / s * s + j % s := by rw [Nat.mul_comm]; exact (Nat.div_add_mod j s).symm
    have hml : j % s < s := Nat.mod_lt _ h0
    have hdl : j / s < n := by rw [Nat.div_lt_iff_lt_mul h0]; exact hj
    by_cases h : k * s ≤ j ∧ j < k * s + xs.length
    · rw [if_pos h]
      have hq1 : k ≤ j / s := by rw [Nat.le_div_iff_mul_le h0]; exact h.1
      have hq2 : j / s < k + m := by rw [Nat.div_lt_iff_lt_mul h0, Nat.add_mul]; rw [hx] at h; exact h.2
      have e := h1 (j / s - k) (j % s) (by omega) hml
      have e2 : (j / s - k) * s = j / s * s - k * s := Nat.sub_mul _ _ _
      have hks : k * s ≤ j / s * s := Nat.mul_le_mul_right s hq1
      rw [show (j / s - k) * s + j % s = j - k * s by omega, show k + (j / s - k) = j / s by omega] at e
      rw [e]
      simp [flatS, hj]
    · rw [if_neg h]
      have : ¬ (k ≤ j / s ∧ j / s < k + m) := by
        rintro ⟨h3, h4⟩
        rw [Nat.le_div_iff_mul_le h0] at h3
        rw [Nat.div_lt_iff_lt_mul h0, Nat.add_mul] at h4
        rw [hx] at h
        exact h ⟨h3, h4⟩
      simp [flatS, hj, h2 (j / s) (j % s) hdl hml this]
  · rw [if_neg (by rw [hx]; omega), List.getElem?_eq_none (by rw [flatS_len]; omega), List.getElem?_eq_none (by rw [flatS_len]; omega)]
/-- The first k are nobody's. -/
def loB (k : Nat) : Nat → Int := fun i => if i < k then -1 else 0
def tcs (m : Nat) : List Value := (List.range (m * 2)).map fun j => if j % 2 = 0 then .int .i64 (-1) else .int .i64 0
theorem tcs_len (m : Nat) : (tcs m).length = m * 2 := by simp [tcs]
theorem tcs_one (m : Nat) : ∀ v ∈ tcs m, v.oneCell' = true := by
  intro v hv
  obtain ⟨x, _, rfl⟩ := List.mem_map.1 hv
  split <;> rfl
theorem tcs_at (m i j : Nat) (hi : i < m) (hj : j < 2) : (tcs m)[i * 2 + j]? = some (if j = 0 then .int .i64 (-1) else .int .i64 0) := by
  have h1 : i * 2 + j < m * 2 := by omega
  have h2 : (i * 2 + j) % 2 = j := by omega
  simp [tcs, h1, h2]
theorem tcs_src (m j : Nat) (v : Value) (h : (tcs m)[j]? = some v) : j < m * 2 ∧ v = tiS (loB (j / 2 + 1)) (fun _ => 0) (j / 2) (j % 2) := by
  have hl : j < m * 2 := by
    have := (List.getElem?_eq_some_iff.1 h).1
    rwa [tcs_len] at this
  refine ⟨hl, ?_⟩
  simp [tcs, hl] at h
  rw [← h]
  unfold tiS loB
  rw [if_pos (Nat.lt_succ_self _)]
def TiR (w : World) (base G k : Nat) : Prop := RowS w base 158 2 G 256 (tiS (loB k) (fun _ => 0))
theorem infoTitle : (Tryz.prog.info? 158).map (fun i => (i.zero, i.size, i.bytes)) = some (some (.agg #[.int .i64 0, .int .i64 0]), 2, 16) := by kernel_rfl
theorem infoTitleS : (Tryz.prog.info? 158).map (·.size) = some 2 := by kernel_rfl
theorem TiR.copy {w : World} {base G k : Nat} (h : TiR w base G k) (m dL dC sL sC : Nat) (a : Addr) (hm : Nat.min sL dL = m) (hk : k + m ≤ 256) (hsrc : ∀ j v, (tcs m)[j]? = some v → w.cell? (a.add j) = some v) :
    (∀ ty, (Builtin.copy_ #[89, 89] ty #[.slice (some ⟨G, k * 2, none⟩) dL dC, .slice (some a) sL sC]).run Tryz.prog w = .ok (goInt m) (w.setCells G (k * 2) (tcs m))) ∧ TiR (w.setCells G (k * 2) (tcs m)) base G (k + m) ∧ w.grownBy (w.setCells G (k * 2) (tcs m)) (some G) := by
  have hs := own_setCells (tcs m) (k * 2) _ _ h
  rw [flatS_places 2 (tiS (loB k) (fun _ => 0)) (tiS (loB (k + m)) (fun _ => 0)) 256 k m (by decide) hk (tcs m) (tcs_len m) (fun i j hi hj => by
    rw [tcs_at m i j hi hj]
    unfold tiS loB
    rw [if_pos (show k + i < k + m by omega)]) (fun i j hi hj hn => by
    unfold tiS loB
    by_cases h : i < k
    · have h2 : i < k + m := by omega
      simp [h, h2]
    · have h2 : ¬ i < k + m := by omega
      simp [h, h2])] at hs
  refine ⟨fun ty => ?_, hs⟩
  have := run_copy_cells_wide (P := Tryz.prog) w 89 89 ty 158 2 G (k * 2) dL dC a sL sC (tcs m) Tryz.underlying89 infoTitleS (by rw [hm]; exact tcs_len m) hsrc (fun j hj => by
    rw [tcs_len] at hj
    have e := h.at (k + j / 2) (j % 2) (by omega) (by omega)
    rw [show (k + j / 2) * 2 + j % 2 = k * 2 + j by omega] at e
    rw [e]; rfl) (fun j hj => h.fr _) (tcs_one m)
  rw [this, hm]
theorem TiR.below {w w' : World} {base G k : Nat} (h : TiR w base G k) (hb : Below w.heap.size w w') : TiR w' base G k := RowS.same h (hb.block G (RowS.lt h).2)
theorem titles_made (w : World) (base G : Nat) (h : w.ownsRow base 158 2 (.slice (some ⟨G, 0, none⟩) 256 256) 256 (madeCells (#[Value.int .i64 0, .int .i64 0]) (256 * 2)).toList) : TiR w base G 0 := by
  have e := flatS_made [Value.int .i64 0, .int .i64 0] 256 (by decide)
  have e2 : flatS 2 (fun _ b => [Value.int .i64 0, .int .i64 0].getD b (.int .i64 0)) 256 = flatS 2 (tiS (loB 0) (fun _ => 0)) 256 := flatS_congr 2 _ _ 256 (by decide) (fun i j _ hj => by
    rcases (show j = 0 ∨ j = 1 by omega) with rfl | rfl <;> simp [tiS, loB])
  unfold TiR RowS
  rw [← e2]
  have e3 : (madeCells [Value.int .i64 0, .int .i64 0].toArray (256 * [Value.int .i64 0, .int .i64 0].length)).toList = (madeCells (#[Value.int .i64 0, .int .i64 0]) (256 * 2)).toList := rfl
  rw [e3] at e
  rw [show (2 : Nat) = [Value.int .i64 0, .int .i64 0].length from rfl, ← e]
  exact h
set_option maxRecDepth 100000 in
set_option maxHeartbeats 2000000 in
theorem repeat_is (w : World) (g0 : Nat) (hg0 : g0 < w.heap.size) (c0 : w.cell? ⟨g0, 0, none⟩ = some (.int .i64 (-1))) (c1 : w.cell? ⟨g0, 1, none⟩ = some (.int .i64 0)) :
    Calls Tryz.prog 168 #[.slice (some ⟨g0, 0, none⟩) 1 1, .int .i64 256] w fun e w' => ∃ G, e = .returned (.slice (some ⟨G, 0, none⟩) 256 256) ∧ TiR w' w.heap.size G 256 ∧ Below w.heap.size w w' := by
  obtain ⟨i0, hi, hz0, hz1, hz2⟩ := info_parts infoTitle
  have HI := Lib.hid (⟨hi, hz0, hz1, hz2⟩ : Tryz.prog.info? 158 = some i0 ∧ i0.zero = some (.agg #[.int .i64 0, .int .i64 0]) ∧ i0.size = 2 ∧ i0.bytes = 16)
  clear hi hz0 hz1 hz2
  have HC := Lib.hid (And.intro c0 c1)
  clear c0 c1
  go_enter Tryz.func168, Tryz.ntmps168
  go_upto_region 7 with (first
    | (go_at_call 195; (with_reducible refine (mul_is _).mono ?_); rintro e w1 ⟨rfl, rfl⟩)
    | (at_make; refine wpList_make_full _ rfl _ _ 89 rfl w.heap.size 158 i0 (.agg #[.int .i64 0, .int .i64 0]) 2 Tryz.underlying89 HI.out.1 HI.out.2.1 HI.out.2.2.1 .i64 .i64 _ _ 256 rfl rfl rfl rfl ?b2 ?b3 ?b4 ?_))
  case b2 => rw [HI.out.2.2.2]; omega
  case b3 => unfold maxLen; omega
  case b4 => exact Nat.le_refl _
  intro w2 hown hgrow
  have HR := Lib.hid (titles_made w2 w.heap.size w.heap.size hown)
  have HB := Lib.hid (show Below w.heap.size w w2 from (Below.refl _ _).grown hgrow (Nat.le_refl _) (fun k hk => by cases hk))
  clear hown hgrow
  obtain ⟨G, HG⟩ : ∃ G, Hid (w.heap.size = G) := ⟨_, Lib.hid rfl⟩
  rw [HG.out] at HR ⊢
  have hcp := HR.out.copy 1 256 256 1 1 ⟨g0, 0, none⟩ (by decide) (by decide) (fun j v hj => by
    obtain ⟨hl, rfl⟩ := tcs_src 1 j v hj
    rcases (show j = 0 ∨ j = 1 by omega) with rfl | rfl
    · exact (HB.out.cell (p := ⟨g0, 0, none⟩) hg0).trans HC.out.1
    · exact (HB.out.cell (p := ⟨g0, 1, none⟩) hg0).trans HC.out.2)
  obtain ⟨hrun, hR1, hg1⟩ := hcp
  rw [Nat.zero_mul] at hrun hR1 hg1
  have HR1 := Lib.hid hR1
  have HB1 : Hid (Below G w _) := Lib.hid ((show Below G w w2 by rw [← HG.out]; exact HB.out).grown hg1 (by have := HB.out.size; have := HG.out; omega) (fun k hk => by injection hk with hk; omega))
  clear hR1 hg1
  go_wp2_with fail
  clear hrun
  generalize World.setCells w2 G 0 (tcs 1) = w3 at HR1 HB1 ⊢
  go_loopw [8] (fun i wr => ∃ k : Nat, 1 ≤ k ∧ k ≤ 256 ∧ i = .int .i64 k ∧ TiR wr G G k ∧ Below G w wr) (fun i _ => 256 - (intOf i).toNat)
  case atStart => exact ⟨1, by omega, by omega, rfl, HR1.out, HB1.out⟩
  case round =>
    obtain ⟨k, hk1, hk2, rfl, hR, hb⟩ := hrel
    have HRk := Lib.hid hR
    have HBk := Lib.hid hb
    clear hR hb
    by_cases hlt : k < 256
    · have k0 : (0 : Int) ≤ k := by omega
      obtain ⟨m, hm⟩ : ∃ m, Nat.min k (256 - k) = m := ⟨_, rfl⟩
      have hm1 : 1 ≤ m ∧ k + m ≤ 256 := by have h3 : 1 ≤ Nat.min k (256 - k) := Nat.le_min.2 ⟨by omega, by omega⟩; have h4 : Nat.min k (256 - k) ≤ 256 - k := Nat.min_le_right k (256 - k); rw [hm] at h3 h4; omega
      have HRd := Lib.hid (HRk.out.below (Below.refl wr.heap.size wr).drew)
      have hmk : m ≤ k := by rw [← hm]; exact Nat.min_le_left _ _
      have hcp := HRd.out.copy m (256 - k) (256 - k) k 256 ⟨G, 0, none⟩ hm hm1.2 (fun j v hj => by
        obtain ⟨hl, rfl⟩ := tcs_src m j v hj
        have e := RowS.at HRd.out (j / 2) (j % 2) (by omega) (by omega)
        rw [show j / 2 * 2 + j % 2 = j by omega] at e
        rw [show Addr.add ⟨G, 0, none⟩ j = ⟨G, j, none⟩ by (simp [Addr.add]; exact fun h => h.symm), e]
        unfold tiS loB
        rw [if_pos (Nat.lt_succ_self _), if_pos (show j / 2 < k by omega)])
      obtain ⟨hrun, hR1, hg1⟩ := hcp
      have HR2 := Lib.hid hR1
      have HB2 := Lib.hid ((HBk.out.drew).grown hg1 (by have := (RowS.lt HRk.out).2; simp; omega) (fun k hk => by injection hk with hk; omega))
      have hel : Tryz.prog.elem 89 = 158 := by kernel_rfl
      have ht : Tryz.prog.underlying 89 = some (.slice (Tryz.prog.elem 89)) := by rw [hel]; exact Tryz.underlying89
      have hsz : ∀ W, (sizeOf 158).run Tryz.prog W = .ok 2 W := fun W => by kernel_rfl
      have hsl : ∀ W, (Instr.sliceAt 89 (.slice (some ⟨G, 0, none⟩) 256 256) (some (.int .i64 (k : Int))) none none).run Tryz.prog W = .ok (.slice (some ⟨G, k * 2, none⟩) (256 - k) (256 - k)) W := fun W => by
        rw [run_sliceAt_slice W _ _ _ _ _ ht, run_slice_l W _ _ _ _ ht .i64 (k : Int) (by omega) (by omega), hel, hsz, Result.andThen, Int.toNat_natCast]
        unfold sliced
        rw [if_neg (by omega)]
        simp [Addr.add]
        omega
      have hsl2 : ∀ W, (Instr.sliceAt 89 (.slice (some ⟨G, 0, none⟩) 256 256) none (some (.int .i64 (k : Int))) none).run Tryz.prog W = .ok (.slice (some ⟨G, 0, none⟩) k 256) W := fun W => by
        rw [run_sliceAt_slice W _ _ _ _ _ ht, run_slice_h W _ _ _ _ ht .i64 (k : Int) (by omega) (by omega), hel, hsz, Result.andThen, Int.toNat_natCast]
        simp [sliced, Addr.add]
      clear hR1 hg1 hel ht hsz
      go_upto_region 9 with fail
      refine wp_region_noPanic ?_
      refine wp_region_held_drew (S := fun w' => True) (by kernel_rfl) trivial (fun hHeld => ?_)
      refine wpAnyH_take (i := 0) (v := ?_) (by rfl) (by kernel_rfl) (by kernel_rfl) (by kernel_rfl) (fun _ _ _ h => h) (Or.inl ⟨by kernel_rfl, ?_⟩) (by assumption) ?_; rotate_left 1; (focus (intro w hSw; (try dsimp only at hSw); simp only [List.getElem_toArray, List.getElem_cons_succ, List.getElem_cons_zero]; all_goals go_simp; all_goals (try with_reducible rfl))); (try simp only [Act.put, List.getElem_toArray, List.getElem_cons_succ, List.getElem_cons_zero, List.setIfInBounds_toArray, List.set_cons_zero, List.set_cons_succ])
      refine wpAnyH_take (i := 1) (v := ?_) (by rfl) (by kernel_rfl) (by kernel_rfl) (by kernel_rfl) (fun _ _ _ h => h) (Or.inl ⟨by kernel_rfl, ?_⟩) (by assumption) ?_; rotate_left 1; (focus (intro w hSw; (try dsimp only at hSw); simp only [List.getElem_toArray, List.getElem_cons_succ, List.getElem_cons_zero]; all_goals go_simp; all_goals (try with_reducible rfl))); (try simp only [Act.put, List.getElem_toArray, List.getElem_cons_succ, List.getElem_cons_zero, List.setIfInBounds_toArray, List.set_cons_zero, List.set_cons_succ])
      refine wpAnyH_take (i := 2) (v := ?_) (by rfl) (by kernel_rfl) (by kernel_rfl) (by kernel_rfl) (fun _ _ _ h => h) (Or.inl ⟨by kernel_rfl, ?_⟩) (by assumption) ?_; rotate_left 1; (focus (intro w hSw; (try dsimp only at hSw); simp only [List.getElem_toArray, List.getElem_cons_succ, List.getElem_cons_zero]; all_goals go_simp; all_goals (try with_reducible rfl))); (try simp only [Act.put, List.getElem_toArray, List.getElem_cons_succ, List.getElem_cons_zero, List.setIfInBounds_toArray, List.set_cons_zero, List.set_cons_succ])
      refine wpAnyH_take (i := 3) (v := ?_) (by rfl) (by kernel_rfl) (by kernel_rfl) (by kernel_rfl) (fun _ _ _ h => h) (Or.inl ⟨by kernel_rfl, ?_⟩) (by assumption) ?_; rotate_left 1; (focus (intro w hSw; (try dsimp only at hSw); simp only [List.getElem_toArray, List.getElem_cons_succ, List.getElem_cons_zero]; all_goals go_simp; all_goals (try with_reducible rfl))); (try simp only [Act.put, List.getElem_toArray, List.getElem_cons_succ, List.getElem_cons_zero, List.setIfInBounds_toArray, List.set_cons_zero, List.set_cons_succ])
      refine wpAnyH_take (i := 4) (v := ?_) (by rfl) (by kernel_rfl) (by kernel_rfl) (by kernel_rfl) (fun _ _ _ h => h) (Or.inl ⟨by kernel_rfl, ?_⟩) (by assumption) ?_; rotate_left 1; (focus (intro w hSw; (try dsimp only at hSw); simp only [List.getElem_toArray, List.getElem_cons_succ, List.getElem_cons_zero]; all_goals go_simp; all_goals (try with_reducible rfl))); (try simp only [Act.put, List.getElem_toArray, List.getElem_cons_succ, List.getElem_cons_zero, List.setIfInBounds_toArray, List.set_cons_zero, List.set_cons_succ])
      refine wpAnyH_take (i := 5) (v := ?_) (by rfl) (by kernel_rfl) (by kernel_rfl) (by kernel_rfl) (fun _ _ _ h => h) (Or.inl ⟨by kernel_rfl, ?_⟩) (by assumption) ?_; rotate_left 1; (focus (intro w hSw; (try dsimp only at hSw); simp only [List.getElem_toArray, List.getElem_cons_succ, List.getElem_cons_zero]; all_goals go_simp; all_goals (try with_reducible rfl))); (try simp only [Act.put, List.getElem_toArray, List.getElem_cons_succ, List.getElem_cons_zero, List.setIfInBounds_toArray, List.set_cons_zero, List.set_cons_succ])
      refine wpAnyH_take (i := 6) (v := ?_) (by rfl) (by kernel_rfl) (by kernel_rfl) (by kernel_rfl) (fun _ _ _ h => h) (Or.inl ⟨by kernel_rfl, ?_⟩) (by assumption) ?_; rotate_left 1; (focus (intro w hSw; (try dsimp only at hSw); simp only [List.getElem_toArray, List.getElem_cons_succ, List.getElem_cons_zero]; all_goals go_simp; all_goals (try with_reducible rfl))); (try simp only [Act.put, List.getElem_toArray, List.getElem_cons_succ, List.getElem_cons_zero, List.setIfInBounds_toArray, List.set_cons_zero, List.set_cons_succ])
      refine wpAnyH_ready (rs := [7]) (by kernel_rfl) (by simp) ?_; refine AllReadyH.cons (by rfl) (fun K hK => ?_) AllReadyH.nil; rw [if_pos (by kernel_rfl)]; simp only [List.getElem_toArray, List.getElem_cons_succ, List.getElem_cons_zero]
      go_wp2_with fail
      clear hrun hsl hsl2
      generalize World.setCells wr.drew G (k * 2) (tcs m) = w5 at HR2 HB2 ⊢
      refine hK.out _ _ trivial (fun hHeld => ?_)
      clear hK K hHeld
      (try simp only [Act.put, List.getElem_toArray, List.getElem_cons_succ, List.getElem_cons_zero, List.setIfInBounds_toArray, List.set_cons_zero, List.set_cons_succ])
      have hwr : IntKind.i64.wrap ((k : Int) + (m : Int)) = (k : Int) + (m : Int) := by rw [IntKind.wrap_i64]; omega
      refine wpAnyH_take (i := 8) (v := ?_) (by rfl) (by kernel_rfl) (by kernel_rfl) (by kernel_rfl) (fun _ _ _ h => h) (Or.inl ⟨by kernel_rfl, ?_⟩) (by assumption) ?_; rotate_left 1; (focus (intro w hSw; (try dsimp only at hSw); simp only [List.getElem_toArray, List.getElem_cons_succ, List.getElem_cons_zero]; all_goals go_simp; all_goals (try with_reducible rfl))); (try simp only [Act.put, List.getElem_toArray, List.getElem_cons_succ, List.getElem_cons_zero, List.setIfInBounds_toArray, List.set_cons_zero, List.set_cons_succ])
      refine wpAnyH_take (i := 9) (v := ?_) (by rfl) (by kernel_rfl) (by kernel_rfl) (by kernel_rfl) (fun _ _ _ h => h) (Or.inl ⟨by kernel_rfl, ?_⟩) (by assumption) ?_; rotate_left 1; (focus (intro w hSw; (try dsimp only at hSw); simp only [List.getElem_toArray, List.getElem_cons_succ, List.getElem_cons_zero]; all_goals go_simp; all_goals (try with_reducible rfl))); (try simp only [Act.put, List.getElem_toArray, List.getElem_cons_succ, List.getElem_cons_zero, List.setIfInBounds_toArray, List.set_cons_zero, List.set_cons_succ])
      refine wpAnyH_done (by kernel_rfl) ?_ _
      refine NoPanic.normal ?_
      go_wp2_with fail
      go_roundw
      case rel => exact ⟨k + m, by omega, hm1.2, by go_num, HR2.out, HB2.out⟩
      case measure => simp [intOf]; omega
    · obtain rfl : k = 256 := by omega
      go_wp2_with fail
      go_ret
      exact ⟨G, rfl, by rw [HG.out]; exact HRk.out, by rw [HG.out]; exact HBk.out⟩
set_option maxRecDepth 100000 in
theorem unowned_is (w : World) : Calls Tryz.prog 128 #[] w fun e w' => ∃ G, e = .returned (.slice (some ⟨G, 0, none⟩) 256 256) ∧ TiR w' w.heap.size G 256 ∧ Below w.heap.size w w' := by
  go_enter Tryz.func128, Tryz.ntmps128
  go_wp2_with (first
    | (go_at_call 168; (with_reducible refine (repeat_is _ w.heap.size (by simp) (by simp) (by simp)).mono ?_); rintro e w1 ⟨G, rfl, hr, hb⟩; have HR := Lib.hid hr; have HB := Lib.hid hb; clear hr hb))
  go_ret
  refine ⟨G, rfl, ?_, ((Below.refl _ _).alloc (Nat.le_refl _) _ : Below w.heap.size w _).trans (HB.out.mono (by simp))⟩
  have h := HR.out
  refine ⟨h.1, ?_⟩
  rcases h.2 with hn | ⟨g', cap, cur, e', hB, hg, rest⟩
  · exact .inl hn
  · exact .inr ⟨g', cap, cur, e', Nat.le_trans (by simp) hB, hg, rest⟩
end Go.Proofs.YtncopdhhchmpeaaGreatDoor
namespace Go.Proofs.YtncopdhhchmpeaaGreatDoor
open Go.ChangeShapes Go.WideShapes Go.ChangeAt Go.RowKit
set_option linter.unusedVariables false
set_option linter.unusedSimpArgs false
theorem RowS.base {w : World} {b b' : Nat} {T : TypeId} {s G n : Nat} {W : Nat → Nat → Value} (h : RowS w b T s G n W) (hb : b' ≤ b) : RowS w b' T s G n W := by
  refine ⟨h.1, ?_⟩
  rcases h.2 with hn | ⟨g', cap, cur, e', hB, hg, rest⟩
  · exact .inl hn
  · exact .inr ⟨g', cap, cur, e', Nat.le_trans hb hB, hg, rest⟩
/-- Banks being made. -/
structure B0 (B : Nat) (w1 w : World) (n : Nat) (oA : Option Nat) (g : List Nat) : Prop where
  bel : Below w1.heap.size w1 w
  a : ∀ A, oA = some A → w1.heap.size ≤ A ∧ RowS w B 124 3 A n (acS (fun _ => 0) (fun _ => 0) (fun _ => 0))
  t : ∀ G, G ∈ g → w1.heap.size ≤ G ∧ RowS w B 158 2 G 256 (tiS (fun _ => -1) (fun _ => 0))
  nd : (oA.toList ++ g).Nodup
theorem infoAcc : (Tryz.prog.info? 124).map (fun i => (i.zero, i.size, i.bytes)) = some (some (.agg #[.int .i64 0, .int .i64 0, .int .i64 0]), 3, 24) := by kernel_rfl
theorem B0.mk_ {B : Nat} {w1 w w' : World} {n : Nat} {g : List Nat} (h : B0 B w1 w n none g) (A : Nat) (hA : w.heap.size = A) (hown : w'.ownsRow B 124 3 (.slice (some ⟨A, 0, none⟩) n n) n (madeCells #[Value.int .i64 0, .int .i64 0, .int .i64 0] (n * 3)).toList) (hgrow : w.grownBy w' none) : B0 B w1 w' n (some A) g := by
  have hb : Below w.heap.size w w' := (Below.refl _ _).grown hgrow (Nat.le_refl _) (fun k hk => by cases hk)
  refine ⟨h.bel.trans (hb.mono h.bel.size), fun A' e => ?_, fun G hG => ⟨(h.t G hG).1, (h.t G hG).2.same (hb.block G (h.t G hG).2.lt.2)⟩, ?_⟩
  · injection e with e
    subst e
    refine ⟨by rw [← hA]; exact h.bel.size, ?_⟩
    have h2 := flatS_made [Value.int .i64 0, .int .i64 0, .int .i64 0] n (by decide)
    rw [show [Value.int .i64 0, .int .i64 0, .int .i64 0].length = 3 from rfl] at h2
    unfold RowS
    rw [flatS_congr 3 _ (fun _ b => [Value.int .i64 0, .int .i64 0, .int .i64 0].getD b (.int .i64 0)) n (by decide) (fun i j _ hj => by rcases (show j = 0 ∨ j = 1 ∨ j = 2 by omega) with rfl | rfl | rfl <;> simp [acS]), ← h2]
    exact hown
  · have hn := h.nd
    simp only [Option.toList_none, List.nil_append] at hn
    simp only [Option.toList_some, List.singleton_append, List.nodup_cons]
    exact ⟨fun hm => by have := (h.t A hm).2.lt.2; omega, hn⟩
theorem B0.own {B : Nat} {w1 w w' : World} {n : Nat} {oA : Option Nat} {g : List Nat} (h : B0 B w1 w n oA g) (hB : B ≤ w1.heap.size) (G : Nat) (hr : TiR w' w.heap.size G 256) (hb : Below w.heap.size w w') : B0 B w1 w' n oA (g ++ [G]) := by
  have hlt := RowS.lt hr
  refine ⟨h.bel.trans (hb.mono h.bel.size), fun A e => ⟨(h.a A e).1, (h.a A e).2.same (hb.block A (h.a A e).2.lt.2)⟩, fun G' hG => ?_, ?_⟩
  · rcases List.mem_append.1 hG with hG | hG
    · exact ⟨(h.t G' hG).1, (h.t G' hG).2.same (hb.block G' (h.t G' hG).2.lt.2)⟩
    · simp at hG
      subst hG
      refine ⟨Nat.le_trans h.bel.size hlt.1, (RowS.congr hr (by decide) (fun i j hi _ => ?_)).base (Nat.le_trans hB h.bel.size)⟩
      simp [tiS, loB, hi]
  · rw [← List.append_assoc, List.nodup_append]
    refine ⟨h.nd, by simp, fun x hx y hy => ?_⟩
    simp at hy
    subst hy
    rcases List.mem_append.1 hx with hx | hx
    · have := (h.a x (by simpa using hx)).2.lt.2
      omega
    · have := (h.t x hx).2.lt.2
      omega
theorem B0.done {w0 w1 w w2 : World} {n p B A G1 G2 G3 mb db : Nat} (hA : ArAt w1 w0.heap.size p B n n (fun _ => false) (fun _ => 0)) (hb : Below w0.heap.size w0 w1) (h : B0 w0.heap.size w1 w n (some A) [G1, G2, G3]) (T : TypeId) (h2 : w2 = w.alloc (.cells #[.pointer (some ⟨p, 0, none⟩), .pointer (some ⟨mb, 0, none⟩), .pointer (some ⟨db, 0, none⟩), .slice (some ⟨A, 0, none⟩) n n, .slice (some ⟨G1, 0, none⟩) 256 256, .slice (some ⟨G2, 0, none⟩) 256 256, .slice (some ⟨G3, 0, none⟩) 256 256] T (0, 0))) : BkAt w2 w0.heap.size w.heap.size p B A G1 G2 G3 n n mb db (fun _ => false) (fun _ => 0) (fun _ => 0) (fun _ => 0) (fun _ => 0) (fun _ => -1) (fun _ => 0) (fun _ => -1) (fun _ => 0) (fun _ => -1) (fun _ => 0) ∧ Below w0.heap.size w0 w2 := by
  subst h2
  have hp := hA.pl
  have hB := hA.lt
  have hAa := h.a A rfl
  have t1 := h.t G1 (by simp)
  have t2 := h.t G2 (by simp)
  have t3 := h.t G3 (by simp)
  have l1 := t1.2.lt
  have l2 := t2.2.lt
  have l3 := t3.2.lt
  have lA := hAa.2.lt
  have hnd := h.nd
  simp at hnd
  have hs := h.bel.size
  have hs1 := hb.size
  have h2' : ∀ o, Below w.heap.size w (w.alloc o) := fun o => (Below.refl _ _).alloc (Nat.le_refl _) o
  have sm : ∀ {T : TypeId} {s G m : Nat} {W : Nat → Nat → Value} (o : Obj), RowS w w0.heap.size T s G m W → RowS (w.alloc o) w0.heap.size T s G m W := fun o hr => hr.same ((h2' o).block _ hr.lt.2)
  obtain ⟨⟨a1, a2, a3⟩, ⟨b1, b2⟩, c1⟩ := hnd
  exact ⟨⟨by simp, by omega, by simp, by simp, by simp, by simp, by simp, by simp, by simp, (hA.below h.bel).below (h2' _), sm _ hAa.2, sm _ t1.2, sm _ t2.2, sm _ t3.2, ⟨by omega, by omega, by omega, by omega, by omega, by omega, by omega, by omega, by omega, by omega, a1, a2, a3, by omega, by omega, by omega, b1, b2, c1⟩⟩, (hb.trans (h.bel.mono hs1)).alloc (by omega) _⟩
set_option maxRecDepth 100000 in
set_option maxHeartbeats 2000000 in
theorem bknew_ok (x : Int) (n mb db : Nat) (hx : Hid (x = n)) (h1 : 1 ≤ n) (h2 : n ≤ 256) (w : World) :
    Calls Tryz.prog 86 #[.int .i64 x, .pointer (some ⟨mb, 0, none⟩), .pointer (some ⟨db, 0, none⟩)] w fun e w' => ∃ P p B A G1 G2 G3, e = .returned (.tuple #[.pointer (some ⟨P, 0, none⟩), .nilIface]) ∧ BkAt w' w.heap.size P p B A G1 G2 G3 n n mb db (fun _ => false) (fun _ => 0) (fun _ => 0) (fun _ => 0) (fun _ => 0) (fun _ => -1) (fun _ => 0) (fun _ => -1) (fun _ => 0) (fun _ => -1) (fun _ => 0) ∧ Below w.heap.size w w' := by
  rw [hx.out]
  obtain ⟨i0, hi, hz0, hz1, hz2⟩ := info_parts infoAcc
  have HI := Lib.hid (⟨hi, hz0, hz1, hz2⟩ : Tryz.prog.info? 124 = some i0 ∧ i0.zero = some (.agg #[.int .i64 0, .int .i64 0, .int .i64 0]) ∧ i0.size = 3 ∧ i0.bytes = 24)
  clear hi hz0 hz1 hz2 hx
  go_enter Tryz.func86, Tryz.ntmps86
  go_upto_region 4 with (first
    | (go_at_call 127; (with_reducible refine (anew_at _ n (Lib.hid rfl) h1 h2 _).mono ?_); rintro e w1 ⟨p, B, rfl, hA, hb⟩; have HA := Lib.hid hA; have HB := Lib.hid hb; clear hA hb))
  obtain ⟨wD, hwD⟩ : ∃ wD, wD = w1.drew := ⟨_, rfl⟩
  have HD : Hid (B0 w.heap.size w1 wD n none []) := Lib.hid (by rw [hwD]; exact ⟨(Below.refl _ _).drew, fun _ e => (by cases e), fun _ e => (by cases e), by simp⟩)
  refine wp_region_noPanic ?_
  refine wp_region_held_drew (S := fun w' => True) (by kernel_rfl) trivial (fun hHeld => ?_)
  rw [← hwD]
  clear hwD
  refine wpAnyH_take (i := 0) (v := ?_) (by rfl) (by kernel_rfl) (by kernel_rfl) (by kernel_rfl) (fun _ _ _ h => h) (Or.inl ⟨by kernel_rfl, ?_⟩) (by assumption) ?_; rotate_left 1; (focus (intro w hSw; (try dsimp only at hSw); simp only [List.getElem_toArray, List.getElem_cons_succ, List.getElem_cons_zero]; all_goals go_simp; all_goals (try with_reducible rfl))); (try simp only [Act.put, List.getElem_toArray, List.getElem_cons_succ, List.getElem_cons_zero, List.setIfInBounds_toArray, List.set_cons_zero, List.set_cons_succ])
  refine wpAnyH_take (i := 1) (v := ?_) (by rfl) (by kernel_rfl) (by kernel_rfl) (by kernel_rfl) (fun _ _ _ h => h) (Or.inl ⟨by kernel_rfl, ?_⟩) (by assumption) ?_; rotate_left 1; (focus (intro w hSw; (try dsimp only at hSw); simp only [List.getElem_toArray, List.getElem_cons_succ, List.getElem_cons_zero]; all_goals go_simp; all_goals (try with_reducible rfl))); (try simp only [Act.put, List.getElem_toArray, List.getElem_cons_succ, List.getElem_cons_zero, List.setIfInBounds_toArray, List.set_cons_zero, List.set_cons_succ])
  refine wpAnyH_take (i := 2) (v := ?_) (by rfl) (by kernel_rfl) (by kernel_rfl) (by kernel_rfl) (fun _ _ _ h => h) (Or.inl ⟨by kernel_rfl, ?_⟩) (by assumption) ?_; rotate_left 1; (focus (intro w hSw; (try dsimp only at hSw); simp only [List.getElem_toArray, List.getElem_cons_succ, List.getElem_cons_zero]; all_goals go_simp; all_goals (try with_reducible rfl))); (try simp only [Act.put, List.getElem_toArray, List.getElem_cons_succ, List.getElem_cons_zero, List.setIfInBounds_toArray, List.set_cons_zero, List.set_cons_succ])
  refine wpAnyH_take (i := 3) (v := ?_) (by rfl) (by kernel_rfl) (by kernel_rfl) (by kernel_rfl) (fun _ _ _ h => h) (Or.inl ⟨by kernel_rfl, ?_⟩) (by assumption) ?_; rotate_left 1; (focus (intro w hSw; (try dsimp only at hSw); simp only [List.getElem_toArray, List.getElem_cons_succ, List.getElem_cons_zero]; all_goals go_simp; all_goals (try with_reducible rfl))); (try simp only [Act.put, List.getElem_toArray, List.getElem_cons_succ, List.getElem_cons_zero, List.setIfInBounds_toArray, List.set_cons_zero, List.set_cons_succ])
  refine wpAnyH_ready (rs := [4, 5]) (by kernel_rfl) (by simp) ?_
  refine AllReadyH.cons (by rfl) (fun K' hK => ?_) (AllReadyH.cons (by rfl) (fun K' hK => ?_) AllReadyH.nil)
  · rw [if_pos (by kernel_rfl)]; simp only [List.getElem_toArray, List.getElem_cons_succ, List.getElem_cons_zero]
    obtain ⟨wA, hrun, hown, hgrow⟩ := run_make_full (P := Tryz.prog) wD w.heap.size 88 124 i0 (.agg #[.int .i64 0, .int .i64 0, .int .i64 0]) 3 Tryz.underlying88 HI.out.1 HI.out.2.1 HI.out.2.2.1 .i64 .i64 n (by rw [HI.out.2.2.2]; omega) (by unfold maxLen; omega) (Nat.le_trans HB.out.size HD.out.bel.size); obtain ⟨A, hA⟩ : ∃ A, wD.heap.size = A := ⟨_, rfl⟩; rw [hA] at hown hrun; have HwA := Lib.hid (HD.out.mk_ A hA hown hgrow); clear hown hgrow hA; go_wp2_with fail; clear hrun
    refine hK.out _ _ trivial (fun hHeld => ?_); clear hK; (try simp only [Act.put, List.getElem_toArray, List.getElem_cons_succ, List.getElem_cons_zero, List.setIfInBounds_toArray, List.set_cons_zero, List.set_cons_succ])
    refine wpAnyH_ready (rs := [5]) (by kernel_rfl) (by simp) ?_; refine AllReadyH.cons (by rfl) (fun K hK => ?_) AllReadyH.nil; rw [if_pos (by kernel_rfl)]; simp only [List.getElem_toArray, List.getElem_cons_succ, List.getElem_cons_zero]
    go_wp2_with (first | (go_at_call 128; (with_reducible refine (unowned_is _).mono ?_); rintro e wX ⟨G, rfl, hr, hb⟩; have HwX := Lib.hid (HwA.out.own HB.out.size G hr hb); clear hr hb))
    refine hK.out _ _ trivial (fun hHeld => ?_); clear hK; (try simp only [Act.put, List.getElem_toArray, List.getElem_cons_succ, List.getElem_cons_zero, List.setIfInBounds_toArray, List.set_cons_zero, List.set_cons_succ])
    refine wpAnyH_ready (rs := [6]) (by kernel_rfl) (by simp) ?_; refine AllReadyH.cons (by rfl) (fun K hK => ?_) AllReadyH.nil; rw [if_pos (by kernel_rfl)]; simp only [List.getElem_toArray, List.getElem_cons_succ, List.getElem_cons_zero]
    go_wp2_with (first | (go_at_call 128; (with_reducible refine (unowned_is _).mono ?_); rintro e wY ⟨G, rfl, hr, hb⟩; have HwY := Lib.hid (HwX.out.own HB.out.size G hr hb); clear hr hb))
    refine hK.out _ _ trivial (fun hHeld => ?_); clear hK; (try simp only [Act.put, List.getElem_toArray, List.getElem_cons_succ, List.getElem_cons_zero, List.setIfInBounds_toArray, List.set_cons_zero, List.set_cons_succ])
    refine wpAnyH_ready (rs := [7]) (by kernel_rfl) (by simp) ?_; refine AllReadyH.cons (by rfl) (fun K hK => ?_) AllReadyH.nil; rw [if_pos (by kernel_rfl)]; simp only [List.getElem_toArray, List.getElem_cons_succ, List.getElem_cons_zero]
    go_wp2_with (first | (go_at_call 128; (with_reducible refine (unowned_is _).mono ?_); rintro e wZ ⟨G, rfl, hr, hb⟩; have HwZ := Lib.hid (HwY.out.own HB.out.size G hr hb); clear hr hb))
    refine hK.out _ _ trivial (fun hHeld => ?_); clear hK; (try simp only [Act.put, List.getElem_toArray, List.getElem_cons_succ, List.getElem_cons_zero, List.setIfInBounds_toArray, List.set_cons_zero, List.set_cons_succ])
    refine wpAnyH_take (i := 8) (v := ?_) (by rfl) (by kernel_rfl) (by kernel_rfl) (by kernel_rfl) (fun _ _ _ h => h) (Or.inl ⟨by kernel_rfl, ?_⟩) (by assumption) ?_; rotate_left 1; (focus (intro w hSw; (try dsimp only at hSw); simp only [List.getElem_toArray, List.getElem_cons_succ, List.getElem_cons_zero]; all_goals go_simp; all_goals (try with_reducible rfl))); (try simp only [Act.put, List.getElem_toArray, List.getElem_cons_succ, List.getElem_cons_zero, List.setIfInBounds_toArray, List.set_cons_zero, List.set_cons_succ]); refine wpAnyH_ready (rs := [9]) (by kernel_rfl) (by simp) ?_; refine AllReadyH.cons (by rfl) (fun K hK => ?_) AllReadyH.nil; rw [if_pos (by kernel_rfl)]; simp only [List.getElem_toArray, List.getElem_cons_succ, List.getElem_cons_zero]; go_wp2_with fail; refine hK.out _ _ trivial (fun hHeld => ?_); clear hK; (try simp only [Act.put, List.getElem_toArray, List.getElem_cons_succ, List.getElem_cons_zero, List.setIfInBounds_toArray, List.set_cons_zero, List.set_cons_succ]); (try refine wpAnyH_take (i := 10) (v := ?_) (by rfl) (by kernel_rfl) (by kernel_rfl) (by kernel_rfl) (fun _ _ _ h => h) (Or.inl ⟨by kernel_rfl, ?_⟩) (by assumption) ?_; rotate_left 1; (focus (intro w hSw; (try dsimp only at hSw); simp only [List.getElem_toArray, List.getElem_cons_succ, List.getElem_cons_zero]; all_goals go_simp; all_goals (try with_reducible rfl))); (try simp only [Act.put, List.getElem_toArray, List.getElem_cons_succ, List.getElem_cons_zero, List.setIfInBounds_toArray, List.set_cons_zero, List.set_cons_succ])); (try refine wpAnyH_take (i := 11) (v := ?_) (by rfl) (by kernel_rfl) (by kernel_rfl) (by kernel_rfl) (fun _ _ _ h => h) (Or.inl ⟨by kernel_rfl, ?_⟩) (by assumption) ?_; rotate_left 1; (focus (intro w hSw; (try dsimp only at hSw); simp only [List.getElem_toArray, List.getElem_cons_succ, List.getElem_cons_zero]; all_goals go_simp; all_goals (try with_reducible rfl))); (try simp only [Act.put, List.getElem_toArray, List.getElem_cons_succ, List.getElem_cons_zero, List.setIfInBounds_toArray, List.set_cons_zero, List.set_cons_succ])); refine wpAnyH_done (by kernel_rfl) ?_ _; refine NoPanic.normal ?_; go_wp2_with fail; go_ret2; have hD := B0.done (mb := mb) (db := db) HA.out HB.out HwZ.out 91 rfl; exact ⟨_, _, _, _, _, _, _, rfl, hD.1, hD.2⟩
  · rw [if_pos (by kernel_rfl)]; simp only [List.getElem_toArray, List.getElem_cons_succ, List.getElem_cons_zero]
    go_wp2_with (first | (go_at_call 128; (with_reducible refine (unowned_is _).mono ?_); rintro e wX ⟨G, rfl, hr, hb⟩; have HwX := Lib.hid (HD.out.own HB.out.size G hr hb); clear hr hb))
    refine hK.out _ _ trivial (fun hHeld => ?_); clear hK; (try simp only [Act.put, List.getElem_toArray, List.getElem_cons_succ, List.getElem_cons_zero, List.setIfInBounds_toArray, List.set_cons_zero, List.set_cons_succ])
    refine wpAnyH_ready (rs := [4, 6]) (by kernel_rfl) (by simp) ?_
    refine AllReadyH.cons (by rfl) (fun K'' hK => ?_) (AllReadyH.cons (by rfl) (fun K'' hK => ?_) AllReadyH.nil)
    · rw [if_pos (by kernel_rfl)]; simp only [List.getElem_toArray, List.getElem_cons_succ, List.getElem_cons_zero]
      obtain ⟨wA, hrun, hown, hgrow⟩ := run_make_full (P := Tryz.prog) wX w.heap.size 88 124 i0 (.agg #[.int .i64 0, .int .i64 0, .int .i64 0]) 3 Tryz.underlying88 HI.out.1 HI.out.2.1 HI.out.2.2.1 .i64 .i64 n (by rw [HI.out.2.2.2]; omega) (by unfold maxLen; omega) (Nat.le_trans HB.out.size HwX.out.bel.size); obtain ⟨A, hA⟩ : ∃ A, wX.heap.size = A := ⟨_, rfl⟩; rw [hA] at hown hrun; have HwA := Lib.hid (HwX.out.mk_ A hA hown hgrow); clear hown hgrow hA; go_wp2_with fail; clear hrun
      refine hK.out _ _ trivial (fun hHeld => ?_); clear hK; (try simp only [Act.put, List.getElem_toArray, List.getElem_cons_succ, List.getElem_cons_zero, List.setIfInBounds_toArray, List.set_cons_zero, List.set_cons_succ])
      refine wpAnyH_ready (rs := [6]) (by kernel_rfl) (by simp) ?_; refine AllReadyH.cons (by rfl) (fun K hK => ?_) AllReadyH.nil; rw [if_pos (by kernel_rfl)]; simp only [List.getElem_toArray, List.getElem_cons_succ, List.getElem_cons_zero]
      go_wp2_with (first | (go_at_call 128; (with_reducible refine (unowned_is _).mono ?_); rintro e wY ⟨G, rfl, hr, hb⟩; have HwY := Lib.hid (HwA.out.own HB.out.size G hr hb); clear hr hb))
      refine hK.out _ _ trivial (fun hHeld => ?_); clear hK; (try simp only [Act.put, List.getElem_toArray, List.getElem_cons_succ, List.getElem_cons_zero, List.setIfInBounds_toArray, List.set_cons_zero, List.set_cons_succ])
      refine wpAnyH_ready (rs := [7]) (by kernel_rfl) (by simp) ?_; refine AllReadyH.cons (by rfl) (fun K hK => ?_) AllReadyH.nil; rw [if_pos (by kernel_rfl)]; simp only [List.getElem_toArray, List.getElem_cons_succ, List.getElem_cons_zero]
      go_wp2_with (first | (go_at_call 128; (with_reducible refine (unowned_is _).mono ?_); rintro e wZ ⟨G, rfl, hr, hb⟩; have HwZ := Lib.hid (HwY.out.own HB.out.size G hr hb); clear hr hb))
      refine hK.out _ _ trivial (fun hHeld => ?_); clear hK; (try simp only [Act.put, List.getElem_toArray, List.getElem_cons_succ, List.getElem_cons_zero, List.setIfInBounds_toArray, List.set_cons_zero, List.set_cons_succ])
      refine wpAnyH_take (i := 8) (v := ?_) (by rfl) (by kernel_rfl) (by kernel_rfl) (by kernel_rfl) (fun _ _ _ h => h) (Or.inl ⟨by kernel_rfl, ?_⟩) (by assumption) ?_; rotate_left 1; (focus (intro w hSw; (try dsimp only at hSw); simp only [List.getElem_toArray, List.getElem_cons_succ, List.getElem_cons_zero]; all_goals go_simp; all_goals (try with_reducible rfl))); (try simp only [Act.put, List.getElem_toArray, List.getElem_cons_succ, List.getElem_cons_zero, List.setIfInBounds_toArray, List.set_cons_zero, List.set_cons_succ]); refine wpAnyH_ready (rs := [9]) (by kernel_rfl) (by simp) ?_; refine AllReadyH.cons (by rfl) (fun K hK => ?_) AllReadyH.nil; rw [if_pos (by kernel_rfl)]; simp only [List.getElem_toArray, List.getElem_cons_succ, List.getElem_cons_zero]; go_wp2_with fail; refine hK.out _ _ trivial (fun hHeld => ?_); clear hK; (try simp only [Act.put, List.getElem_toArray, List.getElem_cons_succ, List.getElem_cons_zero, List.setIfInBounds_toArray, List.set_cons_zero, List.set_cons_succ]); (try refine wpAnyH_take (i := 10) (v := ?_) (by rfl) (by kernel_rfl) (by kernel_rfl) (by kernel_rfl) (fun _ _ _ h => h) (Or.inl ⟨by kernel_rfl, ?_⟩) (by assumption) ?_; rotate_left 1; (focus (intro w hSw; (try dsimp only at hSw); simp only [List.getElem_toArray, List.getElem_cons_succ, List.getElem_cons_zero]; all_goals go_simp; all_goals (try with_reducible rfl))); (try simp only [Act.put, List.getElem_toArray, List.getElem_cons_succ, List.getElem_cons_zero, List.setIfInBounds_toArray, List.set_cons_zero, List.set_cons_succ])); (try refine wpAnyH_take (i := 11) (v := ?_) (by rfl) (by kernel_rfl) (by kernel_rfl) (by kernel_rfl) (fun _ _ _ h => h) (Or.inl ⟨by kernel_rfl, ?_⟩) (by assumption) ?_; rotate_left 1; (focus (intro w hSw; (try dsimp only at hSw); simp only [List.getElem_toArray, List.getElem_cons_succ, List.getElem_cons_zero]; all_goals go_simp; all_goals (try with_reducible rfl))); (try simp only [Act.put, List.getElem_toArray, List.getElem_cons_succ, List.getElem_cons_zero, List.setIfInBounds_toArray, List.set_cons_zero, List.set_cons_succ])); refine wpAnyH_done (by kernel_rfl) ?_ _; refine NoPanic.normal ?_; go_wp2_with fail; go_ret2; have hD := B0.done (mb := mb) (db := db) HA.out HB.out HwZ.out 91 rfl; exact ⟨_, _, _, _, _, _, _, rfl, hD.1, hD.2⟩
    · rw [if_pos (by kernel_rfl)]; simp only [List.getElem_toArray, List.getElem_cons_succ, List.getElem_cons_zero]
      go_wp2_with (first | (go_at_call 128; (with_reducible refine (unowned_is _).mono ?_); rintro e wY ⟨G, rfl, hr, hb⟩; have HwY := Lib.hid (HwX.out.own HB.out.size G hr hb); clear hr hb))
      refine hK.out _ _ trivial (fun hHeld => ?_); clear hK; (try simp only [Act.put, List.getElem_toArray, List.getElem_cons_succ, List.getElem_cons_zero, List.setIfInBounds_toArray, List.set_cons_zero, List.set_cons_succ])
      refine wpAnyH_ready (rs := [4, 7]) (by kernel_rfl) (by simp) ?_
      refine AllReadyH.cons (by rfl) (fun K3 hK => ?_) (AllReadyH.cons (by rfl) (fun K3 hK => ?_) AllReadyH.nil)
      · rw [if_pos (by kernel_rfl)]; simp only [List.getElem_toArray, List.getElem_cons_succ, List.getElem_cons_zero]
        obtain ⟨wA, hrun, hown, hgrow⟩ := run_make_full (P := Tryz.prog) wY w.heap.size 88 124 i0 (.agg #[.int .i64 0, .int .i64 0, .int .i64 0]) 3 Tryz.underlying88 HI.out.1 HI.out.2.1 HI.out.2.2.1 .i64 .i64 n (by rw [HI.out.2.2.2]; omega) (by unfold maxLen; omega) (Nat.le_trans HB.out.size HwY.out.bel.size); obtain ⟨A, hA⟩ : ∃ A, wY.heap.size = A := ⟨_, rfl⟩; rw [hA] at hown hrun; have HwA := Lib.hid (HwY.out.mk_ A hA hown hgrow); clear hown hgrow hA; go_wp2_with fail; clear hrun
        refine hK.out _ _ trivial (fun hHeld => ?_); clear hK; (try simp only [Act.put, List.getElem_toArray, List.getElem_cons_succ, List.getElem_cons_zero, List.setIfInBounds_toArray, List.set_cons_zero, List.set_cons_succ])
        refine wpAnyH_ready (rs := [7]) (by kernel_rfl) (by simp) ?_; refine AllReadyH.cons (by rfl) (fun K hK => ?_) AllReadyH.nil; rw [if_pos (by kernel_rfl)]; simp only [List.getElem_toArray, List.getElem_cons_succ, List.getElem_cons_zero]
        go_wp2_with (first | (go_at_call 128; (with_reducible refine (unowned_is _).mono ?_); rintro e wZ ⟨G, rfl, hr, hb⟩; have HwZ := Lib.hid (HwA.out.own HB.out.size G hr hb); clear hr hb))
        refine hK.out _ _ trivial (fun hHeld => ?_); clear hK; (try simp only [Act.put, List.getElem_toArray, List.getElem_cons_succ, List.getElem_cons_zero, List.setIfInBounds_toArray, List.set_cons_zero, List.set_cons_succ])
        refine wpAnyH_take (i := 8) (v := ?_) (by rfl) (by kernel_rfl) (by kernel_rfl) (by kernel_rfl) (fun _ _ _ h => h) (Or.inl ⟨by kernel_rfl, ?_⟩) (by assumption) ?_; rotate_left 1; (focus (intro w hSw; (try dsimp only at hSw); simp only [List.getElem_toArray, List.getElem_cons_succ, List.getElem_cons_zero]; all_goals go_simp; all_goals (try with_reducible rfl))); (try simp only [Act.put, List.getElem_toArray, List.getElem_cons_succ, List.getElem_cons_zero, List.setIfInBounds_toArray, List.set_cons_zero, List.set_cons_succ]); refine wpAnyH_ready (rs := [9]) (by kernel_rfl) (by simp) ?_; refine AllReadyH.cons (by rfl) (fun K hK => ?_) AllReadyH.nil; rw [if_pos (by kernel_rfl)]; simp only [List.getElem_toArray, List.getElem_cons_succ, List.getElem_cons_zero]; go_wp2_with fail; refine hK.out _ _ trivial (fun hHeld => ?_); clear hK; (try simp only [Act.put, List.getElem_toArray, List.getElem_cons_succ, List.getElem_cons_zero, List.setIfInBounds_toArray, List.set_cons_zero, List.set_cons_succ]); (try refine wpAnyH_take (i := 10) (v := ?_) (by rfl) (by kernel_rfl) (by kernel_rfl) (by kernel_rfl) (fun _ _ _ h => h) (Or.inl ⟨by kernel_rfl, ?_⟩) (by assumption) ?_; rotate_left 1; (focus (intro w hSw; (try dsimp only at hSw); simp only [List.getElem_toArray, List.getElem_cons_succ, List.getElem_cons_zero]; all_goals go_simp; all_goals (try with_reducible rfl))); (try simp only [Act.put, List.getElem_toArray, List.getElem_cons_succ, List.getElem_cons_zero, List.setIfInBounds_toArray, List.set_cons_zero, List.set_cons_succ])); (try refine wpAnyH_take (i := 11) (v := ?_) (by rfl) (by kernel_rfl) (by kernel_rfl) (by kernel_rfl) (fun _ _ _ h => h) (Or.inl ⟨by kernel_rfl, ?_⟩) (by assumption) ?_; rotate_left 1; (focus (intro w hSw; (try dsimp only at hSw); simp only [List.getElem_toArray, List.getElem_cons_succ, List.getElem_cons_zero]; all_goals go_simp; all_goals (try with_reducible rfl))); (try simp only [Act.put, List.getElem_toArray, List.getElem_cons_succ, List.getElem_cons_zero, List.setIfInBounds_toArray, List.set_cons_zero, List.set_cons_succ])); refine wpAnyH_done (by kernel_rfl) ?_ _; refine NoPanic.normal ?_; go_wp2_with fail; go_ret2; have hD := B0.done (mb := mb) (db := db) HA.out HB.out HwZ.out 91 rfl; exact ⟨_, _, _, _, _, _, _, rfl, hD.1, hD.2⟩
      · rw [if_pos (by kernel_rfl)]; simp only [List.getElem_toArray, List.getElem_cons_succ, List.getElem_cons_zero]
        go_wp2_with (first | (go_at_call 128; (with_reducible refine (unowned_is _).mono ?_); rintro e wZ ⟨G, rfl, hr, hb⟩; have HwZ := Lib.hid (HwY.out.own HB.out.size G hr hb); clear hr hb))
        refine hK.out _ _ trivial (fun hHeld => ?_); clear hK; (try simp only [Act.put, List.getElem_toArray, List.getElem_cons_succ, List.getElem_cons_zero, List.setIfInBounds_toArray, List.set_cons_zero, List.set_cons_succ])
        refine wpAnyH_ready (rs := [4]) (by kernel_rfl) (by simp) ?_; refine AllReadyH.cons (by rfl) (fun K hK => ?_) AllReadyH.nil; rw [if_pos (by kernel_rfl)]; simp only [List.getElem_toArray, List.getElem_cons_succ, List.getElem_cons_zero]
        obtain ⟨wA, hrun, hown, hgrow⟩ := run_make_full (P := Tryz.prog) wZ w.heap.size 88 124 i0 (.agg #[.int .i64 0, .int .i64 0, .int .i64 0]) 3 Tryz.underlying88 HI.out.1 HI.out.2.1 HI.out.2.2.1 .i64 .i64 n (by rw [HI.out.2.2.2]; omega) (by unfold maxLen; omega) (Nat.le_trans HB.out.size HwZ.out.bel.size); obtain ⟨A, hA⟩ : ∃ A, wZ.heap.size = A := ⟨_, rfl⟩; rw [hA] at hown hrun; have HwA := Lib.hid (HwZ.out.mk_ A hA hown hgrow); clear hown hgrow hA; go_wp2_with fail; clear hrun
        refine hK.out _ _ trivial (fun hHeld => ?_); clear hK; (try simp only [Act.put, List.getElem_toArray, List.getElem_cons_succ, List.getElem_cons_zero, List.setIfInBounds_toArray, List.set_cons_zero, List.set_cons_succ])
        refine wpAnyH_take (i := 8) (v := ?_) (by rfl) (by kernel_rfl) (by kernel_rfl) (by kernel_rfl) (fun _ _ _ h => h) (Or.inl ⟨by kernel_rfl, ?_⟩) (by assumption) ?_; rotate_left 1; (focus (intro w hSw; (try dsimp only at hSw); simp only [List.getElem_toArray, List.getElem_cons_succ, List.getElem_cons_zero]; all_goals go_simp; all_goals (try with_reducible rfl))); (try simp only [Act.put, List.getElem_toArray, List.getElem_cons_succ, List.getElem_cons_zero, List.setIfInBounds_toArray, List.set_cons_zero, List.set_cons_succ]); refine wpAnyH_ready (rs := [9]) (by kernel_rfl) (by simp) ?_; refine AllReadyH.cons (by rfl) (fun K hK => ?_) AllReadyH.nil; rw [if_pos (by kernel_rfl)]; simp only [List.getElem_toArray, List.getElem_cons_succ, List.getElem_cons_zero]; go_wp2_with fail; refine hK.out _ _ trivial (fun hHeld => ?_); clear hK; (try simp only [Act.put, List.getElem_toArray, List.getElem_cons_succ, List.getElem_cons_zero, List.setIfInBounds_toArray, List.set_cons_zero, List.set_cons_succ]); (try refine wpAnyH_take (i := 10) (v := ?_) (by rfl) (by kernel_rfl) (by kernel_rfl) (by kernel_rfl) (fun _ _ _ h => h) (Or.inl ⟨by kernel_rfl, ?_⟩) (by assumption) ?_; rotate_left 1; (focus (intro w hSw; (try dsimp only at hSw); simp only [List.getElem_toArray, List.getElem_cons_succ, List.getElem_cons_zero]; all_goals go_simp; all_goals (try with_reducible rfl))); (try simp only [Act.put, List.getElem_toArray, List.getElem_cons_succ, List.getElem_cons_zero, List.setIfInBounds_toArray, List.set_cons_zero, List.set_cons_succ])); (try refine wpAnyH_take (i := 11) (v := ?_) (by rfl) (by kernel_rfl) (by kernel_rfl) (by kernel_rfl) (fun _ _ _ h => h) (Or.inl ⟨by kernel_rfl, ?_⟩) (by assumption) ?_; rotate_left 1; (focus (intro w hSw; (try dsimp only at hSw); simp only [List.getElem_toArray, List.getElem_cons_succ, List.getElem_cons_zero]; all_goals go_simp; all_goals (try with_reducible rfl))); (try simp only [Act.put, List.getElem_toArray, List.getElem_cons_succ, List.getElem_cons_zero, List.setIfInBounds_toArray, List.set_cons_zero, List.set_cons_succ])); refine wpAnyH_done (by kernel_rfl) ?_ _; refine NoPanic.normal ?_; go_wp2_with fail; go_ret2; have hD := B0.done (mb := mb) (db := db) HA.out HB.out HwA.out 91 rfl; exact ⟨_, _, _, _, _, _, _, rfl, hD.1, hD.2⟩
end Go.Proofs.YtncopdhhchmpeaaGreatDoor
namespace Go.Proofs.YtncopdhhchmpeaaGreatDoor
open Go.ChangeShapes Go.WideShapes Go.ChangeAt Go.RowKit
set_option linter.unusedVariables false
set_option linter.unusedSimpArgs false
/-- The first k are there. -/
def thN (k : Nat) : Nat → Bool := fun i => decide (i < k)
theorem thN_put (k : Nat) : upd (thN k) k true = thN (k + 1) := by
  funext i
  unfold upd thN
  by_cases e : i = k
  · subst e; simp
  · by_cases h : i < k
    · simp [e, h]; omega
    · simp [e, h]; omega
theorem thN_at {k i : Nat} (h : i < k) : thN k i = true := by simp [thN, h]
theorem thN_free (k : Nat) : freeB (thN k) (fun _ => 0) k = true := by simp [freeB, thN]
theorem thN_not (k : Nat) : ∀ i, i < k → freeB (thN k) (fun _ => 0) i = false := fun i hi => by simp [freeB, thN, hi]
theorem prok_put {nb : Nat} {pr : Nat → Int} (hp : PrOk nb pr) (y : Int) (h0 : -1 ≤ y) (h1 : y < nb) : PrOk (nb + 1) (upd pr nb y) := fun i hi => by
  by_cases e : i = nb
  · subst e; rw [upd_at]; omega
  · rw [upd_other _ _ _ _ e]; exact hp i (by omega)
theorem own_slice {w : World} {B : Nat} {v : Value} {L : List Int} (h : w.ownsRow B 3 1 v L.length (L.map (Value.int .i64))) (k : Nat) (hk : Hid (L.length = k)) : ∃ a c, v = .slice a k c := by
  obtain ⟨a, c, hv, _⟩ := own_ints h
  exact ⟨a, c, by rw [hv, hk.out]⟩
theorem low_trans {N : Nat} {w w1 w2 : World} (h : Below N w w1) (h2 : Below w1.heap.size w1 w2) (hN : N ≤ w.heap.size) : Below N w w2 := h.trans (h2.mono (Nat.le_trans hN h.size))
set_option maxRecDepth 100000 in
set_option maxHeartbeats 1000000 in
theorem bopen_ok {base P p B A G1 G2 G3 n c mb db nb : Nat} {pr us lm o1 v1 o2 v2 o3 v3 : Nat → Int} (y lim : Int) (hy0 : -1 ≤ y) (hy1 : y < nb) (hl0 : 0 ≤ lim) (hl1 : lim ≤ 512) (hnb : nb < n) (hpr : Hid (PrOk nb pr)) (hch : Hid ((chL pr y).length < 8)) (w : World) (h : BkAt w base P p B A G1 G2 G3 n c mb db (thN nb) (fun _ => 0) pr us lm o1 v1 o2 v2 o3 v3) :
    Calls Tryz.prog 48 #[.pointer (some ⟨P, 0, none⟩), .int .i64 y, .int .i64 lim] w fun e w' => e = .returned (.tuple #[.int .i64 nb, .int .i64 0, .nilIface]) ∧ BkAt w' base P p B A G1 G2 G3 n c mb db (thN (nb + 1)) (fun _ => 0) (upd pr nb y) (upd us nb 0) (upd lm nb lim) o1 v1 o2 v2 o3 v3 ∧ PBelow w w' B A := by
  have H := Lib.hid h
  have hn := h.ar.le
  have d0 : decide (lim < 0) = false := decide_eq_false (by omega)
  have d1 : decide (512 < lim) = false := decide_eq_false (by omega)
  obtain ⟨m, hm⟩ : ∃ m, Hid ((chL pr y).length = m) := ⟨_, Lib.hid rfl⟩
  have hm8 : m < 8 := by have := hch.out; rw [hm.out] at this; exact this
  have d2 : decide ((8 : Int) ≤ (m : Int)) = false := decide_eq_false (by omega)
  have k0 : (0 : Int) ≤ nb := by omega
  have k1 : (nb : Int) < n := by omega
  clear h
  go_enter Tryz.func48, Tryz.ntmps48
  go_wp2_with (first
    | (go_at_call 77; (with_reducible refine (bchain_is y nb hy0 hy1 (by omega) (Lib.hid (fun i hi => thN_at hi)) hpr _ H.out).mono ?_); rintro e w1 ⟨v, rfl, hr, hb⟩; obtain ⟨a9, c9, hv9⟩ := own_slice hr m hm; subst hv9; have H1 := Lib.hid (H.out.below hb); have HB1 := Lib.hid hb; have f0 := H1.out.f0; clear hr hb)
    | (go_at_call 65; (with_reducible refine (atake_ok _ H1.out.ar nb hnb (Lib.hid (thN_free nb)) (Lib.hid (thN_not nb)) 0 (Lib.hid rfl)).mono ?_); rintro e w2 ⟨rfl, hA, hg⟩; have H2 := Lib.hid (H1.out.turn hA hg); have HB2 := Lib.hid ((PBelow.of_below (B := B) (G := A) HB1.out).trans (PBelow.of hg (.inl rfl))); have f3 := H2.out.f3; have HP := Lib.hid (H2.out.setP nb hnb y); have HU := Lib.hid (HP.out.1.setU nb hnb 0); have HL := Lib.hid (HU.out.1.setL nb hnb lim); have c0 := H2.out.ac0 nb hnb; have c1 := H2.out.ac1 nb hnb; have c2 := H2.out.ac2 nb hnb; have z0 := H2.out.ac.fr (nb * 3); have z1 := H2.out.ac.fr (nb * 3 + 1); have z2 := H2.out.ac.fr (nb * 3 + 2); clear hA hg f0))
  go_ret3
  refine ⟨rfl, ?_, ((HB2.out.trans (PBelow.of HP.out.2 (.inr rfl))).trans (PBelow.of HU.out.2 (.inr rfl))).trans (PBelow.of HL.out.2 (.inr rfl))⟩
  have := HL.out.1
  rw [thN_put] at this
  exact this
theorem bopen_range {P : Nat} (y lim : Int) (hl : ¬ (0 ≤ lim ∧ lim ≤ 512)) (w : World) (v : Value) (hE : w.cell? ⟨1, 0, none⟩ = some v) :
    Calls Tryz.prog 48 #[.pointer (some ⟨P, 0, none⟩), .int .i64 y, .int .i64 lim] w fun e w' => e = .returned (.tuple #[.int .i64 0, .int .i64 0, v]) ∧ Below w.heap.size w w' := by
  by_cases h0 : lim < 0
  · have d0 : decide (lim < 0) = true := decide_eq_true h0
    clear hl h0
    go_enter Tryz.func48, Tryz.ntmps48
    go_wp2_with fail
    go_quiet (fail)
    go_wp2_with fail
    go_ret3
    exact ⟨rfl, below_drewN (Below.refl _ _) _⟩
  · have d0 : decide (lim < 0) = false := decide_eq_false h0
    have d1 : decide (512 < lim) = true := decide_eq_true (by omega)
    clear hl h0
    go_enter Tryz.func48, Tryz.ntmps48
    go_wp2_with fail
    go_quiet (fail)
    go_wp2_with fail
    go_ret3
    exact ⟨rfl, below_drewN (Below.refl _ _) _⟩
set_option maxRecDepth 100000 in
theorem bopen_many {base P p B A G1 G2 G3 n c mb db nb : Nat} {pr us lm o1 v1 o2 v2 o3 v3 : Nat → Int} (y lim : Int) (hy0 : -1 ≤ y) (hy1 : y < nb) (hl0 : 0 ≤ lim) (hl1 : lim ≤ 512) (hnb : nb ≤ n) (hpr : Hid (PrOk nb pr)) (hch : Hid (8 ≤ (chL pr y).length)) (w : World) (h : BkAt w base P p B A G1 G2 G3 n c mb db (thN nb) (fun _ => 0) pr us lm o1 v1 o2 v2 o3 v3) (v : Value) (hE : w.cell? ⟨2, 0, none⟩ = some v) (hl : 2 < w.heap.size) :
    Calls Tryz.prog 48 #[.pointer (some ⟨P, 0, none⟩), .int .i64 y, .int .i64 lim] w fun e w' => e = .returned (.tuple #[.int .i64 0, .int .i64 0, v]) ∧ Below w.heap.size w w' := by
  have H := Lib.hid h
  have hn := h.ar.le
  have d0 : decide (lim < 0) = false := decide_eq_false (by omega)
  have d1 : decide (512 < lim) = false := decide_eq_false (by omega)
  obtain ⟨m, hm⟩ : ∃ m, Hid ((chL pr y).length = m) := ⟨_, Lib.hid rfl⟩
  have hm8 : 8 ≤ m := by have := hch.out; rw [hm.out] at this; exact this
  have d2 : decide ((8 : Int) ≤ (m : Int)) = true := decide_eq_true (by omega)
  clear h
  go_enter Tryz.func48, Tryz.ntmps48
  go_wp2_with (first
    | (go_at_call 77; (with_reducible refine (bchain_is y nb hy0 hy1 hnb (Lib.hid (fun i hi => thN_at hi)) hpr _ H.out).mono ?_); rintro e w1 ⟨v', rfl, hr, hb⟩; obtain ⟨a9, c9, hv9⟩ := own_slice hr m hm; subst hv9; have HB1 := Lib.hid hb; have hE2 := (hb.cell (p := ⟨2, 0, none⟩) hl).trans hE; clear hr hb hE))
  go_quiet (fail)
  go_wp2_with fail
  go_ret3
  exact ⟨rfl, below_drewN HB1.out _⟩
/-- What open answers, told on by Root and by Sub. -/
theorem broot_of {P : Nat} {lim : Int} {w : World} {Q : Ending → World → Prop} (r : Value) (a0 a1 a2 : Value) (hr : r = .tuple #[a0, a1, a2]) (h : Calls Tryz.prog 48 #[.pointer (some ⟨P, 0, none⟩), .int .i64 (-1), .int .i64 lim] w fun e w' => e = .returned r ∧ Q e w') :
    Calls Tryz.prog 12 #[.pointer (some ⟨P, 0, none⟩), .int .i64 lim] w fun e w' => e = .returned r ∧ Q e w' := by
  subst hr
  have HC := Lib.hid h
  clear h
  go_enter Tryz.func12, Tryz.ntmps12
  go_wp2_with (first
    | (go_at_call 48; (with_reducible refine HC.out.mono ?_); rintro e w1 ⟨rfl, hq⟩; have HQ := Lib.hid hq; clear hq))
  go_ret3
  exact ⟨rfl, HQ.out⟩
theorem bsub_of {base P p B A G1 G2 G3 n c mb db nb : Nat} {pr us lm o1 v1 o2 v2 o3 v3 : Nat → Int} (q : Nat) (lim : Int) (hq : q < nb) (hnb : nb ≤ n) {Q : Ending → World → Prop} (r : Value) (a0 a1 a2 : Value) (hr : r = .tuple #[a0, a1, a2]) (w : World) (h0 : BkAt w base P p B A G1 G2 G3 n c mb db (thN nb) (fun _ => 0) pr us lm o1 v1 o2 v2 o3 v3) (h : Calls Tryz.prog 48 #[.pointer (some ⟨P, 0, none⟩), .int .i64 (q : Int), .int .i64 lim] w fun e w' => e = .returned r ∧ Q e w') :
    Calls Tryz.prog 20 #[.pointer (some ⟨P, 0, none⟩), .int .i64 (q : Int), .int .i64 lim] w fun e w' => e = .returned r ∧ Q e w' := by
  subst hr
  have HC := Lib.hid h
  have H := Lib.hid h0
  have f0 := h0.f0
  clear h h0
  go_enter Tryz.func20, Tryz.ntmps20
  go_wp2_with (first
    | (go_at_call 63; (with_reducible refine (athere_in q (by omega) true (Lib.hid (thN_at hq)) _ H.out.ar).mono ?_); rintro e w1 ⟨rfl, rfl⟩)
    | (go_at_call 48; (with_reducible refine HC.out.mono ?_); rintro e w1 ⟨rfl, hq⟩; have HQ := Lib.hid hq; clear hq))
  go_ret3
  exact ⟨rfl, HQ.out⟩
theorem bparent_is {base P p B A G1 G2 G3 n c mb db nb : Nat} {pr us lm o1 v1 o2 v2 o3 v3 : Nat → Int} (q : Nat) (x z : Int) (hx : Hid (x = (q : Int))) (hq : q < nb) (hnb : nb ≤ n) (hz : Hid (pr q = z)) (w : World) (h : BkAt w base P p B A G1 G2 G3 n c mb db (thN nb) (fun _ => 0) pr us lm o1 v1 o2 v2 o3 v3) :
    Calls Tryz.prog 208 #[.pointer (some ⟨P, 0, none⟩), .int .i64 x] w fun e w' => e = .returned (.int .i64 z) ∧ w = w' := by
  rw [hx.out]
  have H := Lib.hid h
  have f0 := h.f0
  have f3 := h.f3
  have c0 := h.ac0 q (by omega)
  rw [hz.out] at c0
  have k0 : (0 : Int) ≤ q := by omega
  have k1 : (q : Int) < n := by omega
  clear h hx
  go_enter Tryz.func208, Tryz.ntmps208
  go_wp2_with (first
    | (go_at_call 63; (with_reducible refine (athere_in q (by omega) true (Lib.hid (thN_at hq)) _ H.out.ar).mono ?_); rintro e w1 ⟨rfl, rfl⟩))
  go_ret
  exact ⟨rfl, rfl⟩
theorem bused_is {base P p B A G1 G2 G3 n c mb db nb : Nat} {pr us lm o1 v1 o2 v2 o3 v3 : Nat → Int} (q : Nat) (x z : Int) (hx : Hid (x = (q : Int))) (hq : q < nb) (hnb : nb ≤ n) (hz : Hid (us q = z)) (w : World) (h : BkAt w base P p B A G1 G2 G3 n c mb db (thN nb) (fun _ => 0) pr us lm o1 v1 o2 v2 o3 v3) :
    Calls Tryz.prog 34 #[.pointer (some ⟨P, 0, none⟩), .int .i64 x] w fun e w' => e = .returned (.int .i64 z) ∧ w = w' := by
  rw [hx.out]
  have H := Lib.hid h
  have f0 := h.f0
  have f3 := h.f3
  have c0 := h.ac1 q (by omega)
  rw [hz.out] at c0
  have k0 : (0 : Int) ≤ q := by omega
  have k1 : (q : Int) < n := by omega
  clear h hx
  go_enter Tryz.func34, Tryz.ntmps34
  go_wp2_with (first
    | (go_at_call 63; (with_reducible refine (athere_in q (by omega) true (Lib.hid (thN_at hq)) _ H.out.ar).mono ?_); rintro e w1 ⟨rfl, rfl⟩))
  go_ret
  exact ⟨rfl, rfl⟩
theorem blimit_is {base P p B A G1 G2 G3 n c mb db nb : Nat} {pr us lm o1 v1 o2 v2 o3 v3 : Nat → Int} (q : Nat) (x z : Int) (hx : Hid (x = (q : Int))) (hq : q < nb) (hnb : nb ≤ n) (hz : Hid (lm q = z)) (w : World) (h : BkAt w base P p B A G1 G2 G3 n c mb db (thN nb) (fun _ => 0) pr us lm o1 v1 o2 v2 o3 v3) :
    Calls Tryz.prog 157 #[.pointer (some ⟨P, 0, none⟩), .int .i64 x] w fun e w' => e = .returned (.int .i64 z) ∧ w = w' := by
  rw [hx.out]
  have H := Lib.hid h
  have f0 := h.f0
  have f3 := h.f3
  have c0 := h.ac2 q (by omega)
  rw [hz.out] at c0
  have k0 : (0 : Int) ≤ q := by omega
  have k1 : (q : Int) < n := by omega
  clear h hx
  go_enter Tryz.func157, Tryz.ntmps157
  go_wp2_with (first
    | (go_at_call 63; (with_reducible refine (athere_in q (by omega) true (Lib.hid (thN_at hq)) _ H.out.ar).mono ?_); rintro e w1 ⟨rfl, rfl⟩))
  go_ret
  exact ⟨rfl, rfl⟩
set_option maxRecDepth 100000 in
theorem six_nil (a : Option Addr) (d c : Nat) (hd : d = 0) (x : Int) (w : World) :
    Calls Tryz.prog 103 #[.slice a d c, .int .i64 x] w fun e w' => e = .returned (.int .i64 (-1)) ∧ w = w' := by
  have HD := Lib.hid hd
  clear hd
  go_enter Tryz.func103, Tryz.ntmps103
  go_wp2_with fail
  go_loop [8] (fun i => ∃ k : Nat, k ≤ d ∧ i = .int .i64 k) (fun i => d - (intOf i).toNat)
  case atStart => exact ⟨0, by omega, rfl⟩
  case round =>
    obtain ⟨k, hk, rfl⟩ := hrel
    obtain rfl : d = k := by have := HD.out; omega
    have hdd : decide (d < d) = false := by simp
    go_wp2_with fail
    go_ret
    exact ⟨rfl, rfl⟩
set_option maxRecDepth 100000 in
theorem scon_any (w : World) (B : Nat) (v : Value) (L : List Int) (k : Nat) (hk : Hid (L.length = k)) (hk2 : k ≤ 1000) (x : Int) (b : Bool) (hb : Hid (L.contains x = b)) (a : Option Addr) (c : Nat) (hv : v = .slice a k c) (h : w.ownsRow B 3 1 v L.length (L.map (Value.int .i64))) :
    Calls Tryz.prog 71 #[.slice a k c, .int .i64 x] w fun e w' => e = .returned (.bool b) ∧ w = w' := by
  obtain ⟨a', c', hv', ha⟩ := own_ints h
  rw [hv] at hv'
  have e1 : a = a' := by injection hv'
  have e2 : k = L.length := by injection hv'
  subst e1
  by_cases h0 : 0 < L.length
  · obtain ⟨g, hg, hr, _⟩ := ha h0
    subst hg
    rw [← e2] at hr
    refine scon_is g k c L x hk2 b (Lib.hid ?_) w hr
    rw [← hb.out, List.contains_iff_mem, mem_getD, ← e2]
  · have hL : L = [] := List.eq_nil_of_length_eq_zero (by omega)
    subst hL
    have hk0 : k = 0 := by simpa using e2
    subst hk0
    have hb0 : b = false := by rw [← hb.out]; rfl
    subst hb0
    have HC := Lib.hid (six_nil a 0 c rfl x w)
    clear h ha hv hv' hb e2 hk h0
    go_enter Tryz.func71, Tryz.ntmps71
    go_wp2_with (first | (go_at_call 103; (with_reducible refine HC.out.mono ?_); rintro e w1 ⟨rfl, rfl⟩))
    go_ret
    exact ⟨rfl, rfl⟩
set_option maxRecDepth 100000 in
theorem bwithin_is {base P p B A G1 G2 G3 n c mb db nb : Nat} {pr us lm o1 v1 o2 v2 o3 v3 : Nat → Int} (y z : Int) (t : Bool) (hy0 : -1 ≤ y) (hy1 : y < nb) (hnb : nb ≤ n) (hpr : Hid (PrOk nb pr)) (ht : Hid ((chL pr y).contains z = t)) (w : World) (h : BkAt w base P p B A G1 G2 G3 n c mb db (thN nb) (fun _ => 0) pr us lm o1 v1 o2 v2 o3 v3) :
    Calls Tryz.prog 104 #[.pointer (some ⟨P, 0, none⟩), .int .i64 y, .int .i64 z] w fun e w' => e = .returned (.bool t) ∧ Below w.heap.size w w' := by
  have H := Lib.hid h
  have hn := h.ar.le
  obtain ⟨m, hm⟩ : ∃ m, Hid ((chL pr y).length = m) := ⟨_, Lib.hid rfl⟩
  have hmn : m ≤ 1000 := by rw [← hm.out]; have := (chL_bound hpr.out (by omega) nb y hy1 (Nat.le_refl _)).1; omega
  clear h
  go_enter Tryz.func104, Tryz.ntmps104
  go_wp2_with (first
    | (go_at_call 77; (with_reducible refine (bchain_is y nb hy0 hy1 hnb (Lib.hid (fun i hi => thN_at hi)) hpr _ H.out).mono ?_); rintro e w1 ⟨v', rfl, hr, hb⟩; obtain ⟨a9, c9, hv9⟩ := own_slice hr m hm; have HCo := Lib.hid (scon_any w1 _ v' _ m hm hmn z t ht a9 c9 hv9 hr); subst hv9; have HB1 := Lib.hid hb; clear hr hb)
    | (go_at_call 71; (with_reducible refine HCo.out.mono ?_); rintro e w2 ⟨rfl, rfl⟩))
  go_ret
  exact ⟨rfl, HB1.out⟩
end Go.Proofs.YtncopdhhchmpeaaGreatDoor
namespace Go.Proofs.YtncopdhhchmpeaaGreatDoor
open Go.ChangeShapes Go.WideShapes Go.ChangeAt Go.RowKit
set_option linter.unusedVariables false
set_option linter.unusedSimpArgs false
/-- Where all of it lies. -/
structure BLoc where
  mb : Nat
  S : Nat
  a : Shp
  b : Shp
  N : Nat
  cb : Nat
  dB : Nat
  dP : Nat
  dp : Nat
  dR : Nat
  dG : Nat
  dQ : Nat
  dn : Nat
  dc : Nat
  bB : Nat
  P : Nat
  p : Nat
  B : Nat
  A : Nat
  G1 : Nat
  G2 : Nat
  G3 : Nat
  n : Nat
  c : Nat
  T : Nat
  z : Int
/-- What it is. -/
structure BSt where
  nt : Nat → Bool
  nv : Nat → Int
  nW : Nat → Nat → Value
  pt : Nat → Bool
  pv : Nat → Int
  pW : Nat → Nat → Int
  dt : Nat → Bool
  dv : Nat → Int
  dW : Nat → Nat → Value
  nb : Nat
  pr : Nat → Int
  us : Nat → Int
  lm : Nat → Int
  o1 : Nat → Int
  v1 : Nat → Int
  o2 : Nat → Int
  v2 : Nat → Int
  o3 : Nat → Int
  v3 : Nat → Int
def BKD (w : World) (L : BLoc) (D : BSt) : Prop := BkAt w L.bB L.P L.p L.B L.A L.G1 L.G2 L.G3 L.n L.c L.mb L.dP (thN D.nb) (fun _ => 0) D.pr D.us D.lm D.o1 D.v1 D.o2 D.v2 D.o3 D.v3
def DMD (w : World) (L : BLoc) (D : BSt) : Prop := DsAt w L.dB L.dP L.dp L.dR L.dG L.dQ L.dn L.dc D.dt D.dv D.dW
def MMD (w0 w : World) (L : BLoc) (D : BSt) : Prop := MemAt w0 w L.mb L.S L.a L.b L.N L.cb L.z D.nt D.nv D.nW D.pt D.pv D.pW 0 (.slice none 0 0) []
/-- Banks over domains over a memory over a law's start. -/
structure BW (w0 w : World) (L : BLoc) (D : BSt) : Prop where
  m : MMD w0 w L D
  d : DMD w L D
  k : BKD w L D
  md : L.mb < L.dB ∧ L.cb < L.dB ∧ L.N ≤ L.dB
  db : L.dP < L.bB ∧ L.dp < L.bB ∧ L.dR < L.bB ∧ L.dG < L.bB ∧ L.dQ < L.bB
  dl : L.dB ≤ L.bB
  pk : PrOk D.nb D.pr
  nn : D.nb ≤ L.n
  tt : L.bB ≤ L.T ∧ L.P < L.T ∧ L.p < L.T ∧ L.B < L.T ∧ L.A < L.T ∧ L.G1 < L.T ∧ L.G2 < L.T ∧ L.G3 < L.T
  tw : L.T ≤ w.heap.size
/-- What lies behind all of it stays. -/
def UpT (T : Nat) (w w' : World) : Prop := w.heap.size ≤ w'.heap.size ∧ ∀ k, T ≤ k → k < w.heap.size → w'.heap[k]? = w.heap[k]?
theorem UpT.refl (T : Nat) (w : World) : UpT T w w := ⟨Nat.le_refl _, fun _ _ _ => rfl⟩
theorem UpT.trans {T : Nat} {w w1 w2 : World} (h : UpT T w w1) (h2 : UpT T w1 w2) : UpT T w w2 := ⟨Nat.le_trans h.1 h2.1, fun k h3 h4 => (h2.2 k h3 (Nat.lt_of_lt_of_le h4 h.1)).trans (h.2 k h3 h4)⟩
theorem UpT.below {T : Nat} {w w1 : World} (h : Below w.heap.size w w1) : UpT T w w1 := ⟨h.size, fun k _ hk => h.block k hk⟩
theorem UpT.grown {T g : Nat} {w w1 : World} (h : w.grownBy w1 (some g)) (hg : g < T) : UpT T w w1 := ⟨h.size, fun k hk hk2 => h.block k hk2 (fun e => by injection e with e; omega)⟩
theorem UpT.pb {T B G : Nat} {w w1 : World} (h : PBelow w w1 B G) (h1 : B < T) (h2 : G < T) : UpT T w w1 := ⟨h.2.2.2.1, fun k hk hk2 => h.2.2.2.2 k hk2 (by omega) (by omega)⟩
section
variable {w0 w w' : World} {L : BLoc} {D D' : BSt}
theorem BW.bel (h : BW w0 w L D) : Below w0.heap.size w0 w := h.m.sv.bel
theorem BW.mn (h : BW w0 w L D) : w0.heap.size ≤ L.N := h.m.n0
theorem BW.bl (h : BW w0 w L D) : L.bB ≤ w.heap.size := Nat.le_of_lt (Nat.lt_of_le_of_lt h.k.pb h.k.pl)
theorem BW.dlow (h : BW w0 w L D) : L.dB ≤ w.heap.size := Nat.le_trans h.dl h.bl
theorem BW.below (h : BW w0 w L D) (hb : Below w.heap.size w w') : BW w0 w' L D := ⟨MemAt.below h.m hb, DsAt.below h.d hb, BkAt.below h.k hb, h.md, h.db, h.dl, h.pk, h.nn, h.tt, Nat.le_trans h.tw hb.size⟩
/-- What lies behind a memory was changed. -/
theorem MMD.low (h : MMD w0 w L D) {M : Nat} (hb : Below M w w') (h1 : L.mb < M) (h2 : L.cb < M) (h3 : L.N ≤ M) : MMD w0 w' L D := by
  have e := hb.block L.mb h1
  exact ⟨⟨h.sv.bel.trans (hb.mono (Nat.le_trans h.n0 h3)), h.sv.wb, h.sv.st.under h.lo hb.size (fun k hk => hb.block k (by omega))⟩, h.lo, h.n0, Nat.le_trans h.nN hb.size, (World.cell?_of_block (a := ⟨L.mb, 0, none⟩) e).trans h.m0, (World.cell?_of_block (a := ⟨L.mb, 1, none⟩) e).trans h.m1, Nat.lt_of_lt_of_le h.ml hb.size, h.mn, h.mo, ⟨h.ca.nb, Nat.lt_of_lt_of_le h.ca.cl hb.size, (World.cell?_of_block (a := ⟨L.cb, 0, none⟩) (hb.block L.cb h2)).trans h.ca.c0, (World.cell?_of_block (a := ⟨L.cb, 1, none⟩) (hb.block L.cb h2)).trans h.ca.c1, (World.cell?_of_block (a := ⟨L.cb, 2, none⟩) (hb.block L.cb h2)).trans h.ca.c2, fun j => (World.frozen?_of_block (a := ⟨L.cb, j, none⟩) (hb.block L.cb h2)).trans (h.ca.fr j), World.ownsRow_nil _ _ _ _, h.ca.ne, fun e he => by cases he⟩, h.ok⟩
theorem RowO.same {base e s n : Nat} {T : TypeId} {G : Nat} {xs : List Value} (h : w.ownsRow base T s (.slice (some ⟨G, 0, none⟩) n n) n xs) (hb : w'.heap[G]? = w.heap[G]?) : w'.ownsRow base T s (.slice (some ⟨G, 0, none⟩) n n) n xs := by
  refine ⟨h.1, ?_⟩
  rcases h.2 with hn | ⟨g', cap, cur, e', hB, hg, rest⟩
  · exact .inl hn
  · refine .inr ⟨g', cap, cur, e', hB, ?_, rest⟩
    simp at e'
    rw [← e'.1, hb, e'.1]; exact hg
theorem DMD.low (h : DMD w L D) {M : Nat} (hb : Below M w w') (h1 : L.dP < M ∧ L.dp < M ∧ L.dR < M ∧ L.dG < M ∧ L.dQ < M) : DMD w' L D := by
  have hP := hb.block L.dP h1.1
  exact ⟨⟨Nat.lt_of_lt_of_le h.pl.pl hb.size, h.pl.pb, (World.cell?_of_block (a := ⟨L.dP, 0, none⟩) hP).trans h.pl.f0, (World.cell?_of_block (a := ⟨L.dP, 1, none⟩) hP).trans h.pl.f1, h.pl.ar.same2 hb.size (hb.block _ h1.2.1) (hb.block _ h1.2.2.1), RowO.same (e := 0) h.pl.row (hb.block _ h1.2.2.2.1), h.pl.n1, h.pl.n2, h.pl.n3, h.pl.n4⟩, (World.cell?_of_block (a := ⟨L.dP, 2, none⟩) hP).trans h.f2, RowO.same (e := 0) h.qs (hb.block _ h1.2.2.2.2), h.q1, h.q2, h.q3⟩
/-- The banks were changed, and nothing else that was there. -/
theorem BW.bank (h : BW w0 w L D) (hk : BKD w' L D') (hb : Below L.bB w w') (h1 : D' = { D with nb := D'.nb, pr := D'.pr, us := D'.us, lm := D'.lm, o1 := D'.o1, v1 := D'.v1, o2 := D'.o2, v2 := D'.v2, o3 := D'.o3, v3 := D'.v3 }) (hp : PrOk D'.nb D'.pr) (hn : D'.nb ≤ L.n) : BW w0 w' L D' := by
  have hm := MMD.low h.m hb (by have := h.md; have := h.dl; omega) (by have := h.md; have := h.dl; omega) (by have := h.md; have := h.dl; omega)
  have hd := DMD.low h.d hb h.db
  refine ⟨?_, ?_, hk, h.md, h.db, h.dl, hp, hn, h.tt, Nat.le_trans h.tw hb.size⟩
  · rw [h1]; exact hm
  · rw [h1]; exact hd
/-- The pages were changed. -/
theorem BW.page (h : BW w0 w L D) {pt' : Nat → Bool} {pv' : Nat → Int} {pW' : Nat → Nat → Int} (hP : PgAt w' L.b.b L.b.P L.b.p L.b.B L.b.G L.b.n L.b.c pt' pv' pW') (hb : PBelow w w' L.b.B L.b.G) : BW w0 w' L { D with pt := pt', pv := pv', pW := pW' } := by
  have hl := h.m.lo.p
  have hmd := h.md
  have hdl := h.dl
  refine ⟨MemAt.page h.m hP hb ways_nil, DsAt.same h.d hb.2.2.2.1 (fun k hk1 hk2 => hb.2.2.2.2 k hk2 (by omega) (by omega)), BkAt.same h.k hb.2.2.2.1 (fun k hk1 hk2 => hb.2.2.2.2 k hk2 (by omega) (by omega)), h.md, h.db, h.dl, h.pk, h.nn, h.tt, Nat.le_trans h.tw hb.2.2.2.1⟩
theorem BW.node (h : BW w0 w L D) {nt' : Nat → Bool} {nv' : Nat → Int} {nW' : Nat → Nat → Value} (hN : NdAt w' L.a.b L.a.P L.a.p L.a.B L.a.G L.a.n L.a.c nt' nv' nW') (hb : PBelow w w' L.a.B L.a.G) : BW w0 w' L { D with nt := nt', nv := nv', nW := nW' } := by
  have hl := h.m.lo.n
  have hmd := h.md
  have hdl := h.dl
  refine ⟨MemAt.node h.m hN hb ways_nil, DsAt.same h.d hb.2.2.2.1 (fun k hk1 hk2 => hb.2.2.2.2 k hk2 (by omega) (by omega)), BkAt.same h.k hb.2.2.2.1 (fun k hk1 hk2 => hb.2.2.2.2 k hk2 (by omega) (by omega)), h.md, h.db, h.dl, h.pk, h.nn, h.tt, Nat.le_trans h.tw hb.2.2.2.1⟩
/-- The domains were changed. -/
theorem BW.doms (h : BW w0 w L D) {dt' : Nat → Bool} {dv' : Nat → Int} {dW' : Nat → Nat → Value} (hD : DsAt w' L.dB L.dP L.dp L.dR L.dG L.dQ L.dn L.dc dt' dv' dW') (hb : PBelow w w' L.dR L.dG) : BW w0 w' L { D with dt := dt', dv := dv', dW := dW' } := by
  have hdb := h.db
  have hmd := h.md
  have hl1 := h.d.pl.ar.lt.1
  have hl2 := h.d.pl.gl.1
  have hb2 : Below L.dB w w' := hb.below hl1 hl2 h.dlow
  exact ⟨MMD.low h.m hb2 hmd.1 hmd.2.1 hmd.2.2, hD, BkAt.same h.k hb.2.2.2.1 (fun k hk1 hk2 => hb.2.2.2.2 k hk2 (by omega) (by omega)), h.md, h.db, h.dl, h.pk, h.nn, h.tt, Nat.le_trans h.tw hb.2.2.2.1⟩
end
theorem chL_nodup {nb : Nat} {pr : Nat → Int} (hp : PrOk nb pr) (hb : nb ≤ 256) : ∀ (q : Nat) (y : Int), y < q → q ≤ nb → (chL pr y).Nodup := by
  intro q
  induction q with
  | zero => intro y hy _; rw [chL_neg pr y (by omega)]; exact List.nodup_nil
  | succ q ih =>
    intro y hy hq
    by_cases h0 : y < 0
    · rw [chL_neg pr y h0]; exact List.nodup_nil
    · obtain ⟨k, rfl⟩ : ∃ k : Nat, y = k := ⟨y.toNat, by omega⟩
      have h := hp k (by omega)
      rw [chL_cons hp k (by omega) hb, List.nodup_cons]
      exact ⟨fun hm => by have := ((chL_bound hp hb k (pr k) (by omega) (by omega)).2 _ hm).2; omega, ih (pr k) (by omega) (by omega)⟩
/-- So many more for each of a list. -/
def addL (us : Nat → Int) (l : List Int) (x : Int) : Nat → Int := fun i => if l.contains (i : Int) = true then us i + x else us i
theorem addL_nil (us : Nat → Int) (x : Int) : addL us [] x = us := by funext i; simp [addL]
theorem addL_snoc (us : Nat → Int) (l : List Int) (q : Nat) (x : Int) (hq : (q : Int) ∉ l) : upd (addL us l x) q (us q + x) = addL us (l ++ [(q : Int)]) x := by
  funext i
  unfold upd addL
  by_cases e : i = q
  · subst e; simp
  · have e2 : ¬ (i : Int) = (q : Int) := by omega
    simp [e, e2]
theorem take_snoc (L : List Int) (k : Nat) (h : k < L.length) : L.take (k + 1) = L.take k ++ [L.getD k 0] := by
  rw [List.take_succ_eq_append_getElem h]
  simp [List.getD, h]
theorem take_notin (L : List Int) (h : L.Nodup) (k : Nat) (hk : k < L.length) : L.getD k 0 ∉ L.take k := by
  intro hm
  have e : L.getD k 0 = L[k] := by simp [List.getD, hk]
  rw [e] at hm
  rw [List.mem_iff_getElem] at hm
  obtain ⟨i, hi, he⟩ := hm
  simp at hi
  rw [List.getElem_take] at he
  exact List.pairwise_iff_getElem.1 h i k (by omega) hk (by omega) he
set_option maxRecDepth 100000 in
set_option maxHeartbeats 1000000 in
theorem bcount_is {base P p B A G1 G2 G3 n c mb db nb : Nat} {pr us lm o1 v1 o2 v2 o3 v3 : Nat → Int} (l : List Int) (k : Nat) (hk : Hid (l.length = k)) (hk1 : k ≤ 1000) (a : Option Addr) (c2 : Nat) (hl : Hid (∀ z, z ∈ l → 0 ≤ z ∧ z < n)) (hnd : Hid (l.Nodup)) (x : Int) (hx : -1000 ≤ x ∧ x ≤ 1000) (hu : Hid (∀ i, i < n → -1000000 ≤ us i ∧ us i ≤ 1000000)) (w : World) (h : BkAt w base P p B A G1 G2 G3 n c mb db (thN nb) (fun _ => 0) pr us lm o1 v1 o2 v2 o3 v3) (hr : ∀ i, i < k → ∃ g, a = some ⟨g, 0, none⟩ ∧ g < w.heap.size ∧ g ≠ A ∧ w.cell? ⟨g, i, none⟩ = some (.int .i64 (l.getD i 0))) :
    Calls Tryz.prog 76 #[.pointer (some ⟨P, 0, none⟩), .slice a k c2, .int .i64 x] w fun e w' => e = .returned (.tuple #[]) ∧ BkAt w' base P p B A G1 G2 G3 n c mb db (thN nb) (fun _ => 0) pr (addL us l x) lm o1 v1 o2 v2 o3 v3 ∧ w.grownBy w' (some A) := by
  have H := Lib.hid h
  have HR := Lib.hid hr
  have hn := h.ar.le
  clear h hr
  go_enter Tryz.func76, Tryz.ntmps76
  go_wp2_with fail
  go_loopw [10] (fun i wr => ∃ j : Nat, j ≤ k ∧ i = .int .i64 j ∧ BkAt wr base P p B A G1 G2 G3 n c mb db (thN nb) (fun _ => 0) pr (addL us (l.take j) x) lm o1 v1 o2 v2 o3 v3 ∧ w.grownBy wr (some A)) (fun i _ => k - (intOf i).toNat)
  case atStart => exact ⟨0, by omega, rfl, by rw [List.take_zero, addL_nil]; exact H.out, ⟨rfl, rfl, rfl, Nat.le_refl _, fun _ _ _ => rfl⟩⟩
  case round =>
    obtain ⟨j, hj, rfl, hB, hg⟩ := hrel
    have HB := Lib.hid hB
    have HG := Lib.hid hg
    clear hB hg
    by_cases hlt : j < k
    · obtain ⟨g, hag, hgl, hgA, hc⟩ := HR.out j hlt
      have hc2 := (World.cell?_of_block (a := ⟨g, j, none⟩) (HG.out.block g hgl (fun e => hgA (by injection e)))).trans hc
      have hjl : j < l.length := by rw [hk.out]; exact hlt
      have hm : l.getD j 0 ∈ l := by simp [List.getD, hjl]
      have hq := hl.out _ hm
      have hni := take_notin l hnd.out j hjl
      have hts := take_snoc l j hjl
      obtain ⟨q, hq0⟩ : ∃ q : Nat, l.getD j 0 = q := ⟨(l.getD j 0).toNat, by omega⟩
      rw [hq0] at hc2 hq hni hts
      have hqn : q < n := by omega
      have hv : addL us (l.take j) x q = us q := by
        unfold addL
        rw [if_neg (by rw [List.contains_iff_mem]; exact hni)]
      have c1 := HB.out.ac1 q hqn
      rw [hv] at c1
      have hu2 := hu.out q hqn
      have f3 := HB.out.f3
      have z1 := HB.out.ac.fr (q * 3 + 1)
      have HS := HB.out.setU q hqn (us q + x)
      rw [addL_snoc us (l.take j) q x hni, ← hts] at HS
      have HS := Lib.hid HS
      have HGS := Lib.hid (grown_more HG.out ((HB.out.ac.set q 1 hqn (by decide) (.int .i64 (us q + x))).2))
      have hwr : IntKind.i64.wrap (us q + x) = us q + x := by rw [IntKind.wrap_i64]; omega
      generalize us q = uq at c1 hwr HS HGS
      have k0 : (0 : Int) ≤ j := by omega
      have k1 : (0 : Int) ≤ q := by omega
      have k2 : (q : Int) < n := by omega
      subst hag
      clear hc hts hni hm hq hq0 hv hu2
      go_wp2_with fail
      go_roundw
      case rel => exact ⟨j + 1, by omega, by go_num, HS.out.1, HGS.out⟩
      case measure => simp [intOf]; omega
    · obtain rfl : j = k := by omega
      have hdd : decide (j < j) = false := by simp
      have HT : Hid (l.take j = l) := Lib.hid (List.take_of_length_le (by rw [hk.out]; exact Nat.le_refl _))
      go_wp2_with fail
      go_end0
      exact ⟨rfl, by rw [← HT.out]; exact HB.out, HG.out⟩
set_option maxRecDepth 100000 in
theorem bfull_is {base P p B A G1 G2 G3 n c mb db nb : Nat} {pr us lm o1 v1 o2 v2 o3 v3 : Nat → Int} (q : Nat) (hq : q < n) (t : Bool) (ht : Hid (decide (lm q ≤ us q) = t)) (w : World) (h : BkAt w base P p B A G1 G2 G3 n c mb db (thN nb) (fun _ => 0) pr us lm o1 v1 o2 v2 o3 v3) :
    Calls Tryz.prog 90 #[.pointer (some ⟨P, 0, none⟩), .int .i64 (q : Int)] w fun e w' => e = .returned (.bool t) ∧ Below w.heap.size w w' := by
  have hd := Lib.hid (h.below (Below.refl w.heap.size w).drew)
  have f3 := h.f3
  have c1 := h.ac1 q hq
  have c2 := h.ac2 q hq
  have ht2 := ht.out
  have k1 : (0 : Int) ≤ q := by omega
  have k2 : (q : Int) < n := by omega
  clear h ht
  generalize us q = x at c1 ht2
  generalize lm q = y at c2 ht2
  go_enter Tryz.func90, Tryz.ntmps90
  go_wp2_with fail
  go_quiet (fail)
  go_wp2_with fail
  go_ret
  exact ⟨rfl, below_drewN (Below.refl _ _) _⟩
end Go.Proofs.YtncopdhhchmpeaaGreatDoor
namespace Go.Proofs.YtncopdhhchmpeaaGreatDoor
open Go.ChangeShapes Go.WideShapes Go.ChangeAt Go.RowKit
set_option linter.unusedVariables false
set_option linter.unusedSimpArgs false
abbrev fnFullV (P : Nat) : Value := .func (.func 90) #[.pointer (some ⟨P, 0, none⟩)] #[]
section
variable {w0 w w' : World} {L : BLoc} {D : BSt}
theorem BW.kk (h : BW w0 w L D) : BkAt w L.bB L.P L.p L.B L.A L.G1 L.G2 L.G3 L.n L.c L.mb L.dP (thN D.nb) (fun _ => 0) D.pr D.us D.lm D.o1 D.v1 D.o2 D.v2 D.o3 D.v3 := h.k
theorem BW.dd (h : BW w0 w L D) : DsAt w L.dB L.dP L.dp L.dR L.dG L.dQ L.dn L.dc D.dt D.dv D.dW := h.d
theorem BW.mm (h : BW w0 w L D) : MemAt w0 w L.mb L.S L.a L.b L.N L.cb L.z D.nt D.nv D.nW D.pt D.pv D.pW 0 (.slice none 0 0) [] := h.m
theorem BW.n256 (h : BW w0 w L D) : L.n ≤ 256 := h.kk.ar.le
theorem BW.pn (h : BW w0 w L D) : L.b.n ≤ 256 := h.mm.sv.st.pg.ar.le
theorem BW.an (h : BW w0 w L D) : L.a.n ≤ 256 := h.mm.sv.st.nd.ar.le
theorem BW.dn256 (h : BW w0 w L D) : L.dn ≤ 256 := h.dd.pl.ar.le
theorem BW.lowT (h : BW w0 w L D) : L.mb < L.T ∧ L.S < L.T ∧ L.a.B < L.T ∧ L.a.G < L.T ∧ L.b.B < L.T ∧ L.b.G < L.T ∧ L.cb < L.T ∧ L.dR < L.T ∧ L.dG < L.T := by
  have h1 := h.mm.lo
  have h2 := h.md
  have h3 := h.dl
  have h4 := h.tt
  have h5 := h.db
  have h6 := h1.s
  have h7 := h1.n
  have h8 := h1.p
  omega
end
/-- A row of numbers that was made behind it all stays. -/
theorem rowT {w1 : World} {T M0 : Nat} {v : Value} {l : List Int} {a : Option Addr} {m c : Nat} (hr : w1.ownsRow M0 3 1 v l.length (l.map (Value.int .i64))) (hv : v = .slice a m c) (hm : l.length = m) (hT : T ≤ M0) (W : World) (hu : UpT T w1 W) : ∀ i, i < m → ∃ g, a = some ⟨g, 0, none⟩ ∧ T ≤ g ∧ g < W.heap.size ∧ W.cell? ⟨g, i, none⟩ = some (.int .i64 (l.getD i 0)) := by
  intro i hi
  obtain ⟨a', c', hv', ha⟩ := own_ints hr
  rw [hv] at hv'
  have e1 : a = a' := by injection hv'
  obtain ⟨g, hg, hc, hB, hlt⟩ := ha (by omega)
  rw [← e1] at hg
  exact ⟨g, hg, by omega, Nat.lt_of_lt_of_le hlt hu.1, (World.cell?_of_block (a := ⟨g, i, none⟩) (hu.2 g (by omega) hlt)).trans (hc i (by omega))⟩
def fullB (us lm : Nat → Int) (z : Int) : Bool := decide (lm z.toNat ≤ us z.toNat)
set_option maxRecDepth 100000 in
set_option maxHeartbeats 1000000 in
theorem bidx_no {base P p B A G1 G2 G3 n c mb db nb : Nat} {pr us lm o1 v1 o2 v2 o3 v3 : Nat → Int} (l : List Int) (k : Nat) (hk : Hid (l.length = k)) (hk1 : k ≤ 1000) (a : Option Addr) (c2 : Nat) (hl : Hid (∀ z, z ∈ l → 0 ≤ z ∧ z < n)) (hno : Hid (∀ i, i < k → fullB us lm (l.getD i 0) = false)) (w : World) (h : BkAt w base P p B A G1 G2 G3 n c mb db (thN nb) (fun _ => 0) pr us lm o1 v1 o2 v2 o3 v3) (hr : ∀ i, i < k → ∃ g, a = some ⟨g, 0, none⟩ ∧ g < w.heap.size ∧ w.cell? ⟨g, i, none⟩ = some (.int .i64 (l.getD i 0))) :
    Calls Tryz.prog 129 #[.slice a k c2, fnFullV P] w fun e w' => e = .returned (.int .i64 (-1)) ∧ Below w.heap.size w w' := by
  have H := Lib.hid h
  have HR := Lib.hid hr
  clear h hr
  go_enter Tryz.func129, Tryz.ntmps129
  go_wp2_with fail
  go_loopw [8] (fun i wr => ∃ j : Nat, j ≤ k ∧ i = .int .i64 j ∧ Below w.heap.size w wr) (fun i _ => k - (intOf i).toNat)
  case atStart => exact ⟨0, by omega, rfl, Below.refl _ _⟩
  case round =>
    obtain ⟨j, hj, rfl, hB⟩ := hrel
    have HB := Lib.hid hB
    by_cases hlt : j < k
    · obtain ⟨g, hag, hgl, hc⟩ := HR.out j hlt
      have hc2 := (hB.cell (p := ⟨g, j, none⟩) hgl).trans hc
      have hm : l.getD j 0 ∈ l := by have := hk.out; simp [List.getD, show j < l.length by omega]
      have hq := hl.out _ hm
      have hf := hno.out j hlt
      obtain ⟨q, hq0⟩ : ∃ q : Nat, l.getD j 0 = q := ⟨(l.getD j 0).toNat, by omega⟩
      rw [hq0] at hc2 hq hf
      have HF : Hid (decide (lm q ≤ us q) = false) := Lib.hid hf
      have hqn : q < n := by omega
      subst hag
      have k0 : (0 : Int) ≤ j := by omega
      clear hB hc hm hq hq0 hf
      go_wp2_with (first | (go_at_call 90; (with_reducible refine (bfull_is q hqn false HF _ (H.out.below HB.out)).mono ?_); rintro e w1 ⟨rfl, hb⟩; have HB2 := Lib.hid (HB.out.trans (hb.mono HB.out.size)); clear hb hc2))
      go_roundw
      case rel => exact ⟨j + 1, by omega, by go_num, HB2.out⟩
      case measure => simp [intOf]; omega
    · obtain rfl : j = k := by omega
      have hdd : decide (j < j) = false := by simp
      clear hB
      go_wp2
      go_ret
      exact ⟨rfl, HB.out⟩
set_option maxRecDepth 100000 in
set_option maxHeartbeats 1000000 in
theorem bidx_yes {base P p B A G1 G2 G3 n c mb db nb : Nat} {pr us lm o1 v1 o2 v2 o3 v3 : Nat → Int} (l : List Int) (k : Nat) (hk : Hid (l.length = k)) (hk1 : k ≤ 1000) (a : Option Addr) (c2 : Nat) (hl : Hid (∀ z, z ∈ l → 0 ≤ z ∧ z < n)) (s : Nat) (hs : s < k) (hno : Hid (∀ i, i < s → fullB us lm (l.getD i 0) = false)) (hyes : Hid (fullB us lm (l.getD s 0) = true)) (w : World) (h : BkAt w base P p B A G1 G2 G3 n c mb db (thN nb) (fun _ => 0) pr us lm o1 v1 o2 v2 o3 v3) (hr : ∀ i, i < k → ∃ g, a = some ⟨g, 0, none⟩ ∧ g < w.heap.size ∧ w.cell? ⟨g, i, none⟩ = some (.int .i64 (l.getD i 0))) :
    Calls Tryz.prog 129 #[.slice a k c2, fnFullV P] w fun e w' => e = .returned (.int .i64 s) ∧ Below w.heap.size w w' := by
  have H := Lib.hid h
  have HR := Lib.hid hr
  clear h hr
  go_enter Tryz.func129, Tryz.ntmps129
  go_wp2_with fail
  go_loopw [8] (fun i wr => ∃ j : Nat, j ≤ s ∧ i = .int .i64 j ∧ Below w.heap.size w wr) (fun i _ => k - (intOf i).toNat)
  case atStart => exact ⟨0, by omega, rfl, Below.refl _ _⟩
  case round =>
    obtain ⟨j, hj, rfl, hB⟩ := hrel
    have HB := Lib.hid hB
    have hlt : j < k := by omega
    obtain ⟨g, hag, hgl, hc⟩ := HR.out j hlt
    have hc2 := (hB.cell (p := ⟨g, j, none⟩) hgl).trans hc
    have hm : l.getD j 0 ∈ l := by have := hk.out; simp [List.getD, show j < l.length by omega]
    have hq := hl.out _ hm
    obtain ⟨q, hq0⟩ : ∃ q : Nat, l.getD j 0 = q := ⟨(l.getD j 0).toNat, by omega⟩
    rw [hq0] at hc2 hq
    have hqn : q < n := by omega
    subst hag
    have k0 : (0 : Int) ≤ j := by omega
    by_cases hjs : j < s
    · have hf := hno.out j hjs
      rw [hq0] at hf
      have HF : Hid (decide (lm q ≤ us q) = false) := Lib.hid hf
      clear hB hc hm hq hq0 hf
      go_wp2_with (first | (go_at_call 90; (with_reducible refine (bfull_is q hqn false HF _ (H.out.below HB.out)).mono ?_); rintro e w1 ⟨rfl, hb⟩; have HB2 := Lib.hid (HB.out.trans (hb.mono HB.out.size)); clear hb hc2))
      go_roundw
      case rel => exact ⟨j + 1, by omega, by go_num, HB2.out⟩
      case measure => simp [intOf]; omega
    · obtain rfl : j = s := by omega
      have hf := hyes.out
      rw [hq0] at hf
      have HF : Hid (decide (lm q ≤ us q) = true) := Lib.hid hf
      clear hB hc hm hq hq0 hf
      go_wp2_with (first | (go_at_call 90; (with_reducible refine (bfull_is q hqn true HF _ (H.out.below HB.out)).mono ?_); rintro e w1 ⟨rfl, hb⟩; have HB2 := Lib.hid (HB.out.trans (hb.mono HB.out.size)); clear hb hc2))
      go_ret
      exact ⟨rfl, HB2.out⟩
set_option maxRecDepth 100000 in
theorem bcf_is {base P p B A G1 G2 G3 n c mb db nb : Nat} {pr us lm o1 v1 o2 v2 o3 v3 : Nat → Int} (l : List Int) (k : Nat) (hk : Hid (l.length = k)) (hk1 : k ≤ 1000) (a : Option Addr) (c2 : Nat) (hl : Hid (∀ z, z ∈ l → 0 ≤ z ∧ z < n)) (t : Bool) (ht : Hid (l.any (fullB us lm) = t)) (w : World) (h : BkAt w base P p B A G1 G2 G3 n c mb db (thN nb) (fun _ => 0) pr us lm o1 v1 o2 v2 o3 v3) (hr : ∀ i, i < k → ∃ g, a = some ⟨g, 0, none⟩ ∧ g < w.heap.size ∧ w.cell? ⟨g, i, none⟩ = some (.int .i64 (l.getD i 0))) :
    Calls Tryz.prog 89 #[.slice a k c2, fnFullV P] w fun e w' => e = .returned (.bool t) ∧ Below w.heap.size w w' := by
  have hkl := hk.out
  rcases first_at (fun i => fullB us lm (l.getD i 0)) k with hno | ⟨s, hs, hy, hno⟩
  · have ht0 : t = false := by
      rw [← ht.out, List.any_eq_false]
      intro z hz
      obtain ⟨i, hi, rfl⟩ := (mem_getD l z).1 hz
      rw [hno i (by omega)]
      decide
    subst ht0
    have HC := Lib.hid (bidx_no l k hk hk1 a c2 hl (Lib.hid hno) w h hr)
    clear h hr hno ht hkl
    go_enter Tryz.func89, Tryz.ntmps89
    go_wp2_with (first | (go_at_call 129; (with_reducible refine HC.out.mono ?_); rintro e w1 ⟨rfl, hb⟩; have HB := Lib.hid hb; clear hb))
    go_ret
    exact ⟨rfl, HB.out⟩
  · have ht1 : t = true := by
      rw [← ht.out, List.any_eq_true]
      exact ⟨l.getD s 0, (mem_getD l _).2 ⟨s, by omega, rfl⟩, hy⟩
    subst ht1
    have HC := Lib.hid (bidx_yes l k hk hk1 a c2 hl s hs (Lib.hid hno) (Lib.hid hy) w h hr)
    have s0 : decide ((0 : Int) ≤ (s : Int)) = true := decide_eq_true (by omega)
    clear h hr hno hy ht hkl
    go_enter Tryz.func89, Tryz.ntmps89
    go_wp2_with (first | (go_at_call 129; (with_reducible refine HC.out.mono ?_); rintro e w1 ⟨rfl, hb⟩; have HB := Lib.hid hb; clear hb))
    go_ret
    exact ⟨rfl, HB.out⟩
set_option maxRecDepth 100000 in
theorem bpageof_ok (a : Option Addr) (m c2 : Nat) (xs : List Int) (hm : Hid (xs.length = m)) (hx : m ≤ 32) (w : World) (hs : ∀ B G, w.heap.size ≤ B → w.heap.size ≤ G → SrcU w a xs B G) :
    Calls Tryz.prog 59 #[.slice a m c2] w fun e w' => e = .returned .nilIface ∧ Below w.heap.size w w' := by
  have HS := Lib.hid hs
  clear hs
  go_enter Tryz.func59, Tryz.ntmps59
  go_wp2_with (first
    | (go_at_call 95; (with_reducible refine (pnew_ok 1 1 (Lib.hid rfl) (by decide) (by decide) _).mono ?_); rintro e w1 ⟨P, p, B, G, rfl, hP, hb⟩; have HP := Lib.hid hP; have HB := Lib.hid hb; have HS1 : Hid (SrcU w1 a xs B G) := Lib.hid ⟨fun j hj => by obtain ⟨ad, h1, h2, h3, h4, h5⟩ := (HS.out B G hP.ar.lt.1 (hP.row.lt G rfl).1).src j hj; exact ⟨ad, h1, Nat.lt_of_lt_of_le h2 hb.size, h3, h4, (hb.cell (p := ad.add j) (by rw [add_block']; exact h2)).trans h5⟩⟩; clear hP hb)
    | (go_at_call 61; (with_reducible refine (pmake_at 0 a m c2 xs hm hx 0 (Lib.hid rfl) (by decide) (Lib.hid (by decide)) (Lib.hid (by intro i hi; omega)) 0 (Lib.hid rfl) _ HP.out HS1.out).mono ?_); rintro e w2 ⟨rfl, hP2, hb2⟩; have HB2 := Lib.hid (HB.out.trans (hb2.below (b := w.heap.size) HP.out.ar.lt.1 (HP.out.row.lt G rfl).1 HB.out.size)); clear hP2 hb2))
  go_ret
  exact ⟨rfl, HB2.out⟩
set_option maxRecDepth 100000 in
set_option maxHeartbeats 1000000 in
theorem bpgcl_ok {w0 : World} {L : BLoc} {D : BSt} (x y : Nat) (a : Option Addr) (m c2 : Nat) (xs : List Int) (hm : Hid (xs.length = m)) (hx : m ≤ 32) (j : Nat) (hj : j < L.b.n) (hyes : Hid (freeB D.pt D.pv j = true)) (hno : Hid (∀ i, i < j → freeB D.pt D.pv i = false)) (v : Int) (hv : Hid (D.pv j = v)) (w : World) (h : BW w0 w L D) (hxy : L.T ≤ x ∧ x < w.heap.size ∧ L.T ≤ y ∧ y < w.heap.size) (cx : w.cell? ⟨x, 0, none⟩ = some (.pointer (some ⟨L.P, 0, none⟩))) (cy : w.cell? ⟨y, 0, none⟩ = some (.slice a m c2)) (hs : SrcU w a xs L.b.B L.b.G) :
    Calls Tryz.prog 60 #[.pointer (some ⟨x, 0, none⟩), .pointer (some ⟨y, 0, none⟩)] w fun e w' => e = .returned (.tuple #[.int .i64 j, .int .i64 v, .nilIface]) ∧ BW w0 w' L { D with pt := upd D.pt j true, pW := fresh D.pW j xs } ∧ PBelow w w' L.b.B L.b.G := by
  obtain ⟨wD, hwD⟩ : ∃ wD, wD = w.drew := ⟨_, rfl⟩
  have hbD : Below w.heap.size w wD := by rw [hwD]; exact (Below.refl _ _).drew
  have HD := Lib.hid (h.below hbD)
  have HSr : Hid (SrcU wD a xs L.b.B L.b.G) := Lib.hid ⟨fun q hq => by obtain ⟨ad, h1, h2, h3, h4, h5⟩ := hs.src q hq; exact ⟨ad, h1, Nat.lt_of_lt_of_le h2 hbD.size, h3, h4, (hbD.cell (p := ad.add q) (by rw [add_block']; exact h2)).trans h5⟩⟩
  have HBD := Lib.hid (PBelow.of_below (B := L.b.B) (G := L.b.G) hbD)
  have HS7 : Hid (∀ W, BW w0 W L { D with pt := upd D.pt j true, pW := fresh D.pW j xs } → UpT L.T w W → (World.cell? W ⟨x, 0, none⟩ = some (.pointer (some ⟨L.P, 0, none⟩)) ∧ World.cell? W ⟨L.P, 1, none⟩ = some (.pointer (some ⟨L.mb, 0, none⟩)) ∧ World.cell? W ⟨L.mb, 0, none⟩ = some (.pointer (some ⟨L.S, 0, none⟩)) ∧ World.cell? W ⟨L.S, 1, none⟩ = some (.pointer (some ⟨L.b.P, 0, none⟩)) ∧ World.cell? W ⟨y, 0, none⟩ = some (.slice a m c2))) := Lib.hid (fun W hW hu => ⟨(World.cell?_of_block (a := ⟨x, 0, none⟩) (hu.2 x hxy.1 hxy.2.1)).trans cx, hW.kk.f1, hW.mm.m0, hW.mm.sv.st.s1, (World.cell?_of_block (a := ⟨y, 0, none⟩) (hu.2 y hxy.2.2.1 hxy.2.2.2)).trans cy⟩)
  have hS0 : (World.cell? wD ⟨x, 0, none⟩ = some (.pointer (some ⟨L.P, 0, none⟩)) ∧ World.cell? wD ⟨L.P, 1, none⟩ = some (.pointer (some ⟨L.mb, 0, none⟩)) ∧ World.cell? wD ⟨L.mb, 0, none⟩ = some (.pointer (some ⟨L.S, 0, none⟩)) ∧ World.cell? wD ⟨L.S, 1, none⟩ = some (.pointer (some ⟨L.b.P, 0, none⟩)) ∧ World.cell? wD ⟨y, 0, none⟩ = some (.slice a m c2)) := ⟨(hbD.cell (p := ⟨x, 0, none⟩) hxy.2.1).trans cx, HD.out.kk.f1, HD.out.mm.m0, HD.out.mm.sv.st.s1, (hbD.cell (p := ⟨y, 0, none⟩) hxy.2.2.2).trans cy⟩
  have HLT := Lib.hid h.lowT
  clear h hs cx cy hbD
  go_enter Tryz.func60, Tryz.ntmps60
  go_upto_region 1 with fail
  refine wp_region_noPanic ?_
  refine wp_region_held_drew (S := fun w' => (World.cell? w' ⟨x, 0, none⟩ = some (.pointer (some ⟨L.P, 0, none⟩)) ∧ World.cell? w' ⟨L.P, 1, none⟩ = some (.pointer (some ⟨L.mb, 0, none⟩)) ∧ World.cell? w' ⟨L.mb, 0, none⟩ = some (.pointer (some ⟨L.S, 0, none⟩)) ∧ World.cell? w' ⟨L.S, 1, none⟩ = some (.pointer (some ⟨L.b.P, 0, none⟩)) ∧ World.cell? w' ⟨y, 0, none⟩ = some (.slice a m c2))) (by kernel_rfl) (by rw [← hwD]; exact hS0) (fun hHeld => ?_)
  rw [← hwD] at hHeld ⊢
  clear hwD hS0
  refine wpAnyH_take (i := 0) (v := ?_) (by rfl) (by kernel_rfl) (by kernel_rfl) (by kernel_rfl) (fun _ _ _ h => h) (Or.inl ⟨by kernel_rfl, ?_⟩) (by assumption) ?_; rotate_left 1; (focus (intro w hSw; (try dsimp only at hSw); simp only [List.getElem_toArray, List.getElem_cons_succ, List.getElem_cons_zero]; all_goals go_simp; all_goals (try with_reducible rfl))); (try simp only [Act.put, List.getElem_toArray, List.getElem_cons_succ, List.getElem_cons_zero, List.setIfInBounds_toArray, List.set_cons_zero, List.set_cons_succ])
  refine wpAnyH_take (i := 1) (v := ?_) (by rfl) (by kernel_rfl) (by kernel_rfl) (by kernel_rfl) (fun _ _ _ h => h) (Or.inl ⟨by kernel_rfl, ?_⟩) (by assumption) ?_; rotate_left 1; (focus (intro w hSw; (try dsimp only at hSw); simp only [List.getElem_toArray, List.getElem_cons_succ, List.getElem_cons_zero]; all_goals go_simp; all_goals (try with_reducible rfl))); (try simp only [Act.put, List.getElem_toArray, List.getElem_cons_succ, List.getElem_cons_zero, List.setIfInBounds_toArray, List.set_cons_zero, List.set_cons_succ])
  refine wpAnyH_take (i := 2) (v := ?_) (by rfl) (by kernel_rfl) (by kernel_rfl) (by kernel_rfl) (fun _ _ _ h => h) (Or.inl ⟨by kernel_rfl, ?_⟩) (by assumption) ?_; rotate_left 1; (focus (intro w hSw; (try dsimp only at hSw); simp only [List.getElem_toArray, List.getElem_cons_succ, List.getElem_cons_zero]; all_goals go_simp; all_goals (try with_reducible rfl))); (try simp only [Act.put, List.getElem_toArray, List.getElem_cons_succ, List.getElem_cons_zero, List.setIfInBounds_toArray, List.set_cons_zero, List.set_cons_succ])
  refine wpAnyH_take (i := 3) (v := ?_) (by rfl) (by kernel_rfl) (by kernel_rfl) (by kernel_rfl) (fun _ _ _ h => h) (Or.inl ⟨by kernel_rfl, ?_⟩) (by assumption) ?_; rotate_left 1; (focus (intro w hSw; (try dsimp only at hSw); simp only [List.getElem_toArray, List.getElem_cons_succ, List.getElem_cons_zero]; all_goals go_simp; all_goals (try with_reducible rfl))); (try simp only [Act.put, List.getElem_toArray, List.getElem_cons_succ, List.getElem_cons_zero, List.setIfInBounds_toArray, List.set_cons_zero, List.set_cons_succ])
  refine wpAnyH_take (i := 4) (v := ?_) (by rfl) (by kernel_rfl) (by kernel_rfl) (by kernel_rfl) (fun _ _ _ h => h) (Or.inl ⟨by kernel_rfl, ?_⟩) (by assumption) ?_; rotate_left 1; (focus (intro w hSw; (try dsimp only at hSw); simp only [List.getElem_toArray, List.getElem_cons_succ, List.getElem_cons_zero]; all_goals go_simp; all_goals (try with_reducible rfl))); (try simp only [Act.put, List.getElem_toArray, List.getElem_cons_succ, List.getElem_cons_zero, List.setIfInBounds_toArray, List.set_cons_zero, List.set_cons_succ])
  refine wpAnyH_take (i := 5) (v := ?_) (by rfl) (by kernel_rfl) (by kernel_rfl) (by kernel_rfl) (fun _ _ _ h => h) (Or.inl ⟨by kernel_rfl, ?_⟩) (by assumption) ?_; rotate_left 1; (focus (intro w hSw; (try dsimp only at hSw); simp only [List.getElem_toArray, List.getElem_cons_succ, List.getElem_cons_zero]; all_goals go_simp; all_goals (try with_reducible rfl))); (try simp only [Act.put, List.getElem_toArray, List.getElem_cons_succ, List.getElem_cons_zero, List.setIfInBounds_toArray, List.set_cons_zero, List.set_cons_succ])
  refine wpAnyH_take (i := 6) (v := ?_) (by rfl) (by kernel_rfl) (by kernel_rfl) (by kernel_rfl) (fun _ _ _ h => h) (Or.inl ⟨by kernel_rfl, ?_⟩) (by assumption) ?_; rotate_left 1; (focus (intro w hSw; (try dsimp only at hSw); simp only [List.getElem_toArray, List.getElem_cons_succ, List.getElem_cons_zero]; all_goals go_simp; all_goals (try with_reducible rfl))); (try simp only [Act.put, List.getElem_toArray, List.getElem_cons_succ, List.getElem_cons_zero, List.setIfInBounds_toArray, List.set_cons_zero, List.set_cons_succ])
  refine wpAnyH_take (i := 7) (v := ?_) (by rfl) (by kernel_rfl) (by kernel_rfl) (by kernel_rfl) (fun _ _ _ h => h) (Or.inl ⟨by kernel_rfl, ?_⟩) (by assumption) ?_; rotate_left 1; (focus (intro w hSw; (try dsimp only at hSw); simp only [List.getElem_toArray, List.getElem_cons_succ, List.getElem_cons_zero]; all_goals go_simp; all_goals (try with_reducible rfl))); (try simp only [Act.put, List.getElem_toArray, List.getElem_cons_succ, List.getElem_cons_zero, List.setIfInBounds_toArray, List.set_cons_zero, List.set_cons_succ])
  refine wpAnyH_take (i := 8) (v := ?_) (by rfl) (by kernel_rfl) (by kernel_rfl) (by kernel_rfl) (fun _ _ _ h => h) (Or.inl ⟨by kernel_rfl, ?_⟩) (by assumption) ?_; rotate_left 1; (focus (intro w hSw; (try dsimp only at hSw); simp only [List.getElem_toArray, List.getElem_cons_succ, List.getElem_cons_zero]; all_goals go_simp; all_goals (try with_reducible rfl))); (try simp only [Act.put, List.getElem_toArray, List.getElem_cons_succ, List.getElem_cons_zero, List.setIfInBounds_toArray, List.set_cons_zero, List.set_cons_succ])
  refine wpAnyH_take (i := 9) (v := ?_) (by rfl) (by kernel_rfl) (by kernel_rfl) (by kernel_rfl) (fun _ _ _ h => h) (Or.inl ⟨by kernel_rfl, ?_⟩) (by assumption) ?_; rotate_left 1; (focus (intro w hSw; (try dsimp only at hSw); simp only [List.getElem_toArray, List.getElem_cons_succ, List.getElem_cons_zero]; all_goals go_simp; all_goals (try with_reducible rfl))); (try simp only [Act.put, List.getElem_toArray, List.getElem_cons_succ, List.getElem_cons_zero, List.setIfInBounds_toArray, List.set_cons_zero, List.set_cons_succ])
  refine wpAnyH_take (i := 10) (v := ?_) (by rfl) (by kernel_rfl) (by kernel_rfl) (by kernel_rfl) (fun _ _ _ h => h) (Or.inl ⟨by kernel_rfl, ?_⟩) (by assumption) ?_; rotate_left 1; (focus (intro w hSw; (try dsimp only at hSw); simp only [List.getElem_toArray, List.getElem_cons_succ, List.getElem_cons_zero]; all_goals go_simp; all_goals (try with_reducible rfl))); (try simp only [Act.put, List.getElem_toArray, List.getElem_cons_succ, List.getElem_cons_zero, List.setIfInBounds_toArray, List.set_cons_zero, List.set_cons_succ])
  refine wpAnyH_ready (rs := [11]) (by kernel_rfl) (by simp) ?_; refine AllReadyH.cons (by rfl) (fun K hK => ?_) AllReadyH.nil; rw [if_pos (by kernel_rfl)]; simp only [List.getElem_toArray, List.getElem_cons_succ, List.getElem_cons_zero]
  go_wp2_with (first
    | (go_at_call 61; (with_reducible refine (pmake_ok a m c2 xs hm hx j hj hyes hno v hv _ HD.out.mm.sv.st.pg HSr.out).mono ?_); rintro e w2 ⟨rfl, hP2, hb2⟩; have HB2 := Lib.hid (HBD.out.trans hb2); have HW2 := Lib.hid (HD.out.page hP2 hb2); clear hP2 hb2))
  refine hK.out _ _ (HS7.out _ HW2.out (UpT.pb HB2.out (by have := HLT.out; omega) (by have := HLT.out; omega))) (fun hHeld => ?_)
  clear hK K
  (try simp only [Act.put, List.getElem_toArray, List.getElem_cons_succ, List.getElem_cons_zero, List.setIfInBounds_toArray, List.set_cons_zero, List.set_cons_succ])
  refine wpAnyH_take (i := 12) (v := ?_) (by rfl) (by kernel_rfl) (by kernel_rfl) (by kernel_rfl) (fun _ _ _ h => h) (Or.inl ⟨by kernel_rfl, ?_⟩) (by assumption) ?_; rotate_left 1; (focus (intro w hSw; (try dsimp only at hSw); simp only [List.getElem_toArray, List.getElem_cons_succ, List.getElem_cons_zero]; all_goals go_simp; all_goals (try with_reducible rfl))); (try simp only [Act.put, List.getElem_toArray, List.getElem_cons_succ, List.getElem_cons_zero, List.setIfInBounds_toArray, List.set_cons_zero, List.set_cons_succ])
  refine wpAnyH_take (i := 13) (v := ?_) (by rfl) (by kernel_rfl) (by kernel_rfl) (by kernel_rfl) (fun _ _ _ h => h) (Or.inl ⟨by kernel_rfl, ?_⟩) (by assumption) ?_; rotate_left 1; (focus (intro w hSw; (try dsimp only at hSw); simp only [List.getElem_toArray, List.getElem_cons_succ, List.getElem_cons_zero]; all_goals go_simp; all_goals (try with_reducible rfl))); (try simp only [Act.put, List.getElem_toArray, List.getElem_cons_succ, List.getElem_cons_zero, List.setIfInBounds_toArray, List.set_cons_zero, List.set_cons_succ])
  refine wpAnyH_take (i := 14) (v := ?_) (by rfl) (by kernel_rfl) (by kernel_rfl) (by kernel_rfl) (fun _ _ _ h => h) (Or.inl ⟨by kernel_rfl, ?_⟩) (by assumption) ?_; rotate_left 1; (focus (intro w hSw; (try dsimp only at hSw); simp only [List.getElem_toArray, List.getElem_cons_succ, List.getElem_cons_zero]; all_goals go_simp; all_goals (try with_reducible rfl))); (try simp only [Act.put, List.getElem_toArray, List.getElem_cons_succ, List.getElem_cons_zero, List.setIfInBounds_toArray, List.set_cons_zero, List.set_cons_succ])
  refine wpAnyH_take (i := 15) (v := ?_) (by rfl) (by kernel_rfl) (by kernel_rfl) (by kernel_rfl) (fun _ _ _ h => h) (Or.inl ⟨by kernel_rfl, ?_⟩) (by assumption) ?_; rotate_left 1; (focus (intro w hSw; (try dsimp only at hSw); simp only [List.getElem_toArray, List.getElem_cons_succ, List.getElem_cons_zero]; all_goals go_simp; all_goals (try with_reducible rfl))); (try simp only [Act.put, List.getElem_toArray, List.getElem_cons_succ, List.getElem_cons_zero, List.setIfInBounds_toArray, List.set_cons_zero, List.set_cons_succ])
  refine wpAnyH_take (i := 16) (v := ?_) (by rfl) (by kernel_rfl) (by kernel_rfl) (by kernel_rfl) (fun _ _ _ h => h) (Or.inl ⟨by kernel_rfl, ?_⟩) (by assumption) ?_; rotate_left 1; (focus (intro w hSw; (try dsimp only at hSw); simp only [List.getElem_toArray, List.getElem_cons_succ, List.getElem_cons_zero]; all_goals go_simp; all_goals (try with_reducible rfl))); (try simp only [Act.put, List.getElem_toArray, List.getElem_cons_succ, List.getElem_cons_zero, List.setIfInBounds_toArray, List.set_cons_zero, List.set_cons_succ])
  refine wpAnyH_take (i := 17) (v := ?_) (by rfl) (by kernel_rfl) (by kernel_rfl) (by kernel_rfl) (fun _ _ _ h => h) (Or.inl ⟨by kernel_rfl, ?_⟩) (by assumption) ?_; rotate_left 1; (focus (intro w hSw; (try dsimp only at hSw); simp only [List.getElem_toArray, List.getElem_cons_succ, List.getElem_cons_zero]; all_goals go_simp; all_goals (try with_reducible rfl))); (try simp only [Act.put, List.getElem_toArray, List.getElem_cons_succ, List.getElem_cons_zero, List.setIfInBounds_toArray, List.set_cons_zero, List.set_cons_succ])
  refine wpAnyH_done (by kernel_rfl) ?_ _
  refine NoPanic.normal ?_
  go_wp2_with fail
  go_ret3
  exact ⟨rfl, HW2.out, HB2.out⟩
end Go.Proofs.YtncopdhhchmpeaaGreatDoor
namespace Go.Proofs.YtncopdhhchmpeaaGreatDoor
open Go.ChangeShapes Go.WideShapes Go.ChangeAt Go.RowKit
set_option linter.unusedVariables false
set_option linter.unusedSimpArgs false
/-- The banks after one more object of bank q. -/
def boughtP (D : BSt) (q j : Nat) (v : Int) (pW : Nat → Nat → Int) : BSt := { D with pt := upd D.pt j true, pW := pW, us := addL D.us (chL D.pr q) 1, o2 := upd D.o2 j q, v2 := upd D.v2 j v }
theorem chL_in {nb n : Nat} {pr : Nat → Int} (hp : PrOk nb pr) (hn : nb ≤ n) (hb : nb ≤ 256) (q : Nat) (hq : q < nb) : (∀ z, z ∈ chL pr q → 0 ≤ z ∧ z < n) ∧ (chL pr q).length ≤ nb ∧ (chL pr q).Nodup := by
  have h := chL_bound hp hb (q + 1) q (by omega) (by omega)
  exact ⟨fun z hz => by have := h.2 z hz; omega, by omega, chL_nodup hp hb (q + 1) q (by omega) (by omega)⟩
set_option maxRecDepth 100000 in
set_option maxHeartbeats 2000000 in
theorem bbuyp_ok {w0 : World} {L : BLoc} {D : BSt} (q : Nat) (hq : q < D.nb) (x y j : Nat) (v : Int) (pW' : Nat → Nat → Int) (hj : j < L.b.n) (hfull : Hid ((chL D.pr q).any (fullB D.us D.lm) = false)) (hu : Hid (∀ i, i < L.n → -1000000 ≤ D.us i ∧ D.us i ≤ 1000000)) (w : World) (h : BW w0 w L D)
    (hcl : ∀ W, Below w.heap.size w W → Calls Tryz.prog 60 #[.pointer (some ⟨x, 0, none⟩), .pointer (some ⟨y, 0, none⟩)] W fun e w' => e = .returned (.tuple #[.int .i64 j, .int .i64 v, .nilIface]) ∧ BW w0 w' L { D with pt := upd D.pt j true, pW := pW' } ∧ PBelow W w' L.b.B L.b.G) :
    Calls Tryz.prog 49 #[.pointer (some ⟨L.P, 0, none⟩), .int .i64 (q : Int), .slice (some ⟨L.G2, 0, none⟩) 256 256, .nilIface, (Value.func (.func 60) #[] #[.pointer (some ⟨x, 0, none⟩), .pointer (some ⟨y, 0, none⟩)])] w fun e w' => e = .returned (.tuple #[.int .i64 j, .int .i64 v, .nilIface]) ∧ BW w0 w' L (boughtP D q j v pW') ∧ UpT L.T w w' := by
  have H := Lib.hid h
  have HCl := Lib.hid hcl
  have hn := h.n256
  have hpn := h.pn
  have hnn := h.nn
  have hin := chL_in h.pk h.nn (by omega) q hq
  obtain ⟨l, hl⟩ : ∃ l, Hid (chL D.pr q = l) := ⟨_, Lib.hid rfl⟩
  rw [hl.out] at hin hfull
  obtain ⟨m, hm⟩ : ∃ m, Hid (l.length = m) := ⟨_, Lib.hid rfl⟩
  have hm1 : m ≤ 1000 := by rw [← hm.out]; omega
  have HIn := Lib.hid hin.1
  have HNd := Lib.hid hin.2.2
  have HPk := Lib.hid h.pk
  have HLT := Lib.hid h.lowT
  have HTT := Lib.hid h.tt
  have HTw := Lib.hid h.tw
  have f0 := h.kk.f0
  have k0 : (0 : Int) ≤ j := by omega
  have k1 : (j : Int) < 256 := by omega
  clear h hcl hin
  go_enter Tryz.func49, Tryz.ntmps49
  go_wp2_with (first
    | (go_at_call 63; (with_reducible refine (athere_in q (by omega) true (Lib.hid (thN_at hq)) _ H.out.kk.ar).mono ?_); rintro e w1 ⟨rfl, rfl⟩)
    | (go_at_call 77; (with_reducible refine (bchain_is (q : Int) D.nb (by omega) (by omega) hnn (Lib.hid (fun i hi => thN_at hi)) HPk _ H.out.kk).mono ?_); rintro e w1 ⟨v9, rfl, hr, hb⟩; rw [hl.out] at hr; obtain ⟨a9, c9, hv9⟩ := own_slice hr m hm; have HRw := Lib.hid (rowT hr hv9 hm.out HTw.out); subst hv9; have H1 := Lib.hid (H.out.below hb); have HB1 := Lib.hid hb; clear hr hb f0)
    | (go_at_call 89; (with_reducible refine (bcf_is l m hm hm1 a9 c9 HIn false hfull _ H1.out.kk (fun i hi => by obtain ⟨g, h1, h2, h3, h4⟩ := HRw.out w1 (UpT.refl _ _) i hi; exact ⟨g, h1, h3, h4⟩)).mono ?_); rintro e w2 ⟨rfl, hb⟩; have HB2 := Lib.hid hb; clear hb)
    | (go_at_call 60; (with_reducible refine (HCl.out _ (HB1.out.trans (HB2.out.mono HB1.out.size))).mono ?_); rintro e w3 ⟨rfl, hW, hb⟩; have H3 := Lib.hid hW; have HU3 := Lib.hid ((UpT.below HB2.out).trans (UpT.pb hb (T := L.T) (by have := HLT.out; omega) (by have := HLT.out; omega))); have ht := hW.kk.t2.ti j (by omega); obtain ⟨c0, c1⟩ := ht; have z0 := hW.kk.t2.fr (j * 2); have z1 := hW.kk.t2.fr (j * 2 + 1); have HS := Lib.hid (hW.kk.t2.title j (by omega) q v); have H4 := Lib.hid (hW.kk.ti2 HS.out.1 HS.out.2); have HU4 := Lib.hid (HU3.out.trans (UpT.grown HS.out.2 (T := L.T) (by have := HTT.out; omega))); clear hW hb)
    | (go_at_call 76; (with_reducible refine (bcount_is l m hm hm1 a9 c9 HIn HNd 1 (by decide) hu _ H4.out (fun i hi => by obtain ⟨g, h1, h2, h3, h4⟩ := HRw.out _ HU4.out i hi; exact ⟨g, h1, h3, by have := HTT.out; omega, h4⟩)).mono ?_); rintro e w5 ⟨rfl, hB, hg⟩; have H5 := Lib.hid hB; have HG5 := Lib.hid hg; clear hB hg c0 c1 z0 z1))
  go_ret3
  refine ⟨rfl, ?_, ((UpT.below HB1.out).trans HU4.out).trans (UpT.grown HG5.out (by have := HTT.out; omega))⟩
  have hlo : Below L.bB w3 w5 := by
    refine (low_of HS.out.2 H3.out.kk.t2.lt.1 H3.out.bl).trans (low_of HG5.out H3.out.kk.ac.lt.1 ?_)
    exact Nat.le_trans H3.out.bl HS.out.2.size
  refine BW.bank H3.out (D' := boughtP D q j v pW') ?_ hlo rfl HPk.out hnn
  have := H5.out
  rw [← hl.out] at this
  exact this
set_option maxRecDepth 100000 in
set_option maxHeartbeats 2000000 in
theorem bbuyp_limit {w0 : World} {L : BLoc} {D : BSt} (q : Nat) (hq : q < D.nb) (x y : Nat) (hfull : Hid ((chL D.pr q).any (fullB D.us D.lm) = true)) (G : Nat) (fv : Value) (v : Value) (w : World) (h : BW w0 w L D) (hE : w.cell? ⟨4, 0, none⟩ = some v) (hlt : 4 < w.heap.size) :
    Calls Tryz.prog 49 #[.pointer (some ⟨L.P, 0, none⟩), .int .i64 (q : Int), .slice (some ⟨G, 0, none⟩) 256 256, .nilIface, fv] w fun e w' => e = .returned (.tuple #[.int .i64 0, .int .i64 0, v]) ∧ Below w.heap.size w w' := by
  have H := Lib.hid h
  have hn := h.n256
  have hnn := h.nn
  have hin := chL_in h.pk h.nn (by omega) q hq
  obtain ⟨l, hl⟩ : ∃ l, Hid (chL D.pr q = l) := ⟨_, Lib.hid rfl⟩
  rw [hl.out] at hin hfull
  obtain ⟨m, hm⟩ : ∃ m, Hid (l.length = m) := ⟨_, Lib.hid rfl⟩
  have hm1 : m ≤ 1000 := by rw [← hm.out]; omega
  have HIn := Lib.hid hin.1
  have HPk := Lib.hid h.pk
  have HTw := Lib.hid h.tw
  have f0 := h.kk.f0
  clear h hin
  go_enter Tryz.func49, Tryz.ntmps49
  go_wp2_with (first
    | (go_at_call 63; (with_reducible refine (athere_in q (by omega) true (Lib.hid (thN_at hq)) _ H.out.kk.ar).mono ?_); rintro e w1 ⟨rfl, rfl⟩)
    | (go_at_call 77; (with_reducible refine (bchain_is (q : Int) D.nb (by omega) (by omega) hnn (Lib.hid (fun i hi => thN_at hi)) HPk _ H.out.kk).mono ?_); rintro e w1 ⟨v9, rfl, hr, hb⟩; rw [hl.out] at hr; obtain ⟨a9, c9, hv9⟩ := own_slice hr m hm; have HRw := Lib.hid (rowT hr hv9 hm.out HTw.out); subst hv9; have H1 := Lib.hid (H.out.below hb); have HB1 := Lib.hid hb; clear hr hb f0)
    | (go_at_call 89; (with_reducible refine (bcf_is l m hm hm1 a9 c9 HIn true hfull _ H1.out.kk (fun i hi => by obtain ⟨g, h1, h2, h3, h4⟩ := HRw.out w1 (UpT.refl _ _) i hi; exact ⟨g, h1, h3, h4⟩)).mono ?_); rintro e w2 ⟨rfl, hb⟩; have HB2 := Lib.hid (HB1.out.trans (hb.mono HB1.out.size)); have hE2 := (HB2.out.cell (p := ⟨4, 0, none⟩) hlt).trans hE; clear hb))
  go_quiet (fail)
  go_wp2_with fail
  go_ret3
  exact ⟨rfl, below_drewN HB2.out _⟩
end Go.Proofs.YtncopdhhchmpeaaGreatDoor
namespace Go.Proofs.YtncopdhhchmpeaaGreatDoor
open Go.ChangeShapes Go.WideShapes Go.ChangeAt Go.RowKit
set_option linter.unusedVariables false
set_option linter.unusedSimpArgs false
/-- Words that are handed in lie apart. -/
def SrcW (L : BLoc) (w : World) (a : Option Addr) (xs : List Int) : Prop := ∀ W, Below w.heap.size w W → ∀ B G, (B < L.T ∨ w.heap.size ≤ B) → (G < L.T ∨ w.heap.size ≤ G) → SrcU W a xs B G
theorem SrcW.run {L : BLoc} {w : World} {a : Option Addr} {xs : List Int} (h : SrcW L w a xs) (W : World) (hb : Below w.heap.size w W) (B G : Nat) (hB : B < L.T ∨ w.heap.size ≤ B) (hG : G < L.T ∨ w.heap.size ≤ G) : SrcU W a xs B G := h W hb B G hB hG
theorem srcw_none (L : BLoc) (w : World) : SrcW L w none [] := fun _ _ _ _ _ _ => ⟨fun j hj => by simp at hj⟩
set_option maxRecDepth 100000 in
set_option maxHeartbeats 2000000 in
theorem bpage_ok {w0 : World} {L : BLoc} {D : BSt} (q : Nat) (hq : q < D.nb) (a : Option Addr) (m c2 : Nat) (xs : List Int) (hm : Hid (xs.length = m)) (hx0 : m ≤ 32) (j : Nat) (hj : j < L.b.n) (hyes : Hid (freeB D.pt D.pv j = true)) (hno : Hid (∀ i, i < j → freeB D.pt D.pv i = false)) (v : Int) (hv : Hid (D.pv j = v)) (hfull : Hid ((chL D.pr q).any (fullB D.us D.lm) = false)) (hu : Hid (∀ i, i < L.n → -1000000 ≤ D.us i ∧ D.us i ≤ 1000000)) (w : World) (h : BW w0 w L D) (hs : SrcW L w a xs) :
    Calls Tryz.prog 17 #[.pointer (some ⟨L.P, 0, none⟩), .int .i64 (q : Int), .slice a m c2] w fun e w' => e = .returned (.tuple #[.int .i64 j, .int .i64 v, .nilIface]) ∧ BW w0 w' L (boughtP D q j v (fresh D.pW j xs)) ∧ UpT L.T w w' := by
  have H := Lib.hid h
  have HS := Lib.hid hs
  have HLT := Lib.hid h.lowT
  have HTw := Lib.hid h.tw
  clear h hs
  go_enter Tryz.func17, Tryz.ntmps17
  go_upto_region 1 with fail
  generalize hw2 : World.alloc (World.alloc w _) _ = w2
  have HB2 : Hid (Below w.heap.size w w2) := Lib.hid (by rw [← hw2]; exact ((Below.refl _ _).alloc (Nat.le_refl _) _).alloc (by simp) _)
  have HX : Hid (∀ W, UpT w.heap.size w2 W → World.cell? W ⟨w.heap.size, 0, none⟩ = some (.pointer (some ⟨L.P, 0, none⟩)) ∧ World.cell? W ⟨w.heap.size + 1, 0, none⟩ = some (.slice a m c2)) := Lib.hid (fun W hu => by
    have e1 : w2.cell? ⟨w.heap.size, 0, none⟩ = some (.pointer (some ⟨L.P, 0, none⟩)) := by rw [← hw2]; simp
    have e2 : w2.cell? ⟨w.heap.size + 1, 0, none⟩ = some (.slice a m c2) := by rw [← hw2]; simp
    have sz : w2.heap.size = w.heap.size + 1 + 1 := by rw [← hw2]; simp
    exact ⟨(World.cell?_of_block (a := ⟨w.heap.size, 0, none⟩) (hu.2 w.heap.size (by omega) (by omega))).trans e1, (World.cell?_of_block (a := ⟨w.heap.size + 1, 0, none⟩) (hu.2 (w.heap.size + 1) (by omega) (by omega))).trans e2⟩)
  have HSz : Hid (w2.heap.size = w.heap.size + 1 + 1) := Lib.hid (by rw [← hw2]; simp)
  clear hw2
  obtain ⟨wD, hwD⟩ : ∃ wD, wD = w2.drew := ⟨_, rfl⟩
  have HBD : Hid (Below w2.heap.size w2 wD) := Lib.hid (by rw [hwD]; exact (Below.refl _ _).drew)
  have HS7 : Hid (∀ W D', BW w0 W L D' → UpT w.heap.size w2 W → (World.cell? W ⟨w.heap.size, 0, none⟩ = some (.pointer (some ⟨L.P, 0, none⟩)) ∧ World.cell? W ⟨L.P, 5, none⟩ = some (.slice (some ⟨L.G2, 0, none⟩) 256 256) ∧ World.cell? W ⟨w.heap.size + 1, 0, none⟩ = some (.slice a m c2))) := Lib.hid (fun W D' hW hu => ⟨(HX.out W hu).1, hW.kk.f5, (HX.out W hu).2⟩)
  have HWD := Lib.hid ((H.out.below HB2.out).below HBD.out)
  have hS0 := HS7.out _ _ HWD.out (UpT.below HBD.out)
  refine wp_region_noPanic ?_
  refine wp_region_held_drew (S := fun w' => (World.cell? w' ⟨w.heap.size, 0, none⟩ = some (.pointer (some ⟨L.P, 0, none⟩)) ∧ World.cell? w' ⟨L.P, 5, none⟩ = some (.slice (some ⟨L.G2, 0, none⟩) 256 256) ∧ World.cell? w' ⟨w.heap.size + 1, 0, none⟩ = some (.slice a m c2))) (by kernel_rfl) (by rw [← hwD]; exact hS0) (fun hHeld => ?_)
  rw [← hwD] at hHeld ⊢
  clear hwD hS0
  refine wpAnyH_take (i := 0) (v := ?_) (by rfl) (by kernel_rfl) (by kernel_rfl) (by kernel_rfl) (fun _ _ _ h => h) (Or.inl ⟨by kernel_rfl, ?_⟩) (by assumption) ?_; rotate_left 1; (focus (intro w hSw; (try dsimp only at hSw); simp only [List.getElem_toArray, List.getElem_cons_succ, List.getElem_cons_zero]; all_goals go_simp; all_goals (try with_reducible rfl))); (try simp only [Act.put, List.getElem_toArray, List.getElem_cons_succ, List.getElem_cons_zero, List.setIfInBounds_toArray, List.set_cons_zero, List.set_cons_succ])
  refine wpAnyH_take (i := 1) (v := ?_) (by rfl) (by kernel_rfl) (by kernel_rfl) (by kernel_rfl) (fun _ _ _ h => h) (Or.inl ⟨by kernel_rfl, ?_⟩) (by assumption) ?_; rotate_left 1; (focus (intro w hSw; (try dsimp only at hSw); simp only [List.getElem_toArray, List.getElem_cons_succ, List.getElem_cons_zero]; all_goals go_simp; all_goals (try with_reducible rfl))); (try simp only [Act.put, List.getElem_toArray, List.getElem_cons_succ, List.getElem_cons_zero, List.setIfInBounds_toArray, List.set_cons_zero, List.set_cons_succ])
  refine wpAnyH_take (i := 2) (v := ?_) (by rfl) (by kernel_rfl) (by kernel_rfl) (by kernel_rfl) (fun _ _ _ h => h) (Or.inl ⟨by kernel_rfl, ?_⟩) (by assumption) ?_; rotate_left 1; (focus (intro w hSw; (try dsimp only at hSw); simp only [List.getElem_toArray, List.getElem_cons_succ, List.getElem_cons_zero]; all_goals go_simp; all_goals (try with_reducible rfl))); (try simp only [Act.put, List.getElem_toArray, List.getElem_cons_succ, List.getElem_cons_zero, List.setIfInBounds_toArray, List.set_cons_zero, List.set_cons_succ])
  refine wpAnyH_take (i := 3) (v := ?_) (by rfl) (by kernel_rfl) (by kernel_rfl) (by kernel_rfl) (fun _ _ _ h => h) (Or.inl ⟨by kernel_rfl, ?_⟩) (by assumption) ?_; rotate_left 1; (focus (intro w hSw; (try dsimp only at hSw); simp only [List.getElem_toArray, List.getElem_cons_succ, List.getElem_cons_zero]; all_goals go_simp; all_goals (try with_reducible rfl))); (try simp only [Act.put, List.getElem_toArray, List.getElem_cons_succ, List.getElem_cons_zero, List.setIfInBounds_toArray, List.set_cons_zero, List.set_cons_succ])
  refine wpAnyH_take (i := 4) (v := ?_) (by rfl) (by kernel_rfl) (by kernel_rfl) (by kernel_rfl) (fun _ _ _ h => h) (Or.inl ⟨by kernel_rfl, ?_⟩) (by assumption) ?_; rotate_left 1; (focus (intro w hSw; (try dsimp only at hSw); simp only [List.getElem_toArray, List.getElem_cons_succ, List.getElem_cons_zero]; all_goals go_simp; all_goals (try with_reducible rfl))); (try simp only [Act.put, List.getElem_toArray, List.getElem_cons_succ, List.getElem_cons_zero, List.setIfInBounds_toArray, List.set_cons_zero, List.set_cons_succ])
  refine wpAnyH_take (i := 5) (v := ?_) (by rfl) (by kernel_rfl) (by kernel_rfl) (by kernel_rfl) (fun _ _ _ h => h) (Or.inl ⟨by kernel_rfl, ?_⟩) (by assumption) ?_; rotate_left 1; (focus (intro w hSw; (try dsimp only at hSw); simp only [List.getElem_toArray, List.getElem_cons_succ, List.getElem_cons_zero]; all_goals go_simp; all_goals (try with_reducible rfl))); (try simp only [Act.put, List.getElem_toArray, List.getElem_cons_succ, List.getElem_cons_zero, List.setIfInBounds_toArray, List.set_cons_zero, List.set_cons_succ])
  refine wpAnyH_take (i := 6) (v := ?_) (by rfl) (by kernel_rfl) (by kernel_rfl) (by kernel_rfl) (fun _ _ _ h => h) (Or.inl ⟨by kernel_rfl, ?_⟩) (by assumption) ?_; rotate_left 1; (focus (intro w hSw; (try dsimp only at hSw); simp only [List.getElem_toArray, List.getElem_cons_succ, List.getElem_cons_zero]; all_goals go_simp; all_goals (try with_reducible rfl))); (try simp only [Act.put, List.getElem_toArray, List.getElem_cons_succ, List.getElem_cons_zero, List.setIfInBounds_toArray, List.set_cons_zero, List.set_cons_succ])
  refine wpAnyH_take (i := 8) (v := ?_) (by rfl) (by kernel_rfl) (by kernel_rfl) (by kernel_rfl) (fun _ _ _ h => h) (Or.inl ⟨by kernel_rfl, ?_⟩) (by assumption) ?_; rotate_left 1; (focus (intro w hSw; (try dsimp only at hSw); simp only [List.getElem_toArray, List.getElem_cons_succ, List.getElem_cons_zero]; all_goals go_simp; all_goals (try with_reducible rfl))); (try simp only [Act.put, List.getElem_toArray, List.getElem_cons_succ, List.getElem_cons_zero, List.setIfInBounds_toArray, List.set_cons_zero, List.set_cons_succ])
  refine wpAnyH_ready (rs := [7]) (by kernel_rfl) (by simp) ?_; refine AllReadyH.cons (by rfl) (fun K hK => ?_) AllReadyH.nil; rw [if_pos (by kernel_rfl)]; simp only [List.getElem_toArray, List.getElem_cons_succ, List.getElem_cons_zero]
  go_wp2_with (first
    | (go_at_call 59; (with_reducible refine (bpageof_ok a m c2 xs hm hx0 _ (fun B G hB hG => HS.out.run _ (HB2.out.trans (HBD.out.mono HB2.out.size)) B G (.inr (Nat.le_trans (Nat.le_trans HB2.out.size HBD.out.size) hB)) (.inr (Nat.le_trans (Nat.le_trans HB2.out.size HBD.out.size) hG)))).mono ?_); rintro e w3 ⟨rfl, hb⟩; have HB3 := Lib.hid (HBD.out.trans (hb.mono HBD.out.size)); have HW3 := Lib.hid (HWD.out.below hb); clear hb))
  refine hK.out _ _ (HS7.out _ _ HW3.out (UpT.below HB3.out)) (fun hHeld => ?_)
  clear hK K
  (try simp only [Act.put, List.getElem_toArray, List.getElem_cons_succ, List.getElem_cons_zero, List.setIfInBounds_toArray, List.set_cons_zero, List.set_cons_succ])
  refine wpAnyH_ready (rs := [9]) (by kernel_rfl) (by simp) ?_; refine AllReadyH.cons (by rfl) (fun K hK => ?_) AllReadyH.nil; rw [if_pos (by kernel_rfl)]; simp only [List.getElem_toArray, List.getElem_cons_succ, List.getElem_cons_zero]
  have HCl : Hid (∀ W, Below w3.heap.size w3 W → Calls Tryz.prog 60 #[.pointer (some ⟨w.heap.size, 0, none⟩), .pointer (some ⟨w.heap.size + 1, 0, none⟩)] W fun e w' => e = .returned (.tuple #[.int .i64 j, .int .i64 v, .nilIface]) ∧ BW w0 w' L { D with pt := upd D.pt j true, pW := fresh D.pW j xs } ∧ PBelow W w' L.b.B L.b.G) := Lib.hid (fun W hb => by
    have hbw : Below w2.heap.size w2 W := HB3.out.trans (hb.mono HB3.out.size)
    have hx := HX.out W (UpT.below hbw)
    have h1 := hbw.size
    have h2 := HSz.out
    have h3 := HTw.out
    have h4 := HLT.out
    exact bpgcl_ok w.heap.size (w.heap.size + 1) a m c2 xs hm hx0 j hj hyes hno v hv W (HW3.out.below hb) (by omega) hx.1 hx.2 (HS.out.run W (HB2.out.trans (hbw.mono HB2.out.size)) _ _ (.inl (by omega)) (.inl (by omega))))
  go_wp2_with (first
    | (go_at_call 49; (with_reducible refine (bbuyp_ok q hq w.heap.size (w.heap.size + 1) j v _ hj hfull hu _ HW3.out HCl.out).mono ?_); rintro e w4 ⟨rfl, hW, hu4⟩; have HW4 := Lib.hid hW; have HU4 := Lib.hid hu4; clear hW hu4))
  refine hK.out _ _ (HS7.out _ _ HW4.out ((UpT.below HB3.out).trans ⟨HU4.out.1, fun k h1 h2 => HU4.out.2 k (Nat.le_trans HTw.out h1) h2⟩)) (fun hHeld => ?_)
  clear hK K
  (try simp only [Act.put, List.getElem_toArray, List.getElem_cons_succ, List.getElem_cons_zero, List.setIfInBounds_toArray, List.set_cons_zero, List.set_cons_succ])
  refine wpAnyH_take (i := 10) (v := ?_) (by rfl) (by kernel_rfl) (by kernel_rfl) (by kernel_rfl) (fun _ _ _ h => h) (Or.inl ⟨by kernel_rfl, ?_⟩) (by assumption) ?_; rotate_left 1; (focus (intro w hSw; (try dsimp only at hSw); simp only [List.getElem_toArray, List.getElem_cons_succ, List.getElem_cons_zero]; all_goals go_simp; all_goals (try with_reducible rfl))); (try simp only [Act.put, List.getElem_toArray, List.getElem_cons_succ, List.getElem_cons_zero, List.setIfInBounds_toArray, List.set_cons_zero, List.set_cons_succ])
  refine wpAnyH_take (i := 11) (v := ?_) (by rfl) (by kernel_rfl) (by kernel_rfl) (by kernel_rfl) (fun _ _ _ h => h) (Or.inl ⟨by kernel_rfl, ?_⟩) (by assumption) ?_; rotate_left 1; (focus (intro w hSw; (try dsimp only at hSw); simp only [List.getElem_toArray, List.getElem_cons_succ, List.getElem_cons_zero]; all_goals go_simp; all_goals (try with_reducible rfl))); (try simp only [Act.put, List.getElem_toArray, List.getElem_cons_succ, List.getElem_cons_zero, List.setIfInBounds_toArray, List.set_cons_zero, List.set_cons_succ])
  refine wpAnyH_take (i := 12) (v := ?_) (by rfl) (by kernel_rfl) (by kernel_rfl) (by kernel_rfl) (fun _ _ _ h => h) (Or.inl ⟨by kernel_rfl, ?_⟩) (by assumption) ?_; rotate_left 1; (focus (intro w hSw; (try dsimp only at hSw); simp only [List.getElem_toArray, List.getElem_cons_succ, List.getElem_cons_zero]; all_goals go_simp; all_goals (try with_reducible rfl))); (try simp only [Act.put, List.getElem_toArray, List.getElem_cons_succ, List.getElem_cons_zero, List.setIfInBounds_toArray, List.set_cons_zero, List.set_cons_succ])
  refine wpAnyH_take (i := 13) (v := ?_) (by rfl) (by kernel_rfl) (by kernel_rfl) (by kernel_rfl) (fun _ _ _ h => h) (Or.inl ⟨by kernel_rfl, ?_⟩) (by assumption) ?_; rotate_left 1; (focus (intro w hSw; (try dsimp only at hSw); simp only [List.getElem_toArray, List.getElem_cons_succ, List.getElem_cons_zero]; all_goals go_simp; all_goals (try with_reducible rfl))); (try simp only [Act.put, List.getElem_toArray, List.getElem_cons_succ, List.getElem_cons_zero, List.setIfInBounds_toArray, List.set_cons_zero, List.set_cons_succ])
  refine wpAnyH_take (i := 14) (v := ?_) (by rfl) (by kernel_rfl) (by kernel_rfl) (by kernel_rfl) (fun _ _ _ h => h) (Or.inl ⟨by kernel_rfl, ?_⟩) (by assumption) ?_; rotate_left 1; (focus (intro w hSw; (try dsimp only at hSw); simp only [List.getElem_toArray, List.getElem_cons_succ, List.getElem_cons_zero]; all_goals go_simp; all_goals (try with_reducible rfl))); (try simp only [Act.put, List.getElem_toArray, List.getElem_cons_succ, List.getElem_cons_zero, List.setIfInBounds_toArray, List.set_cons_zero, List.set_cons_succ])
  refine wpAnyH_take (i := 15) (v := ?_) (by rfl) (by kernel_rfl) (by kernel_rfl) (by kernel_rfl) (fun _ _ _ h => h) (Or.inl ⟨by kernel_rfl, ?_⟩) (by assumption) ?_; rotate_left 1; (focus (intro w hSw; (try dsimp only at hSw); simp only [List.getElem_toArray, List.getElem_cons_succ, List.getElem_cons_zero]; all_goals go_simp; all_goals (try with_reducible rfl))); (try simp only [Act.put, List.getElem_toArray, List.getElem_cons_succ, List.getElem_cons_zero, List.setIfInBounds_toArray, List.set_cons_zero, List.set_cons_succ])
  refine wpAnyH_done (by kernel_rfl) ?_ _
  refine NoPanic.normal ?_
  go_wp2_with fail
  go_ret3
  exact ⟨rfl, HW4.out, ((UpT.below HB2.out).trans (UpT.below HB3.out)).trans HU4.out⟩
set_option maxRecDepth 100000 in
set_option maxHeartbeats 2000000 in
theorem bpage_limit {w0 : World} {L : BLoc} {D : BSt} (q : Nat) (hq : q < D.nb) (a : Option Addr) (m c2 : Nat) (xs : List Int) (hm : Hid (xs.length = m)) (hx0 : m ≤ 32) (hfull : Hid ((chL D.pr q).any (fullB D.us D.lm) = true)) (v : Value) (w : World) (h : BW w0 w L D) (hs : SrcW L w a xs) (hE : w.cell? ⟨4, 0, none⟩ = some v) (hlt : 4 < w.heap.size) :
    Calls Tryz.prog 17 #[.pointer (some ⟨L.P, 0, none⟩), .int .i64 (q : Int), .slice a m c2] w fun e w' => e = .returned (.tuple #[.int .i64 0, .int .i64 0, v]) ∧ Below w.heap.size w w' := by
  have H := Lib.hid h
  have HS := Lib.hid hs
  have HLT := Lib.hid h.lowT
  have HTw := Lib.hid h.tw
  clear h hs
  go_enter Tryz.func17, Tryz.ntmps17
  go_upto_region 1 with fail
  generalize hw2 : World.alloc (World.alloc w _) _ = w2
  have HB2 : Hid (Below w.heap.size w w2) := Lib.hid (by rw [← hw2]; exact ((Below.refl _ _).alloc (Nat.le_refl _) _).alloc (by simp) _)
  have HX : Hid (∀ W, UpT w.heap.size w2 W → World.cell? W ⟨w.heap.size, 0, none⟩ = some (.pointer (some ⟨L.P, 0, none⟩)) ∧ World.cell? W ⟨w.heap.size + 1, 0, none⟩ = some (.slice a m c2)) := Lib.hid (fun W hu => by
    have e1 : w2.cell? ⟨w.heap.size, 0, none⟩ = some (.pointer (some ⟨L.P, 0, none⟩)) := by rw [← hw2]; simp
    have e2 : w2.cell? ⟨w.heap.size + 1, 0, none⟩ = some (.slice a m c2) := by rw [← hw2]; simp
    have sz : w2.heap.size = w.heap.size + 1 + 1 := by rw [← hw2]; simp
    exact ⟨(World.cell?_of_block (a := ⟨w.heap.size, 0, none⟩) (hu.2 w.heap.size (by omega) (by omega))).trans e1, (World.cell?_of_block (a := ⟨w.heap.size + 1, 0, none⟩) (hu.2 (w.heap.size + 1) (by omega) (by omega))).trans e2⟩)
  have HSz : Hid (w2.heap.size = w.heap.size + 1 + 1) := Lib.hid (by rw [← hw2]; simp)
  clear hw2
  obtain ⟨wD, hwD⟩ : ∃ wD, wD = w2.drew := ⟨_, rfl⟩
  have HBD : Hid (Below w2.heap.size w2 wD) := Lib.hid (by rw [hwD]; exact (Below.refl _ _).drew)
  have HS7 : Hid (∀ W D', BW w0 W L D' → UpT w.heap.size w2 W → (World.cell? W ⟨w.heap.size, 0, none⟩ = some (.pointer (some ⟨L.P, 0, none⟩)) ∧ World.cell? W ⟨L.P, 5, none⟩ = some (.slice (some ⟨L.G2, 0, none⟩) 256 256) ∧ World.cell? W ⟨w.heap.size + 1, 0, none⟩ = some (.slice a m c2))) := Lib.hid (fun W D' hW hu => ⟨(HX.out W hu).1, hW.kk.f5, (HX.out W hu).2⟩)
  have HWD := Lib.hid ((H.out.below HB2.out).below HBD.out)
  have hS0 := HS7.out _ _ HWD.out (UpT.below HBD.out)
  refine wp_region_noPanic ?_
  refine wp_region_held_drew (S := fun w' => (World.cell? w' ⟨w.heap.size, 0, none⟩ = some (.pointer (some ⟨L.P, 0, none⟩)) ∧ World.cell? w' ⟨L.P, 5, none⟩ = some (.slice (some ⟨L.G2, 0, none⟩) 256 256) ∧ World.cell? w' ⟨w.heap.size + 1, 0, none⟩ = some (.slice a m c2))) (by kernel_rfl) (by rw [← hwD]; exact hS0) (fun hHeld => ?_)
  rw [← hwD] at hHeld ⊢
  clear hwD hS0
  refine wpAnyH_take (i := 0) (v := ?_) (by rfl) (by kernel_rfl) (by kernel_rfl) (by kernel_rfl) (fun _ _ _ h => h) (Or.inl ⟨by kernel_rfl, ?_⟩) (by assumption) ?_; rotate_left 1; (focus (intro w hSw; (try dsimp only at hSw); simp only [List.getElem_toArray, List.getElem_cons_succ, List.getElem_cons_zero]; all_goals go_simp; all_goals (try with_reducible rfl))); (try simp only [Act.put, List.getElem_toArray, List.getElem_cons_succ, List.getElem_cons_zero, List.setIfInBounds_toArray, List.set_cons_zero, List.set_cons_succ])
  refine wpAnyH_take (i := 1) (v := ?_) (by rfl) (by kernel_rfl) (by kernel_rfl) (by kernel_rfl) (fun _ _ _ h => h) (Or.inl ⟨by kernel_rfl, ?_⟩) (by assumption) ?_; rotate_left 1; (focus (intro w hSw; (try dsimp only at hSw); simp only [List.getElem_toArray, List.getElem_cons_succ, List.getElem_cons_zero]; all_goals go_simp; all_goals (try with_reducible rfl))); (try simp only [Act.put, List.getElem_toArray, List.getElem_cons_succ, List.getElem_cons_zero, List.setIfInBounds_toArray, List.set_cons_zero, List.set_cons_succ])
  refine wpAnyH_take (i := 2) (v := ?_) (by rfl) (by kernel_rfl) (by kernel_rfl) (by kernel_rfl) (fun _ _ _ h => h) (Or.inl ⟨by kernel_rfl, ?_⟩) (by assumption) ?_; rotate_left 1; (focus (intro w hSw; (try dsimp only at hSw); simp only [List.getElem_toArray, List.getElem_cons_succ, List.getElem_cons_zero]; all_goals go_simp; all_goals (try with_reducible rfl))); (try simp only [Act.put, List.getElem_toArray, List.getElem_cons_succ, List.getElem_cons_zero, List.setIfInBounds_toArray, List.set_cons_zero, List.set_cons_succ])
  refine wpAnyH_take (i := 3) (v := ?_) (by rfl) (by kernel_rfl) (by kernel_rfl) (by kernel_rfl) (fun _ _ _ h => h) (Or.inl ⟨by kernel_rfl, ?_⟩) (by assumption) ?_; rotate_left 1; (focus (intro w hSw; (try dsimp only at hSw); simp only [List.getElem_toArray, List.getElem_cons_succ, List.getElem_cons_zero]; all_goals go_simp; all_goals (try with_reducible rfl))); (try simp only [Act.put, List.getElem_toArray, List.getElem_cons_succ, List.getElem_cons_zero, List.setIfInBounds_toArray, List.set_cons_zero, List.set_cons_succ])
  refine wpAnyH_take (i := 4) (v := ?_) (by rfl) (by kernel_rfl) (by kernel_rfl) (by kernel_rfl) (fun _ _ _ h => h) (Or.inl ⟨by kernel_rfl, ?_⟩) (by assumption) ?_; rotate_left 1; (focus (intro w hSw; (try dsimp only at hSw); simp only [List.getElem_toArray, List.getElem_cons_succ, List.getElem_cons_zero]; all_goals go_simp; all_goals (try with_reducible rfl))); (try simp only [Act.put, List.getElem_toArray, List.getElem_cons_succ, List.getElem_cons_zero, List.setIfInBounds_toArray, List.set_cons_zero, List.set_cons_succ])
  refine wpAnyH_take (i := 5) (v := ?_) (by rfl) (by kernel_rfl) (by kernel_rfl) (by kernel_rfl) (fun _ _ _ h => h) (Or.inl ⟨by kernel_rfl, ?_⟩) (by assumption) ?_; rotate_left 1; (focus (intro w hSw; (try dsimp only at hSw); simp only [List.getElem_toArray, List.getElem_cons_succ, List.getElem_cons_zero]; all_goals go_simp; all_goals (try with_reducible rfl))); (try simp only [Act.put, List.getElem_toArray, List.getElem_cons_succ, List.getElem_cons_zero, List.setIfInBounds_toArray, List.set_cons_zero, List.set_cons_succ])
  refine wpAnyH_take (i := 6) (v := ?_) (by rfl) (by kernel_rfl) (by kernel_rfl) (by kernel_rfl) (fun _ _ _ h => h) (Or.inl ⟨by kernel_rfl, ?_⟩) (by assumption) ?_; rotate_left 1; (focus (intro w hSw; (try dsimp only at hSw); simp only [List.getElem_toArray, List.getElem_cons_succ, List.getElem_cons_zero]; all_goals go_simp; all_goals (try with_reducible rfl))); (try simp only [Act.put, List.getElem_toArray, List.getElem_cons_succ, List.getElem_cons_zero, List.setIfInBounds_toArray, List.set_cons_zero, List.set_cons_succ])
  refine wpAnyH_take (i := 8) (v := ?_) (by rfl) (by kernel_rfl) (by kernel_rfl) (by kernel_rfl) (fun _ _ _ h => h) (Or.inl ⟨by kernel_rfl, ?_⟩) (by assumption) ?_; rotate_left 1; (focus (intro w hSw; (try dsimp only at hSw); simp only [List.getElem_toArray, List.getElem_cons_succ, List.getElem_cons_zero]; all_goals go_simp; all_goals (try with_reducible rfl))); (try simp only [Act.put, List.getElem_toArray, List.getElem_cons_succ, List.getElem_cons_zero, List.setIfInBounds_toArray, List.set_cons_zero, List.set_cons_succ])
  refine wpAnyH_ready (rs := [7]) (by kernel_rfl) (by simp) ?_; refine AllReadyH.cons (by rfl) (fun K hK => ?_) AllReadyH.nil; rw [if_pos (by kernel_rfl)]; simp only [List.getElem_toArray, List.getElem_cons_succ, List.getElem_cons_zero]
  go_wp2_with (first
    | (go_at_call 59; (with_reducible refine (bpageof_ok a m c2 xs hm hx0 _ (fun B G hB hG => HS.out.run _ (HB2.out.trans (HBD.out.mono HB2.out.size)) B G (.inr (Nat.le_trans (Nat.le_trans HB2.out.size HBD.out.size) hB)) (.inr (Nat.le_trans (Nat.le_trans HB2.out.size HBD.out.size) hG)))).mono ?_); rintro e w3 ⟨rfl, hb⟩; have HB3 := Lib.hid (HBD.out.trans (hb.mono HBD.out.size)); have HW3 := Lib.hid (HWD.out.below hb); clear hb))
  refine hK.out _ _ (HS7.out _ _ HW3.out (UpT.below HB3.out)) (fun hHeld => ?_)
  clear hK K
  (try simp only [Act.put, List.getElem_toArray, List.getElem_cons_succ, List.getElem_cons_zero, List.setIfInBounds_toArray, List.set_cons_zero, List.set_cons_succ])
  refine wpAnyH_ready (rs := [9]) (by kernel_rfl) (by simp) ?_; refine AllReadyH.cons (by rfl) (fun K hK => ?_) AllReadyH.nil; rw [if_pos (by kernel_rfl)]; simp only [List.getElem_toArray, List.getElem_cons_succ, List.getElem_cons_zero]
  have hE3 := (((HB2.out.trans (HB3.out.mono HB2.out.size))).cell (p := ⟨4, 0, none⟩) hlt).trans hE
  have hlt3 := Nat.lt_of_lt_of_le hlt (HB2.out.trans (HB3.out.mono HB2.out.size)).size
  go_wp2_with (first
    | (go_at_call 49; (with_reducible refine (bbuyp_limit q hq w.heap.size (w.heap.size + 1) hfull L.G2 _ v _ HW3.out hE3 hlt3).mono ?_); rintro e w4 ⟨rfl, hb4⟩; have HW4 := Lib.hid (HW3.out.below hb4); have HB4 := Lib.hid (HB3.out.trans (hb4.mono HB3.out.size)); clear hb4))
  refine hK.out _ _ (HS7.out _ _ HW4.out (UpT.below HB4.out)) (fun hHeld => ?_)
  clear hK K
  (try simp only [Act.put, List.getElem_toArray, List.getElem_cons_succ, List.getElem_cons_zero, List.setIfInBounds_toArray, List.set_cons_zero, List.set_cons_succ])
  refine wpAnyH_take (i := 10) (v := ?_) (by rfl) (by kernel_rfl) (by kernel_rfl) (by kernel_rfl) (fun _ _ _ h => h) (Or.inl ⟨by kernel_rfl, ?_⟩) (by assumption) ?_; rotate_left 1; (focus (intro w hSw; (try dsimp only at hSw); simp only [List.getElem_toArray, List.getElem_cons_succ, List.getElem_cons_zero]; all_goals go_simp; all_goals (try with_reducible rfl))); (try simp only [Act.put, List.getElem_toArray, List.getElem_cons_succ, List.getElem_cons_zero, List.setIfInBounds_toArray, List.set_cons_zero, List.set_cons_succ])
  refine wpAnyH_take (i := 11) (v := ?_) (by rfl) (by kernel_rfl) (by kernel_rfl) (by kernel_rfl) (fun _ _ _ h => h) (Or.inl ⟨by kernel_rfl, ?_⟩) (by assumption) ?_; rotate_left 1; (focus (intro w hSw; (try dsimp only at hSw); simp only [List.getElem_toArray, List.getElem_cons_succ, List.getElem_cons_zero]; all_goals go_simp; all_goals (try with_reducible rfl))); (try simp only [Act.put, List.getElem_toArray, List.getElem_cons_succ, List.getElem_cons_zero, List.setIfInBounds_toArray, List.set_cons_zero, List.set_cons_succ])
  refine wpAnyH_take (i := 12) (v := ?_) (by rfl) (by kernel_rfl) (by kernel_rfl) (by kernel_rfl) (fun _ _ _ h => h) (Or.inl ⟨by kernel_rfl, ?_⟩) (by assumption) ?_; rotate_left 1; (focus (intro w hSw; (try dsimp only at hSw); simp only [List.getElem_toArray, List.getElem_cons_succ, List.getElem_cons_zero]; all_goals go_simp; all_goals (try with_reducible rfl))); (try simp only [Act.put, List.getElem_toArray, List.getElem_cons_succ, List.getElem_cons_zero, List.setIfInBounds_toArray, List.set_cons_zero, List.set_cons_succ])
  refine wpAnyH_take (i := 13) (v := ?_) (by rfl) (by kernel_rfl) (by kernel_rfl) (by kernel_rfl) (fun _ _ _ h => h) (Or.inl ⟨by kernel_rfl, ?_⟩) (by assumption) ?_; rotate_left 1; (focus (intro w hSw; (try dsimp only at hSw); simp only [List.getElem_toArray, List.getElem_cons_succ, List.getElem_cons_zero]; all_goals go_simp; all_goals (try with_reducible rfl))); (try simp only [Act.put, List.getElem_toArray, List.getElem_cons_succ, List.getElem_cons_zero, List.setIfInBounds_toArray, List.set_cons_zero, List.set_cons_succ])
  refine wpAnyH_take (i := 14) (v := ?_) (by rfl) (by kernel_rfl) (by kernel_rfl) (by kernel_rfl) (fun _ _ _ h => h) (Or.inl ⟨by kernel_rfl, ?_⟩) (by assumption) ?_; rotate_left 1; (focus (intro w hSw; (try dsimp only at hSw); simp only [List.getElem_toArray, List.getElem_cons_succ, List.getElem_cons_zero]; all_goals go_simp; all_goals (try with_reducible rfl))); (try simp only [Act.put, List.getElem_toArray, List.getElem_cons_succ, List.getElem_cons_zero, List.setIfInBounds_toArray, List.set_cons_zero, List.set_cons_succ])
  refine wpAnyH_take (i := 15) (v := ?_) (by rfl) (by kernel_rfl) (by kernel_rfl) (by kernel_rfl) (fun _ _ _ h => h) (Or.inl ⟨by kernel_rfl, ?_⟩) (by assumption) ?_; rotate_left 1; (focus (intro w hSw; (try dsimp only at hSw); simp only [List.getElem_toArray, List.getElem_cons_succ, List.getElem_cons_zero]; all_goals go_simp; all_goals (try with_reducible rfl))); (try simp only [Act.put, List.getElem_toArray, List.getElem_cons_succ, List.getElem_cons_zero, List.setIfInBounds_toArray, List.set_cons_zero, List.set_cons_succ])
  refine wpAnyH_done (by kernel_rfl) ?_ _
  refine NoPanic.normal ?_
  go_wp2_with fail
  go_ret3
  exact ⟨rfl, HB2.out.trans (HB4.out.mono HB2.out.size)⟩
end Go.Proofs.YtncopdhhchmpeaaGreatDoor
namespace Go.Proofs.YtncopdhhchmpeaaGreatDoor
open Go.ChangeShapes Go.WideShapes Go.ChangeAt Go.RowKit
set_option linter.unusedVariables false
set_option linter.unusedSimpArgs false
/-- One more bank, within y. -/
def openedB (D : BSt) (y lim : Int) : BSt := { D with nb := D.nb + 1, pr := upd D.pr D.nb y, us := upd D.us D.nb 0, lm := upd D.lm D.nb lim }
theorem BW.opened {w0 w w' : World} {L : BLoc} {D : BSt} (h : BW w0 w L D) (y lim : Int) (hy0 : -1 ≤ y) (hy1 : y < D.nb) (hn : D.nb < L.n) (hk : BkAt w' L.bB L.P L.p L.B L.A L.G1 L.G2 L.G3 L.n L.c L.mb L.dP (thN (D.nb + 1)) (fun _ => 0) (upd D.pr D.nb y) (upd D.us D.nb 0) (upd D.lm D.nb lim) D.o1 D.v1 D.o2 D.v2 D.o3 D.v3) (hb : PBelow w w' L.B L.A) : BW w0 w' L (openedB D y lim) ∧ UpT L.T w w' :=
  ⟨BW.bank h (D' := openedB D y lim) hk (hb.below h.kk.ar.lt.1 h.kk.ac.lt.1 h.bl) rfl (prok_put h.pk y hy0 hy1) hn, UpT.pb hb (by have := h.tt; omega) (by have := h.tt; omega)⟩
theorem bwroot_ok {w0 : World} {L : BLoc} {D : BSt} (lim : Int) (hl0 : 0 ≤ lim) (hl1 : lim ≤ 512) (k : Int) (hk : Hid ((D.nb : Int) = k)) (hn : D.nb < L.n) (w : World) (h : BW w0 w L D) :
    Calls Tryz.prog 12 #[.pointer (some ⟨L.P, 0, none⟩), .int .i64 lim] w fun e w' => e = .returned (.tuple #[.int .i64 k, .int .i64 0, .nilIface]) ∧ BW w0 w' L (openedB D (-1) lim) ∧ UpT L.T w w' := by
  rw [← hk.out]
  refine broot_of (P := L.P) _ _ _ _ rfl ((bopen_ok (-1) lim (by omega) (by omega) hl0 hl1 hn (Lib.hid h.pk) (Lib.hid (by rw [chL_neg _ _ (by omega)]; decide)) w h.kk).mono fun e w' ⟨h1, h2, h3⟩ => ⟨h1, h.opened (-1) lim (by omega) (by omega) hn h2 h3⟩)
theorem bwroot_range {w0 : World} {L : BLoc} {D : BSt} (lim : Int) (hl : ¬ (0 ≤ lim ∧ lim ≤ 512)) (w : World) (v : Value) (hE : w.cell? ⟨1, 0, none⟩ = some v) (h : BW w0 w L D) :
    Calls Tryz.prog 12 #[.pointer (some ⟨L.P, 0, none⟩), .int .i64 lim] w fun e w' => e = .returned (.tuple #[.int .i64 0, .int .i64 0, v]) ∧ Below w.heap.size w w' :=
  broot_of (P := L.P) _ _ _ _ rfl (bopen_range (P := L.P) (-1) lim hl w v hE)
theorem bwsub_ok {w0 : World} {L : BLoc} {D : BSt} (x : Int) (q : Nat) (hx : Hid (x = (q : Int))) (lim : Int) (hl0 : 0 ≤ lim) (hl1 : lim ≤ 512) (hq : q < D.nb) (k : Int) (hk : Hid ((D.nb : Int) = k)) (hn : D.nb < L.n) (hch : Hid ((chL D.pr q).length < 8)) (w : World) (h : BW w0 w L D) :
    Calls Tryz.prog 20 #[.pointer (some ⟨L.P, 0, none⟩), .int .i64 x, .int .i64 lim] w fun e w' => e = .returned (.tuple #[.int .i64 k, .int .i64 0, .nilIface]) ∧ BW w0 w' L (openedB D q lim) ∧ UpT L.T w w' := by
  rw [← hk.out, hx.out]
  exact bsub_of q lim hq h.nn _ _ _ _ rfl w h.kk ((bopen_ok (q : Int) lim (by omega) (by omega) hl0 hl1 hn (Lib.hid h.pk) hch w h.kk).mono fun e w' ⟨h1, h2, h3⟩ => ⟨h1, h.opened (q : Int) lim (by omega) (by omega) hn h2 h3⟩)
theorem bwsub_many {w0 : World} {L : BLoc} {D : BSt} (x : Int) (q : Nat) (hx : Hid (x = (q : Int))) (lim : Int) (hl0 : 0 ≤ lim) (hl1 : lim ≤ 512) (hq : q < D.nb) (hch : Hid (8 ≤ (chL D.pr q).length)) (w : World) (v : Value) (h : BW w0 w L D) (hE : w.cell? ⟨2, 0, none⟩ = some v) (hl : 2 < w.heap.size) :
    Calls Tryz.prog 20 #[.pointer (some ⟨L.P, 0, none⟩), .int .i64 x, .int .i64 lim] w fun e w' => e = .returned (.tuple #[.int .i64 0, .int .i64 0, v]) ∧ Below w.heap.size w w' := by
  rw [hx.out]
  exact bsub_of q lim hq h.nn _ _ _ _ rfl w h.kk (bopen_many (q : Int) lim (by omega) (by omega) hl0 hl1 h.nn (Lib.hid h.pk) hch w h.kk v hE hl)
/-- Nothing yet. -/
def st0 : BSt := ⟨fun _ => false, fun _ => 0, fun _ b => zc b, fun _ => false, fun _ => 0, fun _ _ => 0, fun _ => false, fun _ => 0, fun _ b => zd b, 0, fun _ => 0, fun _ => 0, fun _ => 0, fun _ => -1, fun _ => 0, fun _ => -1, fun _ => 0, fun _ => -1, fun _ => 0⟩
theorem bwpage_ok {w0 : World} {L : BLoc} {D : BSt} (y z : Int) (q : Nat) (hy : Hid (y = (q : Int))) (hq : q < D.nb) (a : Option Addr) (m c2 : Nat) (xs : List Int) (hm : Hid (xs.length = m)) (hx0 : m ≤ 32) (j : Nat) (hz : Hid ((j : Int) = z)) (hj : j < L.b.n) (hyes : Hid (freeB D.pt D.pv j = true)) (hno : Hid (∀ i, i < j → freeB D.pt D.pv i = false)) (v : Int) (hv : Hid (D.pv j = v)) (hfull : Hid ((chL D.pr q).any (fullB D.us D.lm) = false)) (hu : Hid (∀ i, i < L.n → -1000000 ≤ D.us i ∧ D.us i ≤ 1000000)) (w : World) (h : BW w0 w L D) (hs : SrcW L w a xs) :
    Calls Tryz.prog 17 #[.pointer (some ⟨L.P, 0, none⟩), .int .i64 y, .slice a m c2] w fun e w' => e = .returned (.tuple #[.int .i64 z, .int .i64 v, .nilIface]) ∧ BW w0 w' L (boughtP D q j v (fresh D.pW j xs)) ∧ UpT L.T w w' := by
  rw [hy.out, ← hz.out]
  exact bpage_ok q hq a m c2 xs hm hx0 j hj hyes hno v hv hfull hu w h hs
theorem bwpage_limit {w0 : World} {L : BLoc} {D : BSt} (y : Int) (q : Nat) (hy : Hid (y = (q : Int))) (hq : q < D.nb) (a : Option Addr) (m c2 : Nat) (xs : List Int) (hm : Hid (xs.length = m)) (hx0 : m ≤ 32) (hfull : Hid ((chL D.pr q).any (fullB D.us D.lm) = true)) (v : Value) (w : World) (h : BW w0 w L D) (hs : SrcW L w a xs) (hE : w.cell? ⟨4, 0, none⟩ = some v) (hlt : 4 < w.heap.size) :
    Calls Tryz.prog 17 #[.pointer (some ⟨L.P, 0, none⟩), .int .i64 y, .slice a m c2] w fun e w' => e = .returned (.tuple #[.int .i64 0, .int .i64 0, v]) ∧ Below w.heap.size w w' := by
  rw [hy.out]
  exact bpage_limit q hq a m c2 xs hm hx0 hfull v w h hs hE hlt
theorem chL_root {nb : Nat} {pr : Nat → Int} (hp : PrOk nb pr) (hb : nb ≤ 256) (q : Nat) (hq : q < nb) (h : pr q = -1) : chL pr (q : Int) = [(q : Int)] := by
  rw [chL_cons hp q hq hb, h, chL_neg _ _ (by omega)]
theorem upt_keep {T : Nat} {w w' : World} (h : UpT T w w') (k : Nat) (h1 : T ≤ k) (h2 : k < w.heap.size) : w'.heap[k]? = w.heap[k]? := h.2 k h1 h2
theorem d1_pk : PrOk 1 (openedB st0 (-1) 1).pr := fun i hi => by
  obtain rfl : i = 0 := by omega
  simp [openedB, st0, upd]
theorem d1_chain : chL (openedB st0 (-1) 1).pr ((0 : Nat) : Int) = [((0 : Nat) : Int)] := chL_root d1_pk (by decide) 0 (by decide) (by simp [openedB, st0, upd])
end Go.Proofs.YtncopdhhchmpeaaGreatDoor
