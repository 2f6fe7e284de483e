/-
  NodeBounds.
-/
import Derived.Test.YtncopdhhchmpeaaGreatDoorNdF
import Derived.Maps.AppendAt
namespace Go.Proofs.YtncopdhhchmpeaaGreatDoor
open Go.ChangeShapes Go.WideShapes Go.ChangeAt Go.RowKit
set_option linter.unusedVariables false
theorem infoKeyA : (Tryz.prog.info? 42).map (fun i => (i.zero, i.size, i.bytes)) = some (some keyZ, 5, 40) := by kernel_rfl
theorem five (q : Nat) (h : q < 5) : q = 0 ∨ q = 1 ∨ q = 2 ∨ q = 3 ∨ q = 4 := by omega
/-- One key's cells. -/
def k5 (y0 y1 y2 y3 y4 : Int) : List Value := [.int .i64 y0, .int .i64 y1, .int .i64 y2, .int .i64 y3, .int .u32 y4]
theorem kcs_one (kk : Nat → Nat → Int) (m : Nat) : kcs kk (m + 1) = kcs kk m ++ k5 (kk m 0) (kk m 1) (kk m 2) (kk m 3) (kk m 4) := by
  unfold kcs
  rw [show (m + 1) * 5 = m * 5 + 5 by omega, List.range_add, List.map_append]
  congr 1
  have e0 : (m * 5 + 0) / 5 = m ∧ (m * 5 + 0) % 5 = 0 := by omega
  have e1 : (m * 5 + 1) / 5 = m ∧ (m * 5 + 1) % 5 = 1 := by omega
  have e2 : (m * 5 + 2) / 5 = m ∧ (m * 5 + 2) % 5 = 2 := by omega
  have e3 : (m * 5 + 3) / 5 = m ∧ (m * 5 + 3) % 5 = 3 := by omega
  have e4 : (m * 5 + 4) / 5 = m ∧ (m * 5 + 4) % 5 = 4 := by omega
  simp only [show List.range 5 = [0, 1, 2, 3, 4] by rfl, List.map_cons, List.map_nil, e0.1, e0.2, e1.1, e1.2, e2.1, e2.2, e3.1, e3.2, e4.1, e4.2]
  rfl
theorem kcs_at (kk : Nat → Nat → Int) (m i q : Nat) (hi : i < m) (hq : q < 5) : (kcs kk m)[i * 5 + q]? = some (kval q (kk i q)) := by
  have h1 : i * 5 + q < m * 5 := by omega
  have h2 : (i * 5 + q) / 5 = i := by omega
  have h3 : (i * 5 + q) % 5 = q := by omega
  simp [kcs, h1, h2, h3]
/-- A row of keys of the law's own. -/
def KR (w : World) (bs g c' m : Nat) (kk : Nat → Nat → Int) : Prop := w.ownsRow bs 42 5 (.slice (some ⟨g, 0, none⟩) m c') m (kcs kk m)
theorem KR.src {w : World} {bs g c' m B G : Nat} {kk : Nat → Nat → Int} (h : KR w bs g c' m kk) (hB : B < bs) (hG : G < bs) : SrcK w (some ⟨g, 0, none⟩) m kk B G := ⟨fun i hi => by
  have hl := World.ownsRow.lt h g rfl
  refine ⟨⟨g, 0, none⟩, rfl, hl.2, by simp; omega, by simp; omega, fun q hq => ?_⟩
  rw [show Addr.add ⟨g, 0, none⟩ (i * 5 + q) = ⟨g, i * 5 + q, none⟩ by (unfold Addr.add; split <;> simp_all)]
  rw [World.ownsRow.cellAt h (i * 5 + q) (by omega)]
  exact kcs_at kk m i q hi hq⟩
theorem KR.lo {w : World} {bs g c' m : Nat} {kk : Nat → Nat → Int} (h : KR w bs g c' m kk) : bs ≤ g ∧ g < w.heap.size := World.ownsRow.lt h g rfl
theorem KR.same {w w' : World} {bs g c' m : Nat} {kk : Nat → Nat → Int} (h : KR w bs g c' m kk) (hb : w'.heap[g]? = w.heap[g]?) : KR w' bs g c' m kk := by
  refine ⟨h.1, ?_⟩
  rcases h.2 with hn | ⟨g1, cap, cur, hv, hB, hg, rest⟩
  · exact .inl hn
  · refine .inr ⟨g1, cap, cur, hv, hB, ?_, rest⟩
    have : g1 = g := by injection hv with e1 _ _; injection e1 with e1; injection e1 with e1; exact e1.symm
    rw [this] at hg ⊢
    rw [hb]
    exact hg
theorem KR.below {w w' : World} {bs g c' m : Nat} {kk : Nat → Nat → Int} (h : KR w bs g c' m kk) (hb : Below w.heap.size w w') : KR w' bs g c' m kk := h.same (hb.block g h.lo.2)
theorem KR.made {w w' : World} {bs g c' m B G : Nat} {kk : Nat → Nat → Int} (h : KR w bs g c' m kk) (hb : PBelow w w' B G) (hB : B < bs) (hG : G < bs) : KR w' bs g c' m kk := h.same (hb.2.2.2.2 g h.lo.2 (by have := h.lo.1; omega) (by have := h.lo.1; omega))
/-- Numbers, one behind the other. -/
def kkN (i q : Nat) : Int := if q = 0 then 1 else if q = 4 then (i : Int) else 0
theorem kkN_right (i : Nat) (hi : i ≤ 1000) : KRight kkN i := by
  unfold KRight
  simp only [kkN]
  simp [rightB, wB, hidOf, hverOf, hrOf, placesOf, dataMost]
  omega
theorem one_of_five {w : World} {T : TypeId} {y0 y1 y2 y3 y4 : Int} : ∀ j u, (k5 y0 y1 y2 y3 y4)[j]? = some u → (w.alloc (.cells #[.int .i64 y0, .int .i64 y1, .int .i64 y2, .int .i64 y3, .int .u32 y4] T (0, 0))).cell? (Addr.add ⟨w.heap.size, 0, none⟩ j) = some u := by
  intro j u hj
  have e : Addr.add ⟨w.heap.size, 0, none⟩ j = ⟨w.heap.size, j, none⟩ := by unfold Addr.add; split <;> simp_all
  rw [e]
  match j, hj with
  | 0, hj | 1, hj | 2, hj | 3, hj | 4, hj => simp [k5] at hj; subst hj; simp
  | j + 5, hj => simp [k5] at hj
theorem k5_one (y0 y1 y2 y3 y4 : Int) : ∀ u ∈ k5 y0 y1 y2 y3 y4, u.oneCell' = true := by
  intro u hu
  simp only [k5, List.mem_cons, List.not_mem_nil, or_false] at hu
  rcases hu with rfl | rfl | rfl | rfl | rfl <;> rfl
theorem own_any {w : World} {B E s n : Nat} {v : Value} {xs : List Value} (h : w.ownsRow B E s v n xs) : ∃ a c, v = .slice a n c ∧ (0 < n → ∃ g, a = some ⟨g, 0, none⟩) := by
  rcases h.2 with ⟨rfl, rfl⟩ | ⟨g, cap, cur, rfl, _⟩
  · exact ⟨none, 0, rfl, fun h => by omega⟩
  · exact ⟨_, cap, rfl, fun _ => ⟨g, rfl⟩⟩
/-- One key anew. -/
def kkS (kk : Nat → Nat → Int) (r : Nat) (y0 y1 y2 y3 y4 : Int) : Nat → Nat → Int := fun i q => if i = r then (if q = 0 then y0 else if q = 1 then y1 else if q = 2 then y2 else if q = 3 then y3 else y4) else kk i q
theorem kcs_set (kk : Nat → Nat → Int) (m r : Nat) (y0 y1 y2 y3 y4 : Int) (hr : r < m) : over (kcs kk m) (r * 5) (k5 y0 y1 y2 y3 y4) = kcs (kkS kk r y0 y1 y2 y3 y4) m := by
  apply List.ext_getElem?
  intro j
  have hl : (k5 y0 y1 y2 y3 y4).length = 5 := rfl
  rw [over_get _ _ _ _ (by rw [hl, kcs_len]; omega), hl]
  by_cases hj : j < m * 5
  · have e1 : j = j / 5 * 5 + j % 5 := by omega
    have hq : j % 5 < 5 := by omega
    have hi : j / 5 < m := by omega
    rw [show (kcs (kkS kk r y0 y1 y2 y3 y4) m)[j]? = some (kval (j % 5) (kkS kk r y0 y1 y2 y3 y4 (j / 5) (j % 5))) by (have h := kcs_at (kkS kk r y0 y1 y2 y3 y4) m (j / 5) (j % 5) hi hq; rwa [← e1] at h)]
    rw [show (kcs kk m)[j]? = some (kval (j % 5) (kk (j / 5) (j % 5))) by (have h := kcs_at kk m (j / 5) (j % 5) hi hq; rwa [← e1] at h)]
    by_cases h : r * 5 ≤ j ∧ j < r * 5 + 5
    · rw [if_pos h]
      have e2 : j / 5 = r := by omega
      have e3 : j - r * 5 = j % 5 := by omega
      rw [e2, e3]
      unfold kkS
      rw [if_pos rfl]
      generalize j % 5 = q at hq
      rcases five q hq with rfl | rfl | rfl | rfl | rfl <;> rfl
    · rw [if_neg h]
      have e2 : j / 5 ≠ r := by omega
      unfold kkS
      rw [if_neg e2]
  · rw [if_neg (by omega), List.getElem?_eq_none (by rw [kcs_len]; omega), List.getElem?_eq_none (by rw [kcs_len]; omega)]
theorem KR.set {w : World} {bs g c' m : Nat} {kk : Nat → Nat → Int} (h : KR w bs g c' m kk) (r : Nat) (hr : r < m) (y0 y1 y2 y3 y4 : Int) :
    KR (((((w.setCell ⟨g, r * 5, none⟩ (.int .i64 y0)).setCell ⟨g, r * 5 + 1, none⟩ (.int .i64 y1)).setCell ⟨g, r * 5 + 2, none⟩ (.int .i64 y2)).setCell ⟨g, r * 5 + 3, none⟩ (.int .i64 y3)).setCell ⟨g, r * 5 + 4, none⟩ (.int .u32 y4)) bs g c' m (kkS kk r y0 y1 y2 y3 y4)
    ∧ w.grownBy (((((w.setCell ⟨g, r * 5, none⟩ (.int .i64 y0)).setCell ⟨g, r * 5 + 1, none⟩ (.int .i64 y1)).setCell ⟨g, r * 5 + 2, none⟩ (.int .i64 y2)).setCell ⟨g, r * 5 + 3, none⟩ (.int .i64 y3)).setCell ⟨g, r * 5 + 4, none⟩ (.int .u32 y4)) (some g) := by
  have hs := own_setCells (k5 y0 y1 y2 y3 y4) (r * 5) _ _ h
  rw [kcs_set kk m r y0 y1 y2 y3 y4 hr] at hs
  exact hs
theorem KR.cells {w : World} {bs g c' m : Nat} {kk : Nat → Nat → Int} (h : KR w bs g c' m kk) (r q : Nat) (hr : r < m) (hq : q < 5) : w.cell? ⟨g, r * 5 + q, none⟩ = some (kval q (kk r q)) := by
  rw [World.ownsRow.cellAt h (r * 5 + q) (by omega)]
  exact kcs_at kk m r q hr hq
theorem KR.free {w : World} {bs g c' m : Nat} {kk : Nat → Nat → Int} (h : KR w bs g c' m kk) (j : Nat) : w.frozen? ⟨g, j, none⟩ = false := World.ownsRow.frozenAt h j
theorem NdAt.kept {w w' : World} {base P p B G n c g : Nat} {th : Nat → Bool} {vr_ : Nat → Int} {W : Nat → Nat → Value} (h : NdAt w base P p B G n c th vr_ W) (hg : w.grownBy w' (some g)) (h1 : P ≠ g) (h2 : p ≠ g) (h3 : B ≠ g) (h4 : G ≠ g) : NdAt w' base P p B G n c th vr_ W :=
  ⟨Nat.lt_of_lt_of_le h.pl hg.size, h.pb, (World.cell?_of_block (a := ⟨P, 0, none⟩) (hg.block P h.pl (fun e => h1 (by injection e)))).trans h.f0, (World.cell?_of_block (a := ⟨P, 1, none⟩) (hg.block P h.pl (fun e => h1 (by injection e)))).trans h.f1, h.ar.kept hg h2 h3, h.row.kept hg (.inr (fun e => h4 (by simpa [Value.ownBlock] using e))), h.n1, h.n2, h.n3, h.n4⟩
theorem NV.kept {W0 w w' : World} {base P p B G n c g : Nat} {th : Nat → Bool} {vr_ : Nat → Int} {W : Nat → Nat → Value} (h : NV W0 w base P p B G n c th vr_ W) (hg : w.grownBy w' (some g)) (h0 : W0.heap.size ≤ g) (h1 : P ≠ g) (h2 : p ≠ g) (h3 : B ≠ g) (h4 : G ≠ g) : NV W0 w' base P p B G n c th vr_ W :=
  ⟨h.bel.grown hg h.bel.size (fun k hk => by injection hk with e; omega), h.wb, h.nd.kept hg h1 h2 h3 h4⟩
end Go.Proofs.YtncopdhhchmpeaaGreatDoor
