/-
  What a list of laid variables gives: each entry by itself, each pair; the addresses of the listed sentinel errors, all unlike.
-/
import Derived.Test.YtncopdhhchmpeaaGreatDoorOpen
import Derived.LaidEql
import Derived.Below
namespace Go.Proofs.YtncopdhhchmpeaaGreatDoor
open Go.ChangeShapes Go.WideShapes Go.ChangeAt Go.RowKit
set_option linter.unusedVariables false

section
variable {P : Program} {W : World}
theorem laid_one : ∀ {l : List (String × DataW Unit)} {ps : List MemPlace} {x : String × DataW Unit}, DataW.LaidVars P W l ps → x ∈ l → ∃ q, DataW.LaidVars P W [x] q ∧ q.Sublist ps := by
  intro l
  induction l with
  | nil => intro ps x _ hx; cases hx
  | cons y r ih =>
    intro ps x h hx
    obtain ⟨n, d⟩ := y
    obtain ⟨g, t, cs, fuel, p, q, hg, ht, hv, hd, hq, rfl⟩ := h
    rcases List.mem_cons.1 hx with rfl | hx
    · exact ⟨_, ⟨g, t, cs, fuel, p, [], hg, ht, hv, hd, rfl, rfl⟩, by rw [List.append_nil]; exact List.sublist_append_left _ _⟩
    · obtain ⟨q', hq', hs⟩ := ih hq hx
      exact ⟨q', hq', hs.trans (List.sublist_append_right _ _)⟩
theorem laid_pair : ∀ {l : List (String × DataW Unit)} {ps : List MemPlace} {x y : String × DataW Unit}, DataW.LaidVars P W l ps → x ∈ l → y ∈ l → x ≠ y →
    ∃ q q', DataW.LaidVars P W [x] q ∧ DataW.LaidVars P W [y] q' ∧ ((q ++ q').Sublist ps ∨ (q' ++ q).Sublist ps) := by
  intro l
  induction l with
  | nil => intro ps x y _ hx; cases hx
  | cons z r ih =>
    intro ps x y h hx hy hne
    obtain ⟨n, d⟩ := z
    obtain ⟨g, t, cs, fuel, p, q, hg, ht, hv, hd, hq, rfl⟩ := h
    rcases List.mem_cons.1 hx with rfl | hx
    · rcases List.mem_cons.1 hy with rfl | hy
      · exact absurd rfl hne
      · obtain ⟨q', hq', hs⟩ := laid_one hq hy
        refine ⟨_, q', ⟨g, t, cs, fuel, p, [], hg, ht, hv, hd, rfl, rfl⟩, hq', .inl ?_⟩
        rw [List.append_nil]
        exact List.Sublist.append (List.Sublist.refl _) hs
    · rcases List.mem_cons.1 hy with rfl | hy
      · obtain ⟨q', hq', hs⟩ := laid_one hq hx
        refine ⟨q', _, hq', ⟨g, t, cs, fuel, p, [], hg, ht, hv, hd, rfl, rfl⟩, .inr ?_⟩
        rw [List.append_nil]
        exact List.Sublist.append (List.Sublist.refl _) hs
      · obtain ⟨q1, q2, h1, h2, hs⟩ := ih hq hx hy hne
        exact ⟨q1, q2, h1, h2, hs.imp (fun k => k.trans (List.sublist_append_right _ _)) (fun k => k.trans (List.sublist_append_right _ _))⟩
theorem laid_mem {l : List (String × DataW Unit)} {x : String × DataW Unit} (h : laidMet P l W) (hx : x ∈ l) : laidMet P [x] W := by
  obtain ⟨ps, hv, hn, hr⟩ := h
  obtain ⟨q, hq, hs⟩ := laid_one hv hx
  exact ⟨q, hq, hn.sublist hs, fun b off hm => hr b off (hs.subset hm)⟩

/-- The address that a variable's cell holds, if it holds an error that is a pointer. -/
def atErr (W : World) (g : Nat) : Addr := match W.cell? ⟨g, 0, none⟩ with
  | some (.iface _ (.pointer (some a))) => a
  | _ => ⟨0, 0, none⟩

theorem laid_err {n nm : String} {text : List UInt8} {ps : List MemPlace} {g : Nat} {ti tp te ts : TypeId} {ms : Array (String × TypeId)} {f : Field}
    (h : DataW.LaidVars P W [(n, .iface nm (.ptr (.agg [.lit (.string text)])))] ps)
    (hrows : ∀ b off, MemPlace.cell b off ∈ ps → (∃ c t, W.heap[b]? = some (.cells c t (0, 0))) ∧ ∀ u v, W.cell? ⟨b, off, none⟩ = some (.iface u v) → Value.okWide P W .any 0 u v)
    (hg : P.globalNamed n = some g) (ht : (P.globals[g]?).map (·.type) = some ti) (hi : P.underlying ti = some (.interface ms)) (hrow : ∀ u, P.typeName? 3 u = some nm → u = tp)
    (hp : P.underlying tp = some (.pointer te)) (he : P.underlying te = some (.struct #[f])) (hft : f.type = ts) (hfo : f.offset = 0) (hs : P.underlying ts = some .string) (hc : P.cellsOf te = 1) (hcs : P.cellsOf ts = 1) :
    W.cell? ⟨g, 0, none⟩ = some (.iface tp (.pointer (some (atErr W g)))) ∧ g < W.heap.size ∧ (∃ c t, W.heap[(atErr W g).block]? = some (.cells c t (0, 0))) ∧ MemPlace.row (atErr W g) 1 ⊆ ps := by
  obtain ⟨g0, t0, cs0, f0, p0, q0, hg0, ht0, hv0, hd0, hq0, e0⟩ := h
  obtain rfl := Option.some.inj (hg.symm.trans hg0)
  obtain rfl := Option.some.inj (ht.symm.trans ht0)
  have hq0' : q0 = [] := hq0
  subst hq0'
  subst e0
  obtain ⟨l0⟩ := cs0
  have ok0 : ∀ u v, l0 = [.iface u v] → Value.okWide P W .any 0 u v := fun u v e => by
    subst e
    exact (hrows g 0 (by simp [MemPlace.row])).2 u v (by simpa using World.var?_cell hg0 hv0 0)
  obtain ⟨a0, s0, rfl, hc0, hs0, hz0, rfl⟩ := errorString_of_trod hi hrow hp he hft hfo hs hc hcs hd0 ok0
  have hcell : W.cell? ⟨g, 0, none⟩ = some (.iface tp (.pointer (some a0))) := by simpa using World.var?_cell hg0 hv0 0
  have ha : atErr W g = a0 := by simp [atErr, hcell]
  rw [ha]
  refine ⟨hcell, ?_, (hrows a0.block a0.off (by simp [MemPlace.row])).1, by intro z hz; simp; exact Or.inr hz⟩
  rcases Nat.lt_or_ge g W.heap.size with h' | h'
  · exact h'
  · simp [World.cell?, Array.getElem?_eq_none h'] at hcell

/-- The sentinels whose variables are gs lie there: unlike pointers, each to a block without a mark. -/
def Errs (tp : TypeId) (gs : List Nat) (A : Nat → Addr) (w : World) : Prop :=
  (∀ g ∈ gs, w.cell? ⟨g, 0, none⟩ = some (.iface tp (.pointer (some (A g)))) ∧ g < w.heap.size ∧ ∃ c t, w.heap[(A g).block]? = some (.cells c t (0, 0))) ∧ ∀ g ∈ gs, ∀ h ∈ gs, g ≠ h → A g ≠ A h

theorem errs_of_laid {l : List (String × DataW Unit)} {gs : List Nat} {nm : String} {ti tp te ts : TypeId} {ms : Array (String × TypeId)} {f : Field} (h : laidMet P l W)
    (hgs : ∀ g ∈ gs, ∃ n text, (n, DataW.iface nm (.ptr (.agg [.lit (.string text)]))) ∈ l ∧ P.globalNamed n = some g ∧ (P.globals[g]?).map (·.type) = some ti)
    (hi : P.underlying ti = some (.interface ms)) (hrow : ∀ u, P.typeName? 3 u = some nm → u = tp)
    (hp : P.underlying tp = some (.pointer te)) (he : P.underlying te = some (.struct #[f])) (hft : f.type = ts) (hfo : f.offset = 0) (hs : P.underlying ts = some .string) (hc : P.cellsOf te = 1) (hcs : P.cellsOf ts = 1) :
    Errs tp gs (atErr W) W := by
  obtain ⟨ps, hv, hn, hr⟩ := h
  refine ⟨fun g hg => ?_, fun g hg k hk hne => ?_⟩
  · obtain ⟨n, text, hm, e1, e2⟩ := hgs g hg
    obtain ⟨q, hq, hsub⟩ := laid_one hv hm
    obtain ⟨h1, h2, h3, _⟩ := laid_err hq (fun b off hm => hr b off (hsub.subset hm)) e1 e2 hi hrow hp he hft hfo hs hc hcs
    exact ⟨h1, h2, h3⟩
  · obtain ⟨n, text, hm, e1, e2⟩ := hgs g hg
    obtain ⟨n', text', hm', e1', e2'⟩ := hgs k hk
    have hxy : ((n, DataW.iface nm (.ptr (.agg [.lit (.string text)]))) : String × DataW Unit) ≠ (n', DataW.iface nm (.ptr (.agg [.lit (.string text')]))) := by
      intro e
      have en : n = n' := congrArg Prod.fst e
      subst en
      rw [e1] at e1'
      exact hne (Option.some.inj e1')
    obtain ⟨q, q', hq, hq', hor⟩ := laid_pair hv hm hm' hxy
    have hd : ∀ z, z ∈ q → z ∈ q' → False := by
      intro z hz hz'
      rcases hor with ho | ho
      · exact (List.nodup_append.1 (hn.sublist ho)).2.2 z hz z hz' rfl
      · exact (List.nodup_append.1 (hn.sublist ho)).2.2 z hz' z hz rfl
    have hsub : q ⊆ ps := by rcases hor with ho | ho <;> intro z hz <;> exact ho.subset (by simp [hz])
    have hsub' : q' ⊆ ps := by rcases hor with ho | ho <;> intro z hz <;> exact ho.subset (by simp [hz])
    obtain ⟨_, _, _, h4⟩ := laid_err hq (fun b off hm => hr b off (hsub hm)) e1 e2 hi hrow hp he hft hfo hs hc hcs
    obtain ⟨_, _, _, h4'⟩ := laid_err hq' (fun b off hm => hr b off (hsub' hm)) e1' e2' hi hrow hp he hft hfo hs hc hcs
    intro e
    rw [← e] at h4'
    exact hd (MemPlace.cell (atErr W g).block (atErr W g).off) (h4 (by simp [MemPlace.row])) (h4' (by simp [MemPlace.row]))

theorem Errs.below {tp : TypeId} {gs : List Nat} {A : Nat → Addr} {w w' : World} (h : Errs tp gs A w) (hb : Below w.heap.size w w') : Errs tp gs A w' := by
  refine ⟨fun g hg => ?_, h.2⟩
  obtain ⟨h1, h2, c, t, h3⟩ := h.1 g hg
  refine ⟨(hb.cell (p := ⟨g, 0, none⟩) h2).trans h1, Nat.lt_of_lt_of_le h2 hb.size, c, t, ?_⟩
  rw [hb.block _ ?_]
  · exact h3
  · rcases Nat.lt_or_ge (A g).block w.heap.size with h' | h'
    · exact h'
    · simp [Array.getElem?_eq_none h'] at h3
/-- Only the error's variables matter, and the blocks that they lead to: whatever keeps those keeps this. -/
theorem Errs.kept {tp : TypeId} {gs : List Nat} {A : Nat → Addr} {w w' : World} (h : Errs tp gs A w) (hz : w.heap.size ≤ w'.heap.size) (hk : ∀ g ∈ gs, w'.cell? ⟨g, 0, none⟩ = w.cell? ⟨g, 0, none⟩ ∧ w'.heap[(A g).block]? = w.heap[(A g).block]?) : Errs tp gs A w' := by
  refine ⟨fun g hg => ?_, h.2⟩
  obtain ⟨h1, h2, c, t, h3⟩ := h.1 g hg
  exact ⟨(hk g hg).1.trans h1, Nat.lt_of_lt_of_le h2 hz, c, t, (hk g hg).2.trans h3⟩
end
end Go.Proofs.YtncopdhhchmpeaaGreatDoor
