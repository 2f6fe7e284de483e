/-
  package queue: what a queue is in memory; what stays apart from it.
-/
import Derived.Test.YtdfcpgbimihcoaaOpen
import Derived.Maps.OwnSet
import Derived.Maps.AppendAt
import Derived.OneCell
import Derived.OwnWalk
import Derived.Laws.OwnMore
import Derived.Laws.Cover3
import Derived.Outline
import Derived.Deep.RegionWith
import Derived.Deep.RegionHeld3
import Derived.Deep.QuietTactic
import Derived.BigQuiet
import Derived.WalkLawsBesides
import Derived.WalkSpells
import Derived.StillTailTactics
import Derived.Deep.DeepCutAuto
import Derived.Deep.Cut
namespace Go.Proofs.Ytdfcpgbimihcoaa
open Go.ChangeShapes Go.WideShapes Go.ChangeAt Go.RowKit Go.Maps
set_option linter.unusedVariables false
theorem qbcell {W w1 : World} (hb : Below W.heap.size W w1) : (∀ b o, b < W.heap.size → w1.cell? ⟨b, o, none⟩ = W.cell? ⟨b, o, none⟩) ∧ (∀ b o, b < W.heap.size → w1.frozen? ⟨b, o, none⟩ = W.frozen? ⟨b, o, none⟩) :=
  ⟨fun b o h => hb.cell (p := ⟨b, o, none⟩) h, fun b o h => hb.frozen (p := ⟨b, o, none⟩) h⟩
theorem lt_heap {w : World} {b : Nat} {o : Obj} (h : w.heap[b]? = some o) : b < w.heap.size := lt_of_block h
theorem own_same {w w' : World} {B E s n : Nat} {v : Value} {xs : List Value} (h : w.ownsRow B E s v n xs) (hb : ∀ g, v.ownBlock = some g → w'.heap[g]? = w.heap[g]?) : w'.ownsRow B E s v n xs := by
  refine ⟨h.1, ?_⟩
  rcases h.2 with hn | ⟨g, cap, cur, rfl, hB, hg, rest⟩
  · exact .inl hn
  · exact .inr ⟨g, cap, cur, rfl, hB, (hb g rfl).trans hg, rest⟩
abbrev U1 : Value → Option (DataW Unit × List MemPlace) := unitElem (H := Unit)
theorem lawI : Keyed Try.prog 3 := int_keyed Try.underlying3
theorem zeroU (w : World) : (zeroValue 54).run Try.prog w = .ok (.agg #[]) w := by kernel_rfl
theorem infoInt : (Try.prog.info? 3).map (fun i => (i.zero, i.size, i.bytes)) = some (some (.int .i64 0), 1, 8) := by kernel_rfl
theorem eql_map (m : Option Nat) (w : World) : (binOp .eql 25 (.map m) (.map none)).run Try.prog w = .ok (.bool m.isNone) w := by
  simp only [binOp]
  simp [run_equal_map_nil w 25 3 54 m Try.underlying25]
abbrev kI (x : Int) : Lit := .int .i64 x
def wfI (x : Int) : Prop := (Lit.int .i64 x).wf = true
theorem wfI.key {x : Int} (h : wfI x) : keyOf Try.prog 3 (.int .i64 x) = some (kI x) := keyOf_int_mk Try.underlying3 h
theorem wfI.fit {a : Int} (h : wfI a) : -9223372036854775808 ≤ a ∧ a ≤ 9223372036854775807 := by
  unfold wfI at h
  simpa [Lit.wf, IntKind.min, IntKind.max, IntKind.signed, IntKind.bits] using h
theorem wfI.mk {a : Int} (h1 : -9223372036854775808 ≤ a) (h2 : a ≤ 9223372036854775807) : wfI a := WalkArith.wf_i64 ⟨h1, h2⟩
section
variable {w w' : World} {q : Nat} {x y u : Value} {t : TypeId}
theorem two_at (h : w.heap[q]? = some (.cells #[x, y] t (0, 0))) : w.cell? ⟨q, 0, none⟩ = some x ∧ w.cell? ⟨q, 1, none⟩ = some y ∧ w.frozen? ⟨q, 0, none⟩ = false ∧ w.frozen? ⟨q, 1, none⟩ = false ∧ q < w.heap.size :=
  ⟨by simp [World.cell?, h], by simp [World.cell?, h], by simp [World.frozen?, h], by simp [World.frozen?, h], lt_heap h⟩
theorem two_set0 (h : w.heap[q]? = some (.cells #[x, y] t (0, 0))) : (w.setCell ⟨q, 0, none⟩ u).heap[q]? = some (.cells #[u, y] t (0, 0)) := by
  have hlt := lt_heap h
  have h' : w.heap[q] = .cells #[x, y] t (0, 0) := by simpa [Array.getElem?_eq_getElem hlt] using h
  show (w.heap.modify q _)[q]? = _
  rw [Array.getElem?_eq_getElem (by simpa using hlt), Array.getElem_modify_self, h']
  rfl
theorem two_set1 (h : w.heap[q]? = some (.cells #[x, y] t (0, 0))) : (w.setCell ⟨q, 1, none⟩ u).heap[q]? = some (.cells #[x, u] t (0, 0)) := by
  have hlt := lt_heap h
  have h' : w.heap[q] = .cells #[x, y] t (0, 0) := by simpa [Array.getElem?_eq_getElem hlt] using h
  show (w.heap.modify q _)[q]? = _
  rw [Array.getElem?_eq_getElem (by simpa using hlt), Array.getElem_modify_self, h']
  rfl
theorem grown_cell (w : World) (q j : Nat) (u : Value) : w.grownBy (w.setCell ⟨q, j, none⟩ u) (some q) :=
  ⟨rfl, rfl, rfl, by simp, fun k hk hne => Below.heap_setCell _ _ _ _ (fun e => hne (by simpa using e))⟩
end
/-- A queue lies at block q: the row v of its numbers l, the map at block M that has just those. -/
structure QM (w : World) (base q b : Nat) (l : List Int) (v : Value) (M : Nat) (D : DataW Unit) : Prop where
  hp : w.heap[q]? = some (.cells #[v, .map (some M)] 27 (0, 0))
  qb : base ≤ q
  row : w.ownsRow base 3 1 v l.length (l.map (Value.int .i64))
  qv : v.ownBlock ≠ some q
  mp : w.ownsMap Try.prog 3 U1 M b D
  mb : base ≤ M
  has : ∀ x, Maps.has D (kI x) = l.contains x
  nd : l.Nodup
  vals : ∀ x ∈ l, wfI x
/-- The blocks of a queue. -/
def SM (q : Nat) (v : Value) (M : Nat) : Nat → Prop := fun k => k = q ∨ v.ownBlock = some k ∨ k = M
def SN (q : Nat) : Nat → Prop := fun k => k = q
/-- What changed is of the queue's blocks alone, and so is what is the queue's now, but for what is new. -/
structure QFr (w w' : World) (S S' : Nat → Prop) : Prop where
  os : w'.os = w.os
  tape : w'.tape = w.tape
  output : w'.output = w.output
  size : w.heap.size ≤ w'.heap.size
  block : ∀ k, k < w.heap.size → ¬ S k → w'.heap[k]? = w.heap[k]? ∧ ¬ S' k
section
variable {w w' w'' : World} {S S' S'' : Nat → Prop} {base q b M : Nat} {l : List Int} {v : Value} {D : DataW Unit}
theorem QFr.refl (w : World) (S : Nat → Prop) : QFr w w S S := ⟨rfl, rfl, rfl, Nat.le_refl _, fun _ _ h => ⟨rfl, h⟩⟩
theorem QFr.trans (h : QFr w w' S S') (h2 : QFr w' w'' S' S'') : QFr w w'' S S'' :=
  ⟨h2.os.trans h.os, h2.tape.trans h.tape, h2.output.trans h.output, Nat.le_trans h.size h2.size, fun k hk hn => by
    have a := h.block k hk hn
    have c := h2.block k (Nat.lt_of_lt_of_le hk h.size) a.2
    exact ⟨c.1.trans a.1, c.2⟩⟩
theorem QFr.of_below (h : Below w.heap.size w w') (S : Nat → Prop) : QFr w w' S S := ⟨h.os, h.tape, h.output, h.size, fun k hk hn => ⟨h.block k hk, hn⟩⟩
theorem QFr.of_grown {g : Nat} (h : w.grownBy w' (some g)) (hS : S g) : QFr w w' S S := ⟨h.os, h.tape, h.output, h.size, fun k hk hn => ⟨h.block k hk (fun e => hn (by injection e with e; rw [e]; exact hS)), hn⟩⟩
theorem QFr.turn (h : QFr w w' S S') (h2 : ∀ k, k < w.heap.size → ¬ S k → ¬ S'' k) : QFr w w' S S'' := ⟨h.os, h.tape, h.output, h.size, fun k hk hn => ⟨(h.block k hk hn).1, h2 k hk hn⟩⟩
theorem QFr.below {B : Nat} (h : QFr w w' S S') (hS : ∀ k, S k → B ≤ k) (hB : B ≤ w.heap.size) : Below B w w' := ⟨h.os, h.tape, h.output, h.size, fun k hk => (h.block k (Nat.lt_of_lt_of_le hk hB) (fun hs => by have := hS k hs; omega)).1⟩
theorem QM.at (h : QM w base q b l v M D) : w.cell? ⟨q, 0, none⟩ = some v ∧ w.cell? ⟨q, 1, none⟩ = some (.map (some M)) ∧ w.frozen? ⟨q, 0, none⟩ = false ∧ w.frozen? ⟨q, 1, none⟩ = false ∧ q < w.heap.size := two_at h.hp
theorem QM.mq (h : QM w base q b l v M D) : M ≠ q := by
  intro e
  obtain ⟨es, cl, hm, _⟩ := h.mp
  rw [e, h.hp] at hm
  cases hm
theorem QM.mv (h : QM w base q b l v M D) : v.ownBlock ≠ some M := by
  intro e
  obtain ⟨es, cl, hm, _⟩ := h.mp
  rcases h.row.2 with ⟨rfl, _⟩ | ⟨g, cap, cur, rfl, hB, hg, rest⟩
  · cases e
  · simp [Value.ownBlock] at e
    rw [e, hm] at hg
    cases hg
theorem QM.lo (h : QM w base q b l v M D) : ∀ k, SM q v M k → base ≤ k := by
  intro k hk
  rcases hk with rfl | hk | rfl
  · exact h.qb
  · rcases h.row.2 with ⟨rfl, _⟩ | ⟨g, cap, cur, rfl, hB, hg, rest⟩
    · cases hk
    · simp [Value.ownBlock] at hk
      rw [← hk]
      exact hB
  · exact h.mb
theorem QM.hi (h : QM w base q b l v M D) : ∀ k, SM q v M k → k < w.heap.size := by
  intro k hk
  rcases hk with rfl | hk | rfl
  · exact h.at.2.2.2.2
  · rcases h.row.2 with ⟨rfl, _⟩ | ⟨g, cap, cur, rfl, hB, hg, rest⟩
    · cases hk
    · simp [Value.ownBlock] at hk
      rw [← hk]
      exact lt_heap hg
  · exact h.mp.lt
/-- A queue of which nothing has changed. -/
theorem QM.same (h : QM w base q b l v M D) (hb : ∀ k, SM q v M k → w'.heap[k]? = w.heap[k]?) : QM w' base q b l v M D := by
  refine ⟨(hb q (.inl rfl)).trans h.hp, h.qb, own_same h.row (fun g hg => hb g (.inr (.inl hg))), h.qv, ?_, h.mb, h.has, h.nd, h.vals⟩
  obtain ⟨es, cl, hm, r⟩ := h.mp
  exact ⟨es, cl, (hb M (.inr (.inr rfl))).trans hm, r⟩
theorem QM.below (h : QM w base q b l v M D) (hb : Below w.heap.size w w') : QM w' base q b l v M D := h.same fun k hk => hb.block k (h.hi k hk)
theorem QM.more (h : QM w base q b l v M D) {b' : Nat} (hb : b ≤ b') : QM w base q b' l v M D := ⟨h.hp, h.qb, h.row, h.qv, h.mp.mono hb, h.mb, h.has, h.nd, h.vals⟩
theorem QM.made (w : World) (hp : w.heap[q]? = some (.cells #[.slice none 0 0, .map none] 27 (0, 0))) (hb : base ≤ q) (hs : base ≤ w.heap.size) :
    QM ((w.alloc (.map #[] 0)).setCell ⟨q, 1, none⟩ (.map (some w.heap.size))) base q 0 [] (.slice none 0 0) w.heap.size (.map []) ∧ QFr w ((w.alloc (.map #[] 0)).setCell ⟨q, 1, none⟩ (.map (some w.heap.size))) (SN q) (SM q (.slice none 0 0) w.heap.size) := by
  have hlt := lt_heap hp
  have h1 : (w.alloc (.map #[] 0)).heap[q]? = some (.cells #[.slice none 0 0, .map none] 27 (0, 0)) := (Below.heap_alloc _ _ _ hlt).trans hp
  refine ⟨⟨two_set1 h1, hb, World.ownsRow_nil _ _ _ _, by simp [Value.ownBlock], (World.ownsMap_made w _ _ _).setCell (by simp; omega) _, hs, fun x => by simp [Maps.has], List.nodup_nil, by simp⟩, ?_⟩
  refine ((QFr.of_below ((Below.refl _ _).alloc (Nat.le_refl _) _) (SN q)).trans (QFr.of_grown (grown_cell _ q 1 _) rfl)).turn fun k hk hn => ?_
  rintro (e | e | e)
  · exact hn e
  · cases e
  · omega
end
/-- Brought to the end, each that is not there. -/
def putAll (l ms : List Int) : List Int := ms.foldl (fun l x => if l.contains x then l else l ++ [x]) l
theorem putAll_snoc (l ms : List Int) (x : Int) : putAll l (ms ++ [x]) = if (putAll l ms).contains x then putAll l ms else putAll l ms ++ [x] := by
  unfold putAll
  rw [List.foldl_append]
  rfl
theorem putAll_len (l ms : List Int) : l.length ≤ (putAll l ms).length ∧ (putAll l ms).length ≤ l.length + ms.length := by
  induction ms generalizing l with
  | nil => exact ⟨Nat.le_refl _, Nat.le_refl _⟩
  | cons x ms ih =>
    have e : putAll l (x :: ms) = putAll (if l.contains x then l else l ++ [x]) ms := rfl
    rw [e]
    by_cases hc : l.contains x = true
    · rw [if_pos hc]
      have := ih l
      rw [List.length_cons]
      omega
    · rw [if_neg hc]
      have := ih (l ++ [x])
      rw [List.length_append] at this
      simp only [List.length_cons, List.length_nil] at this ⊢
      omega
theorem take_succ' (xs : List Int) (k : Nat) (h : k < xs.length) : xs.take (k + 1) = xs.take k ++ [xs.getD k 0] := by
  rw [List.take_succ_eq_append_getElem h]
  simp [List.getD, h]
section
variable {w w1 w2 w3 : World} {base q b M : Nat} {l : List Int} {v v2 : Value} {D : DataW Unit}
theorem isKey (x : Int) : WideAt.IsKeyLit (kI x) := by trivial
/-- One more number at the end. -/
theorem QM.put (h : QM w base q b l v M D) (x : Int) (hx : wfI x) (hin : l.contains x = false) (o : Obj)
    (hm : w2.ownsMap Try.prog 3 U1 M (b + 1) (D.put (kI x) (.agg []))) (hg : w.grownBy w2 (some M))
    (hrow : w3.ownsRow base 3 1 v2 (l.length + 1) (l.map (Value.int .i64) ++ [.int .i64 x])) (hg3 : (w2.alloc o).grownBy w3 v.ownBlock) (hloc : v2.ownBlock = v.ownBlock ∨ v2.ownBlock = some (w2.alloc o).heap.size) :
    QM (w3.setCell ⟨q, 0, none⟩ v2) base q (b + 1) (l ++ [x]) v2 M (D.put (kI x) (.agg [])) ∧ QFr w (w3.setCell ⟨q, 0, none⟩ v2) (SM q v M) (SM q v2 M) := by
  have s0 := h.at.2.2.2.2
  have s1 := hg.size
  have s2 : (w2.alloc o).heap.size = w2.heap.size + 1 := by simp
  have s3 := hg3.size
  have hq2 : w2.heap[q]? = some (.cells #[v, .map (some M)] 27 (0, 0)) := (hg.block q s0 (fun e => h.mq (by injection e with e; exact e.symm))).trans h.hp
  have hq3 : w3.heap[q]? = some (.cells #[v, .map (some M)] 27 (0, 0)) := (hg3.block q (by omega) (fun e => h.qv e.symm)).trans ((Below.heap_alloc _ _ _ (by omega)).trans hq2)
  have hM := hm.lt
  have hm3 : w3.ownsMap Try.prog 3 U1 M (b + 1) (D.put (kI x) (.agg [])) := (hm.alloc o).kept hg3 (fun e => h.mv e.symm)
  have hv2q : v2.ownBlock ≠ some q := by
    rcases hloc with e | e
    · rw [e]; exact h.qv
    · rw [e]; intro e2; injection e2 with e2; omega
  have ha := hg3
  refine ⟨⟨two_set0 hq3, h.qb, ?_, hv2q, hm3.setCell h.mq _, h.mb, ?_, ?_, ?_⟩, ?_⟩
  · have := ownsRow_setCell_other hrow (a := ⟨q, 0, none⟩) hv2q v2
    simpa using this
  · intro y
    by_cases e : y = x
    · subst e
      rw [Maps.has_put_same h.mp.isMap (isKey y)]
      simp
    · rw [Maps.has_put_other (by simpa using e), h.has y]
      simp [e]
  · rw [List.nodup_append]
    refine ⟨h.nd, by simp, fun a ha b hb => ?_⟩
    simp at hb hin
    rw [hb]
    exact fun e => hin (e ▸ ha)
  · intro y hy
    rcases List.mem_append.1 hy with hy | hy
    · exact h.vals y hy
    · simp at hy
      rw [hy]
      exact hx
  · have f1 : QFr w w2 (SM q v M) (SM q v M) := QFr.of_grown hg (.inr (.inr rfl))
    have f2 : QFr w2 (w2.alloc o) (SM q v M) (SM q v M) := QFr.of_below ((Below.refl _ _).alloc (Nat.le_refl _) _) _
    have f3 : QFr (w2.alloc o) w3 (SM q v M) (SM q v M) := ⟨hg3.os, hg3.tape, hg3.output, hg3.size, fun k hk hn => ⟨hg3.block k hk (fun e => hn (.inr (.inl e.symm))), hn⟩⟩
    have f4 : QFr w3 (w3.setCell ⟨q, 0, none⟩ v2) (SM q v M) (SM q v M) := QFr.of_grown (grown_cell _ q 0 _) (.inl rfl)
    refine (((f1.trans f2).trans f3).trans f4).turn fun k hk hn => ?_
    rintro (e | e | e)
    · exact hn (.inl e)
    · rcases hloc with e2 | e2
      · exact hn (.inr (.inl (e2 ▸ e)))
      · rw [e2] at e
        injection e with e
        omega
    · exact hn (.inr (.inr e))
end
end Go.Proofs.Ytdfcpgbimihcoaa
