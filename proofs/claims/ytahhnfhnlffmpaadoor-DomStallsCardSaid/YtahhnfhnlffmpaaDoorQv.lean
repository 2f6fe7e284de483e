/-
  package queue, a queue that lies anywhere in a block (a row of queues): what it is in memory; what stays apart from it.
-/
import Derived.Test.YtahhnfhnlffmpaaDoorDs2
import Derived.Maps.OwnSet
import Derived.Maps.AppendAt
namespace Go.Proofs.YtahhnfhnlffmpaaDoor.V
open Go.ChangeShapes Go.WideShapes Go.ChangeAt Go.RowKit Go.Maps
set_option linter.unusedVariables false
set_option linter.unusedSimpArgs false
theorem lt_heap {w : World} {b : Nat} {o : Obj} (h : w.heap[b]? = some o) : b < w.heap.size := lt_of_block h
theorem own_same {w w' : World} {B E s n : Nat} {v : Value} {xs : List Value} (h : w.ownsRow B E s v n xs) (hb : ∀ g, v.ownBlock = some g → w'.heap[g]? = w.heap[g]?) : w'.ownsRow B E s v n xs := by
  refine ⟨h.1, ?_⟩
  rcases h.2 with hn | ⟨g, cap, cur, rfl, hB, hg, rest⟩
  · exact .inl hn
  · exact .inr ⟨g, cap, cur, rfl, hB, (hb g rfl).trans hg, rest⟩
abbrev U1 : Value → Option (DataW Unit × List MemPlace) := unitElem (H := Unit)
theorem lawI : Keyed Tryd.prog 3 := int_keyed Tryd.underlying3
theorem zeroU (w : World) : (zeroValue 158).run Tryd.prog w = .ok (.agg #[]) w := by kernel_rfl
theorem infoInt : (Tryd.prog.info? 3).map (fun i => (i.zero, i.size, i.bytes)) = some (some (.int .i64 0), 1, 8) := by kernel_rfl
theorem eql_map (m : Option Nat) (w : World) : (binOp .eql 133 (.map m) (.map none)).run Tryd.prog w = .ok (.bool m.isNone) w := by
  simp only [binOp]
  simp [run_equal_map_nil w 133 3 158 m Tryd.underlying133]
abbrev kI (x : Int) : Lit := .int .i64 x
def wfI (x : Int) : Prop := (Lit.int .i64 x).wf = true
theorem wfI.key {x : Int} (h : wfI x) : keyOf Tryd.prog 3 (.int .i64 x) = some (kI x) := keyOf_int_mk Tryd.underlying3 h
theorem wfI.fit {a : Int} (h : wfI a) : -9223372036854775808 ≤ a ∧ a ≤ 9223372036854775807 := by
  unfold wfI at h
  simpa [Lit.wf, IntKind.min, IntKind.max, IntKind.signed, IntKind.bits] using h
theorem wfI.mk {a : Int} (h1 : -9223372036854775808 ≤ a) (h2 : a ≤ 9223372036854775807) : wfI a := WalkArith.wf_i64 ⟨h1, h2⟩
theorem addr_ne0 (q o : Nat) : (⟨q, o, none⟩ : Addr) ≠ ⟨q, o + 1, none⟩ := by simp
theorem addr_ne1 (q o : Nat) : (⟨q, o + 1, none⟩ : Addr) ≠ ⟨q, o, none⟩ := by simp
theorem addr_ne (q : Nat) {i j : Nat} (h : j ≠ i) : (⟨q, i, none⟩ : Addr) ≠ ⟨q, j, none⟩ := by simp [Ne.symm h]
theorem cs_same {w : World} {a : Addr} {u v : Value} (h : w.cell? a = some u) : (w.setCell a v).cell? a = some v := World.cell?_setCell_same _ _ _ h
theorem cs_other {w : World} {a b : Addr} {v : Value} (h : a ≠ b) : (w.setCell a v).cell? b = w.cell? b := World.cell?_setCell_other _ _ _ _ h
theorem fz_set {w : World} {a b : Addr} {v : Value} : (w.setCell a v).frozen? b = w.frozen? b := World.frozen?_setCell _ _ _ _
theorem grown_cell (w : World) (q j : Nat) (u : Value) : w.grownBy (w.setCell ⟨q, j, none⟩ u) (some q) :=
  ⟨rfl, rfl, rfl, by simp, fun k hk hne => Below.heap_setCell _ _ _ _ (fun e => hne (by simpa using e))⟩
/-- A queue lies at block q, from o on: the row v of its numbers l, the map at block M that has just those. -/
structure VM (w : World) (base q o b : Nat) (l : List Int) (v : Value) (M : Nat) (D : DataW Unit) : Prop where
  c0 : w.cell? ⟨q, o, none⟩ = some v
  c1 : w.cell? ⟨q, o + 1, none⟩ = some (.map (some M))
  f0 : w.frozen? ⟨q, o, none⟩ = false
  f1 : w.frozen? ⟨q, o + 1, none⟩ = false
  row : w.ownsRow base 3 1 v l.length (l.map (Value.int .i64))
  qv : v.ownBlock ≠ some q
  mp : w.ownsMap Tryd.prog 3 U1 M b D
  mb : base ≤ M
  has : ∀ x, Maps.has D (kI x) = l.contains x
  nd : l.Nodup
  vals : ∀ x ∈ l, wfI x
/-- The blocks of a queue. -/
def SM (q : Nat) (v : Value) (M : Nat) : Nat → Prop := fun k => k = q ∨ v.ownBlock = some k ∨ k = M
def SN (q : Nat) : Nat → Prop := fun k => k = q
/-- What changed is of the queue's blocks alone (of the first, its two cells alone), and so is what is the queue's now, but for what is new. -/
structure VFr (q o : Nat) (w w' : World) (S S' : Nat → Prop) : Prop where
  os : w'.os = w.os
  tape : w'.tape = w.tape
  output : w'.output = w.output
  size : w.heap.size ≤ w'.heap.size
  block : ∀ k, k < w.heap.size → ¬ S k → w'.heap[k]? = w.heap[k]? ∧ ¬ S' k
  rest : ∀ j, j ≠ o → j ≠ o + 1 → w'.cell? ⟨q, j, none⟩ = w.cell? ⟨q, j, none⟩ ∧ w'.frozen? ⟨q, j, none⟩ = w.frozen? ⟨q, j, none⟩
section
variable {w w' w'' : World} {S S' S'' : Nat → Prop} {base q o b M : Nat} {l : List Int} {v : Value} {D : DataW Unit}
theorem same_cells (h : w'.heap[q]? = w.heap[q]?) (j : Nat) : w'.cell? ⟨q, j, none⟩ = w.cell? ⟨q, j, none⟩ ∧ w'.frozen? ⟨q, j, none⟩ = w.frozen? ⟨q, j, none⟩ := ⟨World.cell?_of_block (a := ⟨q, j, none⟩) h, World.frozen?_of_block (a := ⟨q, j, none⟩) h⟩
theorem VFr.refl (w : World) (S : Nat → Prop) : VFr q o w w S S := ⟨rfl, rfl, rfl, Nat.le_refl _, fun _ _ h => ⟨rfl, h⟩, fun _ _ _ => ⟨rfl, rfl⟩⟩
theorem VFr.trans (h : VFr q o w w' S S') (h2 : VFr q o w' w'' S' S'') : VFr q o w w'' S S'' :=
  ⟨h2.os.trans h.os, h2.tape.trans h.tape, h2.output.trans h.output, Nat.le_trans h.size h2.size, fun k hk hn => by
    have a := h.block k hk hn
    have c := h2.block k (Nat.lt_of_lt_of_le hk h.size) a.2
    exact ⟨c.1.trans a.1, c.2⟩, fun j h1 h3 => ⟨(h2.rest j h1 h3).1.trans (h.rest j h1 h3).1, (h2.rest j h1 h3).2.trans (h.rest j h1 h3).2⟩⟩
theorem VFr.of_below (h : Below w.heap.size w w') (hq : q < w.heap.size) (S : Nat → Prop) : VFr q o w w' S S := ⟨h.os, h.tape, h.output, h.size, fun k hk hn => ⟨h.block k hk, hn⟩, fun j _ _ => same_cells (h.block q hq) j⟩
theorem VFr.of_grown {g : Nat} (h : w.grownBy w' (some g)) (hS : S g) (hq : q < w.heap.size) (hg : g ≠ q) : VFr q o w w' S S := ⟨h.os, h.tape, h.output, h.size, fun k hk hn => ⟨h.block k hk (fun e => hn (by injection e with e; rw [e]; exact hS)), hn⟩, fun j _ _ => same_cells (h.block q hq (fun e => hg (by injection e with e; exact e.symm))) j⟩
theorem VFr.of_grown' {r : Option Nat} (h : w.grownBy w' r) (hS : ∀ g, r = some g → S g) (hq : q < w.heap.size) (hg : r ≠ some q) : VFr q o w w' S S := ⟨h.os, h.tape, h.output, h.size, fun k hk hn => ⟨h.block k hk (fun e => hn (hS k e.symm)), hn⟩, fun j _ _ => same_cells (h.block q hq (fun e => hg e.symm)) j⟩
theorem VFr.of_set (w : World) (q o j : Nat) (u : Value) (hj : j = o ∨ j = o + 1) (S : Nat → Prop) (hS : S q) : VFr q o w (w.setCell ⟨q, j, none⟩ u) S S :=
  ⟨rfl, rfl, rfl, by simp, fun k hk hn => ⟨Below.heap_setCell _ _ _ _ (fun e => hn (by rw [show k = q from by simpa using e]; exact hS)), hn⟩, fun i h1 h2 => ⟨cs_other (addr_ne q (by omega)), fz_set⟩⟩
theorem VFr.turn (h : VFr q o w w' S S') (h2 : ∀ k, k < w.heap.size → ¬ S k → ¬ S'' k) : VFr q o w w' S S'' := ⟨h.os, h.tape, h.output, h.size, fun k hk hn => ⟨(h.block k hk hn).1, h2 k hk hn⟩, h.rest⟩
theorem VM.lt (h : VM w base q o b l v M D) : q < w.heap.size := World.block_lt_of_cell? w _ h.c0
theorem VM.mq (h : VM w base q o b l v M D) : M ≠ q := by
  intro e
  obtain ⟨es, cl, hm, _⟩ := h.mp
  have hc := h.c0
  rw [e] at hm
  simp [World.cell?, hm] at hc
theorem VM.mv (h : VM w base q o b l v M D) : v.ownBlock ≠ some M := by
  intro e
  obtain ⟨es, cl, hm, _⟩ := h.mp
  rcases h.row.2 with ⟨rfl, _⟩ | ⟨g, cap, cur, rfl, hB, hg, rest⟩
  · cases e
  · simp [Value.ownBlock] at e
    rw [e, hm] at hg
    cases hg
theorem VM.lo (h : VM w base q o b l v M D) : ∀ k, SM q v M k → k = q ∨ base ≤ k := by
  intro k hk
  rcases hk with rfl | hk | rfl
  · exact .inl rfl
  · exact .inr (h.row.lt k hk).1
  · exact .inr h.mb
theorem VM.hi (h : VM w base q o b l v M D) : ∀ k, SM q v M k → k < w.heap.size := by
  intro k hk
  rcases hk with rfl | hk | rfl
  · exact h.lt
  · exact (h.row.lt k hk).2
  · exact h.mp.lt
/-- A queue of whose cells nothing has changed. -/
theorem VM.same (h : VM w base q o b l v M D) (h0 : ∀ j, j = o ∨ j = o + 1 → w'.cell? ⟨q, j, none⟩ = w.cell? ⟨q, j, none⟩ ∧ w'.frozen? ⟨q, j, none⟩ = w.frozen? ⟨q, j, none⟩) (hb : ∀ k, SM q v M k → k ≠ q → w'.heap[k]? = w.heap[k]?) : VM w' base q o b l v M D := by
  refine ⟨(h0 o (.inl rfl)).1.trans h.c0, (h0 _ (.inr rfl)).1.trans h.c1, (h0 o (.inl rfl)).2.trans h.f0, (h0 _ (.inr rfl)).2.trans h.f1, own_same h.row (fun g hg => hb g (.inr (.inl hg)) (fun e => h.qv (by rw [← e]; exact hg))), h.qv, ?_, h.mb, h.has, h.nd, h.vals⟩
  obtain ⟨es, cl, hm, r⟩ := h.mp
  exact ⟨es, cl, (hb M (.inr (.inr rfl)) h.mq).trans hm, r⟩
theorem VM.below (h : VM w base q o b l v M D) (hb : Below w.heap.size w w') : VM w' base q o b l v M D := h.same (fun j _ => same_cells (hb.block q h.lt) j) fun k hk _ => hb.block k (h.hi k hk)
theorem VM.more (h : VM w base q o b l v M D) {b' : Nat} (hb : b ≤ b') : VM w base q o b' l v M D := ⟨h.c0, h.c1, h.f0, h.f1, h.row, h.qv, h.mp.mono hb, h.mb, h.has, h.nd, h.vals⟩
/-- An empty queue, as it is laid. -/
structure VN (w : World) (q o : Nat) : Prop where
  c0 : w.cell? ⟨q, o, none⟩ = some (.slice none 0 0)
  c1 : w.cell? ⟨q, o + 1, none⟩ = some (.map none)
  f0 : w.frozen? ⟨q, o, none⟩ = false
  f1 : w.frozen? ⟨q, o + 1, none⟩ = false
theorem VN.lt (h : VN w q o) : q < w.heap.size := World.block_lt_of_cell? w _ h.c0
theorem VN.same (h : VN w q o) (h0 : ∀ j, j = o ∨ j = o + 1 → w'.cell? ⟨q, j, none⟩ = w.cell? ⟨q, j, none⟩ ∧ w'.frozen? ⟨q, j, none⟩ = w.frozen? ⟨q, j, none⟩) : VN w' q o :=
  ⟨(h0 o (.inl rfl)).1.trans h.c0, (h0 _ (.inr rfl)).1.trans h.c1, (h0 o (.inl rfl)).2.trans h.f0, (h0 _ (.inr rfl)).2.trans h.f1⟩
theorem VM.made (w : World) (h : VN w q o) (hs : base ≤ w.heap.size) :
    VM ((w.alloc (.map #[] 0)).setCell ⟨q, o + 1, none⟩ (.map (some w.heap.size))) base q o 0 [] (.slice none 0 0) w.heap.size (.map []) ∧ VFr q o w ((w.alloc (.map #[] 0)).setCell ⟨q, o + 1, none⟩ (.map (some w.heap.size))) (SN q) (SM q (.slice none 0 0) w.heap.size) := by
  have hlt := h.lt
  have hb : Below w.heap.size w (w.alloc (.map #[] 0)) := (Below.refl _ _).alloc (Nat.le_refl _) _
  have h1 := h.same (fun j _ => same_cells (hb.block q hlt) j)
  refine ⟨⟨(cs_other (addr_ne1 q o)).trans h1.c0, cs_same h1.c1, fz_set.trans h1.f0, fz_set.trans h1.f1, World.ownsRow_nil _ _ _ _, by simp [Value.ownBlock], (World.ownsMap_made w _ _ _).setCell (by simp; omega) _, hs, fun x => by simp [Maps.has], List.nodup_nil, by simp⟩, ?_⟩
  refine ((VFr.of_below hb hlt (SN q)).trans (VFr.of_set _ q o (o + 1) _ (.inr rfl) (SN q) rfl)).turn fun k hk hn => ?_
  rintro (e | e | e)
  · exact hn e
  · cases e
  · omega
end
/-- Brought to the end, each that is not there. -/
def putAll (l ms : List Int) : List Int := ms.foldl (fun l x => if l.contains x then l else l ++ [x]) l
theorem putAll_snoc (l ms : List Int) (x : Int) : putAll l (ms ++ [x]) = if (putAll l ms).contains x then putAll l ms else putAll l ms ++ [x] := by
  unfold putAll
  rw [List.foldl_append]
  rfl
theorem putAll_len (l ms : List Int) : l.length ≤ (putAll l ms).length ∧ (putAll l ms).length ≤ l.length + ms.length := by
  induction ms generalizing l with
  | nil => exact ⟨Nat.le_refl _, Nat.le_refl _⟩
  | cons x ms ih =>
    have e : putAll l (x :: ms) = putAll (if l.contains x then l else l ++ [x]) ms := rfl
    rw [e]
    by_cases hc : l.contains x = true
    · rw [if_pos hc]
      have := ih l
      rw [List.length_cons]
      omega
    · rw [if_neg hc]
      have := ih (l ++ [x])
      rw [List.length_append] at this
      simp only [List.length_cons, List.length_nil] at this ⊢
      omega
theorem take_succ' (xs : List Int) (k : Nat) (h : k < xs.length) : xs.take (k + 1) = xs.take k ++ [xs.getD k 0] := by
  rw [List.take_succ_eq_append_getElem h]
  simp [List.getD, h]
section
variable {w w1 w2 w3 : World} {base q o b M : Nat} {l : List Int} {v v2 : Value} {D : DataW Unit}
theorem isKey (x : Int) : WideAt.IsKeyLit (kI x) := by trivial
/-- The queue's own cells, two writes apart from them on. -/
theorem VM.mid {ob : Obj} (h : VM w base q o b l v M D) (hg : w.grownBy w2 (some M)) (hg3 : (w2.alloc ob).grownBy w3 v.ownBlock) : w3.heap[q]? = w.heap[q]? := by
  have s0 := h.lt
  have s1 := hg.size
  exact (hg3.block q (by simp; omega) (fun e => h.qv e.symm)).trans ((Below.heap_alloc _ _ _ (by omega)).trans (hg.block q s0 (fun e => h.mq (by injection e with e; exact e.symm))))
/-- One more number at the end. -/
theorem VM.put (h : VM w base q o b l v M D) (x : Int) (hx : wfI x) (hin : l.contains x = false) (ob : Obj)
    (hm : w2.ownsMap Tryd.prog 3 U1 M (b + 1) (D.put (kI x) (.agg []))) (hg : w.grownBy w2 (some M))
    (hrow : w3.ownsRow base 3 1 v2 (l.length + 1) (l.map (Value.int .i64) ++ [.int .i64 x])) (hg3 : (w2.alloc ob).grownBy w3 v.ownBlock) (hloc : v2.ownBlock = v.ownBlock ∨ v2.ownBlock = some (w2.alloc ob).heap.size) :
    VM (w3.setCell ⟨q, o, none⟩ v2) base q o (b + 1) (l ++ [x]) v2 M (D.put (kI x) (.agg [])) ∧ VFr q o w (w3.setCell ⟨q, o, none⟩ v2) (SM q v M) (SM q v2 M) := by
  have s0 := h.lt
  have s1 := hg.size
  have s2 : (w2.alloc ob).heap.size = w2.heap.size + 1 := by simp
  have s3 := hg3.size
  have hmid := same_cells (h.mid hg hg3)
  have hM := hm.lt
  have hm3 : w3.ownsMap Tryd.prog 3 U1 M (b + 1) (D.put (kI x) (.agg [])) := (hm.alloc ob).kept hg3 (fun e => h.mv e.symm)
  have hv2q : v2.ownBlock ≠ some q := by
    rcases hloc with e | e
    · rw [e]; exact h.qv
    · rw [e]; intro e2; injection e2 with e2; omega
  refine ⟨⟨cs_same ((hmid o).1.trans h.c0), (cs_other (addr_ne0 q o)).trans ((hmid (o + 1)).1.trans h.c1), fz_set.trans ((hmid o).2.trans h.f0), fz_set.trans ((hmid (o + 1)).2.trans h.f1), ?_, hv2q, hm3.setCell h.mq _, h.mb, ?_, ?_, ?_⟩, ?_⟩
  · have := ownsRow_setCell_other hrow (a := ⟨q, o, none⟩) hv2q v2
    simpa using this
  · intro y
    by_cases e : y = x
    · subst e
      rw [Maps.has_put_same h.mp.isMap (isKey y)]
      simp
    · rw [Maps.has_put_other (by simpa using e), h.has y]
      simp [e]
  · rw [List.nodup_append]
    refine ⟨h.nd, by simp, fun a ha b hb => ?_⟩
    simp at hb hin
    rw [hb]
    exact fun e => hin (e ▸ ha)
  · intro y hy
    rcases List.mem_append.1 hy with hy | hy
    · exact h.vals y hy
    · simp at hy
      rw [hy]
      exact hx
  · have f1 : VFr q o w w2 (SM q v M) (SM q v M) := VFr.of_grown hg (.inr (.inr rfl)) s0 h.mq
    have f2 : VFr q o w2 (w2.alloc ob) (SM q v M) (SM q v M) := VFr.of_below ((Below.refl _ _).alloc (Nat.le_refl _) _) (by omega) _
    have f3 : VFr q o (w2.alloc ob) w3 (SM q v M) (SM q v M) := VFr.of_grown' hg3 (fun g e => .inr (.inl e)) (by omega) h.qv
    have f4 : VFr q o w3 (w3.setCell ⟨q, o, none⟩ v2) (SM q v M) (SM q v M) := VFr.of_set w3 q o o v2 (.inl rfl) _ (.inl rfl)
    refine (((f1.trans f2).trans f3).trans f4).turn fun k hk hn => ?_
    rintro (e | e | e)
    · exact hn (.inl e)
    · rcases hloc with e2 | e2
      · exact hn (.inr (.inl (e2 ▸ e)))
      · rw [e2] at e
        injection e with e
        omega
    · exact hn (.inr (.inr e))
end
end Go.Proofs.YtahhnfhnlffmpaaDoor.V
