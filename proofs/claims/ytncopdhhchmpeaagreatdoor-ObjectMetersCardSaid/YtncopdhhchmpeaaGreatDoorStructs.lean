/-
  Slices of structs of integers that came in; copy of elements of several cells.
-/
import Derived.Test.YtncopdhhchmpeaaGreatDoorOpen
import Derived.Laws.CopyOwn
namespace Go.Proofs.YtncopdhhchmpeaaGreatDoor
open Go.Joins Go.ChangeShapes Go.WideShapes Go.ChangeAt Go.RowKit Go.Deep
set_option linter.unusedVariables false
/-- A slice of structs of integers that came in: nil, or 'cap' rows, the first 'len' its elements. -/
def IsRows (ks : List IntKind) (w : World) (a : Option Addr) (len cap : Nat) (zs : List (List Int)) : Prop :=
  (a = none ∧ len = 0 ∧ cap = 0 ∧ zs = []) ∨
  ∃ x, a = some x ∧ len ≤ cap ∧ cap ≤ maxLen ∧ zs.length = cap ∧ ∀ i, i < zs.length → ∀ j k, ks[j]? = some k → w.cell? (x.add (i * ks.length + j)) = some (.int k ((zs.getD i []).getD j 0)) ∧ (Lit.int k ((zs.getD i []).getD j 0)).wf = true
section
variable {H : Type} {enc : TypeId × Value → H} {P : Program} {w : World} {base : Nat} {held : Bool}
theorem open_rows {t e : TypeId} {fs : Array Field} {fuel : Nat} {a : Option Addr} {len cap : Nat} {x : DataW H × List MemPlace} {ks : List IntKind} (ht : P.underlying t = some (.slice e)) (he : P.underlying e = some (.struct fs))
    (hone : oneCellFields P fs = true) (hC : P.cellsOf e = ks.length) (hfk : fs.size = ks.length) (hk : ∀ (j : Nat) (f : Field), fs[j]? = some f → ∃ k, ks[j]? = some k ∧ P.underlying f.type = some (.int k))
    (h : DataW.trod enc P w base (fun _ => true) held fuel t (Value.slice a len cap).cells.toList = some x) : ∃ zs, IsRows ks w a len cap zs := by
  rcases open_slice ht h with h0 | ⟨y, l, c, m, n, D, Pl, hcs, hb, hl, hm, hmm, hx, hi⟩
  · simp [Value.cells] at h0
    obtain ⟨⟨rfl, rfl, rfl⟩, _⟩ := h0
    exact ⟨[], .inl ⟨rfl, rfl, rfl, rfl⟩⟩
  · simp [Value.cells] at hcs
    obtain ⟨rfl, rfl, rfl⟩ := hcs
    have hmc : m = cap := by simpa using hmm
    have key : ∀ i, i < m → ∃ z : List Int, ∀ j k, ks[j]? = some k → w.cell? (y.add (i * ks.length + j)) = some (.int k (z.getD j 0)) ∧ (Lit.int k (z.getD j 0)).wf = true := by
      intro i him
      obtain ⟨cs', hc, ht'⟩ := hi i him
      rw [hC] at hc
      obtain ⟨ys, n', hn', hy, hlen, hyl, hf⟩ := DataW.trod_struct he ht'
      obtain ⟨_, hcl, hat⟩ := World.cells?_some hc
      have one : ∀ j, j < ks.length → ∃ v : Int, ∀ k, ks[j]? = some k → w.cell? (y.add (i * ks.length + j)) = some (.int k v) ∧ (Lit.int k v).wf = true := by
        intro j hj
        have hjl : j < fs.size := by omega
        have hjf : fs[j]? = some fs[j] := Array.getElem?_eq_getElem hjl
        obtain ⟨k, hks, hu⟩ := hk j _ hjf
        obtain ⟨ho, hkk⟩ := hone_of hone j _ hjf
        have hcell := hat j hj
        have hv : cs'[j]? = some (cs'[j]'(by omega)) := List.getElem?_eq_getElem (by omega)
        have h1 := hf j _ hjf
        rw [ho, hkk] at h1
        have hone' : (cs'.drop j).take 1 = [cs'[j]'(by omega)] := by
          rw [List.drop_eq_getElem_cons (by omega)]
          rfl
        rw [hone'] at h1
        have hys : ys[j]? = some (ys[j]'(by omega)) := List.getElem?_eq_getElem (by omega)
        obtain ⟨v, e1, _, hw⟩ := DataW.trod_int hu (h1.trans hys)
        simp at e1
        refine ⟨v, fun k' hk' => ?_⟩
        obtain rfl := Option.some.inj (hks.symm.trans hk')
        refine ⟨?_, hw⟩
        rw [← Go.Deep.add_add, hcell, hv, e1]
      have pick : ∀ n, n ≤ ks.length → ∃ z : List Int, z.length = n ∧ ∀ j, j < n → ∀ k, ks[j]? = some k → w.cell? (y.add (i * ks.length + j)) = some (.int k (z.getD j 0)) ∧ (Lit.int k (z.getD j 0)).wf = true := by
        intro n
        induction n with
        | zero => intro _; exact ⟨[], rfl, fun j hj => by omega⟩
        | succ n ih =>
          intro hn
          obtain ⟨z, hz, hzz⟩ := ih (by omega)
          obtain ⟨v, hv⟩ := one n (by omega)
          refine ⟨z ++ [v], by simp [hz], fun j hj k hk' => ?_⟩
          by_cases hjn : j < n
          · have e : (z ++ [v]).getD j 0 = z.getD j 0 := by simp [List.getD, List.getElem?_append, hz, hjn]
            rw [e]; exact hzz j hjn k hk'
          · obtain rfl : j = n := by omega
            have e : (z ++ [v]).getD j 0 = v := by simp [List.getD, ← hz]
            rw [e]; exact hv k hk'
      obtain ⟨z, hz, hzz⟩ := pick ks.length (Nat.le_refl _)
      exact ⟨z, fun j k hjk => hzz j ((List.getElem?_eq_some_iff.1 hjk).1) k hjk⟩
    have all : ∀ n, n ≤ m → ∃ zs : List (List Int), zs.length = n ∧ ∀ i, i < n → ∀ j k, ks[j]? = some k → w.cell? (y.add (i * ks.length + j)) = some (.int k ((zs.getD i []).getD j 0)) ∧ (Lit.int k ((zs.getD i []).getD j 0)).wf = true := by
      intro n
      induction n with
      | zero => intro _; exact ⟨[], rfl, fun i hi => by omega⟩
      | succ n ih =>
        intro hn
        obtain ⟨zs, hz, hzz⟩ := ih (by omega)
        obtain ⟨z, hv⟩ := key n (by omega)
        refine ⟨zs ++ [z], by simp [hz], fun i hi j k hk' => ?_⟩
        by_cases hin : i < n
        · have e : (zs ++ [z]).getD i [] = zs.getD i [] := by simp [List.getD, List.getElem?_append, hz, hin]
          rw [e]; exact hzz i hin j k hk'
        · obtain rfl : i = n := by omega
          have e : (zs ++ [z]).getD i [] = z := by simp [List.getD, ← hz]
          rw [e]; exact hv j k hk'
    obtain ⟨zs, hz, hzz⟩ := all m (Nat.le_refl _)
    exact ⟨zs, .inr ⟨_, rfl, hl, hm, by omega, fun i hi => hzz i (by omega)⟩⟩
end

section
variable {P : Program}
/-- copy where an element has s cells: dst's block known whole. -/
theorem run_copy_wide (w : World) (dT sT ty elem : TypeId) (s g o dLen dCap : Nat) (a : Addr) (sLen sCap : Nat) (cur : Array Value) (t : TypeId) (cs : List Value)
    (hu : P.underlying dT = some (.slice elem)) (hs : (P.info? elem).map (·.size) = some s)
    (hg : w.heap[g]? = some (.cells cur t (0, 0))) (hn : cs.length = Nat.min sLen dLen * s)
    (hsrc : ∀ j v, cs[j]? = some v → w.cell? (a.add j) = some v) (hfit : o + cs.length ≤ cur.size) (h1 : ∀ v ∈ cs, v.oneCell' = true) :
    (Builtin.copy_ #[dT, sT] ty #[.slice (some ⟨g, o, none⟩) dLen dCap, .slice (some a) sLen sCap]).run P w =
      .ok (goInt (Nat.min sLen dLen)) (w.setRow g (cur.toList.take o ++ cs ++ cur.toList.drop (o + cs.length)).toArray) := by
  have hl := run_loadCells_list (P := P) w a cs hsrc
  have hst := run_storeCells_at P g o t cs 0 cur w hg (by simpa using hfit) h1
  cases hq : P.info? elem with
  | none => simp [hq] at hs
  | some i =>
    have hi : i.size = s := by simpa [hq] using hs
    rw [hn] at hl
    simp [Builtin.copy_, run_underlying hu, Builtin.lenOf, Builtin.firstCells, sizeOf, typeInfo, hq, hi, hl, hst]
theorem run_copy_wide_none (w : World) (dT sT ty elem : TypeId) (s : Nat) (d a : Option Addr) (dLen dCap sLen sCap : Nat) (hu : P.underlying dT = some (.slice elem)) (hs : (P.info? elem).map (·.size) = some s) (hn : Nat.min sLen dLen = 0) :
    (Builtin.copy_ #[dT, sT] ty #[.slice d dLen dCap, .slice a sLen sCap]).run P w = .ok (goInt 0) w := by
  cases hq : P.info? elem with
  | none => simp [hq] at hs
  | some i =>
    have hl : ∀ (x : Addr), (loadCells x 0).run P w = .ok #[] w := fun x => by simpa using run_loadCells_list (P := P) w x [] (by simp)
    cases d <;> cases a <;> simp [Builtin.copy_, run_underlying hu, Builtin.lenOf, Builtin.firstCells, sizeOf, typeInfo, hq, hn, storeCells, hl]
theorem wpList_copy_wide {w : World} {ops : Array Oper} {rest : List Oper} {o : Oper} {a : Act} {Q : Exit → Act → World → Prop} (hgd : o.guard = none) (d s : Operand) (dT sT : TypeId)
    (ho : o.op = .call { callee := .builtin .copy, args := #[d, s], argTypes := #[dT, sT] }) (elem : TypeId) (sz : Nat) (hu : P.underlying dT = some (.slice elem)) (hsz : (P.info? elem).map (·.size) = some sz)
    (sp : Option Addr) (g off dLen dCap sLen sCap : Nat) (hd : a.eval d = .slice (some ⟨g, off, none⟩) dLen dCap) (hs : a.eval s = .slice sp sLen sCap)
    (cur : List Value) (t : TypeId) (hg : w.heap[g]? = some (.cells cur.toArray t (0, 0))) (cs : List Value) (n : Nat) (hmin : Nat.min sLen dLen = n) (hn : cs.length = n * sz)
    (hpos : 0 < n → ∃ ad, sp = some ad ∧ ∀ j v, cs[j]? = some v → w.cell? (ad.add j) = some v)
    (hfit : off + cs.length ≤ cur.length) (h1 : ∀ v ∈ cs, v.oneCell' = true) (B : Nat) (w0 : World) (hb : Below B w0 w) (hBg : B ≤ g)
    (h : ∀ w', Hid (w'.heap[g]? = some (.cells (splice cur off cs).toArray t (0, 0))) → Below B w0 w' → w'.heap.size = w.heap.size → wpList P ops Q rest (a.put o.dst (goInt n)) w') :
    wpList P ops Q (o :: rest) a w := by
  refine wpList_plain hgd fun K hK => ?_
  by_cases h0 : n = 0
  · subst h0
    obtain rfl : cs = [] := List.eq_nil_of_length_eq_zero (by simpa using hn)
    have hrun := run_copy_wide_none (P := P) w dT sT o.type elem sz (some ⟨g, off, none⟩) sp dLen dCap sLen sCap hu hsz hmin
    unfold Oper.wp
    simp [execOp, ho, resolve, invoke, builtin, hd, hs, hrun, Result.andThen]
    exact hK _ _ (h w (show _ = _ by simpa [splice] using hg) hb rfl)
  · obtain ⟨ad, rfl, hsrc⟩ := hpos (by omega)
    have hrun := run_copy_wide (P := P) w dT sT o.type elem sz g off dLen dCap ad sLen sCap cur.toArray t cs hu hsz hg (by rw [hmin]; exact hn) hsrc (by simpa using hfit) h1
    rw [hmin] at hrun
    unfold Oper.wp
    simp [execOp, ho, resolve, invoke, builtin, hd, hs, hrun, Result.andThen]
    exact hK _ _ (h _ (show _ = _ by simpa [splice] using setRow_heap w g _ _ t _ hg) (below_setRow hb hBg _) (by simp [World.setRow]))
end
end Go.Proofs.YtncopdhhchmpeaaGreatDoor
