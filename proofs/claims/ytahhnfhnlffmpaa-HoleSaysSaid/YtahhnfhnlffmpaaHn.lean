/-
  hole: look: the rows of users and of what is to be looked at; the walk.
-/
import Derived.Test.YtahhnfhnlffmpaaHm
namespace Go.Proofs.Ytahhnfhnlffmpaa
open Go.ChangeShapes Go.WideShapes Go.ChangeAt Go.RowKit Go.Maps
set_option linter.unusedVariables false
def natInts (l : List Nat) : List Value := l.map fun (x : Nat) => Value.int .i64 (Int.ofNat x)
theorem natInts_len (l : List Nat) : (natInts l).length = l.length := by simp [natInts]
theorem natInts_at (l : List Nat) (i : Nat) (x : Nat) (h : l[i]? = some x) : (natInts l)[i]? = some (.int .i64 (x : Int)) := by unfold natInts; rw [List.getElem?_map, h]; rfl
theorem natInts_snoc (l : List Nat) (x : Nat) : natInts (l ++ [x]) = natInts l ++ [.int .i64 (x : Int)] := by simp [natInts]
theorem natInts_one (l : List Nat) : ∀ u ∈ natInts l, u.oneCell' = true := by
  intro u hu
  unfold natInts at hu
  obtain ⟨x, _, rfl⟩ := List.mem_map.1 hu
  rfl
def updVl (V : Nat → Value) (a : Nat) (v : Value) : Nat → Value := fun k => if k = a then v else V k
def valRow (V : Nat → Value) (n : Nat) : List Value := (List.range n).map V
theorem valRow_len (V : Nat → Value) (n : Nat) : (valRow V n).length = n := by simp [valRow]
theorem valRow_at (V : Nat → Value) (n i : Nat) (hi : i < n) : (valRow V n)[i]? = some (V i) := by unfold valRow; rw [List.getElem?_map, List.getElem?_range hi]; rfl
theorem valRow_set (V : Nat → Value) (n i : Nat) (hi : i < n) (v : Value) : (valRow V n).set i v = valRow (updVl V i v) n := by
  apply List.ext_getElem?
  intro j
  by_cases hj : j < n
  · rw [valRow_at _ _ _ hj, List.getElem?_set]
    by_cases e : i = j
    · subst e
      rw [if_pos rfl, if_pos (by rw [valRow_len]; exact hi)]
      simp [updVl]
    · rw [if_neg e, valRow_at _ _ _ hj]
      simp [updVl, Ne.symm e]
  · rw [List.getElem?_eq_none (by rw [List.length_set, valRow_len]; omega), List.getElem?_eq_none (by rw [valRow_len]; omega)]
/-- The rows: who has whom (at bu; each its own row from lo on), and what is to be looked at. -/
structure LkAt (w : World) (lo bu n : Nat) (vw : Value) (l : List Nat) (V : Nat → Value) (U : Nat → List Nat) : Prop where
  us : w.ownsRow 0 58 1 (.slice (some ⟨bu, 0, none⟩) n n) n (valRow V n)
  row : ∀ k, k < n → w.ownsRow lo 3 1 (V k) (U k).length (natInts (U k))
  wk : w.ownsRow lo 3 1 vw l.length (natInts l)
  dis : ∀ k, k < n → ∀ q, q < n → k ≠ q → ∀ g, (V k).ownBlock = some g → (V q).ownBlock ≠ some g
  dw : ∀ k, k < n → ∀ g, (V k).ownBlock = some g → vw.ownBlock ≠ some g
  lo_ : bu < lo
section
variable {w w' w1 : World} {lo bu n : Nat} {vw : Value} {l : List Nat} {V : Nat → Value} {U : Nat → List Nat}
theorem LkAt.ul (h : LkAt w lo bu n vw l V U) : bu < w.heap.size := (World.ownsRow.lt h.us bu rfl).2
theorem LkAt.below (h : LkAt w lo bu n vw l V U) (hb : Below w.heap.size w w') : LkAt w' lo bu n vw l V U := ⟨rowbelow h.us hb, fun k hk => rowbelow (h.row k hk) hb, rowbelow h.wk hb, h.dis, h.dw, h.lo_⟩
/-- A row far below was written. -/
theorem LkAt.low (h : LkAt w lo bu n vw l V U) {g : Nat} (hg : w.grownBy w' (some g)) (h1 : g < lo) (h2 : g ≠ bu) : LkAt w' lo bu n vw l V U :=
  ⟨h.us.kept hg (.inr (by simp [Value.ownBlock]; exact Ne.symm h2)), fun k hk => (h.row k hk).kept hg (.inr fun e => by have := ((h.row k hk).lt g e).1; omega), h.wk.kept hg (.inr fun e => by have := (h.wk.lt g e).1; omega), h.dis, h.dw, h.lo_⟩
theorem LkAt.at_ (h : LkAt w lo bu n vw l V U) (k : Nat) (hk : k < n) : w.cell? ⟨bu, k, none⟩ = some (V k) ∧ w.frozen? ⟨bu, k, none⟩ = false := by
  refine ⟨?_, World.ownsRow.frozenAt h.us k⟩
  rw [World.ownsRow.cellAt h.us k (by omega), valRow_at _ _ _ hk]
theorem LkAt.shape (h : LkAt w lo bu n vw l V U) (k : Nat) (hk : k < n) : ∃ a c, V k = .slice a (U k).length c ∧ (0 < (U k).length → ∃ g, a = some ⟨g, 0, none⟩) ∧ (U k).length ≤ c := by
  have hr := h.row k hk
  rcases hr.2 with ⟨e, e2⟩ | ⟨g, cap, cur, e, hB, hg, hc, rest⟩
  · exact ⟨none, 0, by rw [e, e2], fun h => by omega, by omega⟩
  · exact ⟨_, cap, e, fun _ => ⟨g, rfl⟩, hc⟩
theorem LkAt.wshape (h : LkAt w lo bu n vw l V U) : ∃ a c, vw = .slice a l.length c ∧ (0 < l.length → ∃ g, a = some ⟨g, 0, none⟩) ∧ l.length ≤ c ∧ c ≤ 9223372036854775807 := by
  rcases h.wk.2 with ⟨e, e2⟩ | ⟨g, cap, cur, e, hB, hg, hc, hm, rest⟩
  · exact ⟨none, 0, by rw [e, e2], fun h => by omega, by omega, by omega⟩
  · exact ⟨_, cap, e, fun _ => ⟨g, rfl⟩, hc, by unfold maxLen at hm; exact hm⟩
theorem LkAt.user (h : LkAt w lo bu n vw l V U) (k : Nat) (hk : k < n) {g c q x : Nat} (e : V k = .slice (some ⟨g, 0, none⟩) (U k).length c) (hx : (U k)[q]? = some x) : w.cell? ⟨g, q, none⟩ = some (.int .i64 (x : Int)) := by
  have hr := h.row k hk
  rw [e] at hr
  have hq : q < (U k).length := (List.getElem?_eq_some_iff.1 hx).1
  rw [hr.cellAt q (by omega), natInts_at _ _ _ hx]
theorem LkAt.todo (h : LkAt w lo bu n vw l V U) {g c q x : Nat} (e : vw = .slice (some ⟨g, 0, none⟩) l.length c) (hx : l[q]? = some x) : w.cell? ⟨g, q, none⟩ = some (.int .i64 (x : Int)) := by
  have hr := h.wk
  rw [e] at hr
  have hq : q < l.length := (List.getElem?_eq_some_iff.1 hx).1
  rw [hr.cellAt q (by omega), natInts_at _ _ _ hx]
/-- One more to be looked at. -/
theorem LkAt.more (h : LkAt w lo bu n vw l V U) {v' : Value} {x : Nat} (ho : w'.ownsRow lo 3 1 v' (l.length + 1) (natInts l ++ [.int .i64 (x : Int)])) (hg : w.grownBy w' vw.ownBlock) (hl : v'.ownBlock = vw.ownBlock ∨ ∃ z, v'.ownBlock = some z ∧ w.heap.size ≤ z) : LkAt w' lo bu n v' (l ++ [x]) V U := by
  have hne : vw.ownBlock ≠ some bu := fun e => by have := (h.wk.lt bu e).1; have := h.lo_; omega
  refine ⟨h.us.kept hg (.inr fun e => hne (by rw [← e]; rfl)), fun k hk => (h.row k hk).kept hg ?_, by rw [List.length_append, List.length_singleton, natInts_snoc]; exact ho, h.dis, fun k hk g hgk => ?_, h.lo_⟩
  · cases hv : (V k).ownBlock with
    | none => exact .inl rfl
    | some g => exact .inr fun e => h.dw k hk g hv e.symm
  · rcases hl with e | ⟨z, e, hz⟩
    · rw [e]; exact h.dw k hk g hgk
    · rw [e]
      intro e2
      injection e2 with e2
      have := ((h.row k hk).lt g hgk).2
      omega
/-- One more user. -/
theorem LkAt.push (h : LkAt w lo bu n vw l V U) (a : Nat) (ha : a < n) {v' : Value} {x : Nat} (ho : w'.ownsRow lo 3 1 v' ((U a).length + 1) (natInts (U a) ++ [.int .i64 (x : Int)])) (hg : w.grownBy w' (V a).ownBlock) (hl : v'.ownBlock = (V a).ownBlock ∨ ∃ z, v'.ownBlock = some z ∧ w.heap.size ≤ z) : LkAt (w'.setCell ⟨bu, a, none⟩ v') lo bu n vw l (updVl V a v') (updL U a (U a ++ [x])) := by
  have hlo := h.lo_
  have hne : (V a).ownBlock ≠ some bu := fun e => by have := ((h.row a ha).lt bu e).1; omega
  have hus := h.us.kept hg (.inr fun e => hne (by rw [← e]; rfl))
  have hs := World.ownsRow.stored hus a v'
  rw [valRow_set V n a ha v'] at hs
  have keep : ∀ {v : Value} {m : Nat} {xs : List Value}, w'.ownsRow lo 3 1 v m xs → (w'.setCell ⟨bu, a, none⟩ v').ownsRow lo 3 1 v m xs := fun {v m xs} hr => hr.kept hs.2 (.inr fun e => by have := (hr.lt bu e).1; omega)
  refine ⟨hs.1, fun k hk => ?_, keep (h.wk.kept hg ?_), fun k hk q hq hkq g hgk => ?_, fun k hk g hgk => ?_, h.lo_⟩
  · by_cases e : k = a
    · subst e
      rw [updL_same, List.length_append, List.length_singleton, natInts_snoc]
      simp only [updVl, if_pos]
      exact keep ho
    · rw [updL_other _ _ _ _ e]
      simp only [updVl, if_neg e]
      refine keep ((h.row k hk).kept hg ?_)
      cases hv : (V k).ownBlock with
      | none => exact .inl rfl
      | some g => exact .inr fun e2 => h.dis k hk a ha e g hv e2.symm
  · cases hv : vw.ownBlock with
    | none => exact .inl rfl
    | some g => exact .inr fun e2 => h.dw a ha g e2.symm hv
  · have old : ∀ i g, i < n → (V i).ownBlock = some g → g < w.heap.size := fun i g hi hgi => ((h.row i hi).lt g hgi).2
    by_cases e1 : k = a
    · subst e1
      simp only [updVl, if_pos] at hgk
      have e2 : q ≠ k := Ne.symm hkq
      simp only [updVl, if_neg e2]
      rcases hl with e | ⟨z, e, hz⟩
      · exact h.dis k hk q hq hkq g (by rw [← e]; exact hgk)
      · intro e3
        rw [e] at hgk
        injection hgk with hgk
        have := old q g hq e3
        omega
    · simp only [updVl, if_neg e1] at hgk
      by_cases e2 : q = a
      · subst e2
        simp only [updVl, if_pos]
        rcases hl with e | ⟨z, e, hz⟩
        · rw [e]; exact h.dis k hk q hq hkq g hgk
        · intro e3
          rw [e] at e3
          injection e3 with e3
          have := old k g hk hgk
          omega
      · simp only [updVl, if_neg e2]
        exact h.dis k hk q hq hkq g hgk
  · by_cases e1 : k = a
    · subst e1
      simp only [updVl, if_pos] at hgk
      rcases hl with e | ⟨z, e, hz⟩
      · exact h.dw k hk g (by rw [← e]; exact hgk)
      · intro e3
        rw [e] at hgk
        injection hgk with hgk
        have := (h.wk.lt g e3).2
        omega
    · simp only [updVl, if_neg e1] at hgk
      exact h.dw k hk g hgk
/-- The last one is taken. -/
theorem LkAt.pop {i g c : Nat} (h : LkAt w lo bu n (.slice (some ⟨g, 0, none⟩) (l ++ [i]).length c) (l ++ [i]) V U) : LkAt w lo bu n (.slice (some ⟨g, 0, none⟩) l.length c) l V U := by
  refine ⟨h.us, h.row, ⟨by rw [natInts_len, Nat.mul_one], .inr ?_⟩, h.dis, h.dw, h.lo_⟩
  rcases h.wk.2 with ⟨e, _⟩ | ⟨g', cap, cur, e, hB, hg, hc, hm, hsz, ht⟩
  · cases e
  · simp only [Value.slice.injEq, Option.some.injEq, Addr.mk.injEq] at e
    obtain ⟨⟨rfl, _⟩, _, rfl⟩ := e
    rw [List.length_append, List.length_singleton] at hc ht
    refine ⟨g, c, cur, rfl, hB, hg, by omega, hm, hsz, ?_⟩
    have h2 := congrArg (List.take l.length) ht
    rw [List.take_take, natInts_snoc, List.take_append_of_le_length (by rw [natInts_len]; omega)] at h2
    rw [show min l.length ((l.length + 1) * 1) = l.length * 1 by omega] at h2
    rw [h2, List.take_of_length_le (by rw [natInts_len]; omega)]
end
/-- What look keeps beside. -/
structure HkAt (w0 w : World) (a : Option Addr) (D : FD) (rb bm bo sb m : Nat) (M : DataW Unit) (R : Nat → Bool) : Prop where
  bel : Below w0.heap.size w0 w
  fa : FacAt w0 a D
  mp : w.ownsMap Try.prog 55 (plainElem (H := Unit) Try.prog 3) bm m M
  ou : OutAt w bo D.n R
  sv : w.heap[sb]? = some (.cells #[.map (some bm), .slice (some ⟨bo, 0, none⟩) D.n D.n] 50 (0, 0))
  rv : w.heap[rb]? = some (.cells #[.map none, .slice none 0 0] 50 (0, 0))
  ord : w0.heap.size ≤ rb ∧ rb < bm ∧ bm < bo ∧ bo < sb
section
variable {w0 w w' : World} {a : Option Addr} {D : FD} {rb bm bo sb m : Nat} {M : DataW Unit} {R : Nat → Bool}
theorem lt_of_block' {w : World} {b : Nat} {o : Obj} (h : w.heap[b]? = some o) : b < w.heap.size := by
  rcases Nat.lt_or_ge b w.heap.size with h' | h'
  · exact h'
  · simp [Array.getElem?_eq_none h'] at h
theorem HkAt.sl (h : HkAt w0 w a D rb bm bo sb m M R) : sb < w.heap.size := lt_of_block' h.sv
theorem HkAt.step (h : HkAt w0 w a D rb bm bo sb m M R) (hb : Below w.heap.size w w') : HkAt w0 w' a D rb bm bo sb m M R :=
  ⟨h.bel.trans (hb.mono h.bel.size), h.fa, mapbelow h.mp hb, rowbelow h.ou hb, (hb.block sb h.sl).trans h.sv, (hb.block rb (by have := h.sl; have := h.ord; omega)).trans h.rv, h.ord⟩
theorem HkAt.s0 (h : HkAt w0 w a D rb bm bo sb m M R) : w.cell? ⟨sb, 0, none⟩ = some (.map (some bm)) := by simp [World.cell?, h.sv]
theorem HkAt.s1 (h : HkAt w0 w a D rb bm bo sb m M R) : w.cell? ⟨sb, 1, none⟩ = some (.slice (some ⟨bo, 0, none⟩) D.n D.n) := by simp [World.cell?, h.sv]
/-- A row above was written. -/
theorem HkAt.up (h : HkAt w0 w a D rb bm bo sb m M R) {row : Option Nat} (hg : w.grownBy w' row) (hr : ∀ g, row = some g → sb < g) : HkAt w0 w' a D rb bm bo sb m M R := by
  have ho := h.ord
  have ne : ∀ k, k ≤ sb → some k ≠ row := fun k hk e => by have := hr k e.symm; omega
  exact ⟨h.bel.grown hg h.bel.size (fun k hk => by have := hr k hk; omega), h.fa, h.mp.kept hg (ne bm (by omega)), World.ownsRow.kept h.ou hg (.inr (ne bo (by omega))), (hg.block sb h.sl (ne sb (by omega))).trans h.sv, (hg.block rb (by have := h.sl; omega) (ne rb (by omega))).trans h.rv, h.ord⟩
theorem HkAt.put (h : HkAt w0 w a D rb bm bo sb m M R) {m' : Nat} {M' : DataW Unit} (hM : w'.ownsMap Try.prog 55 (plainElem (H := Unit) Try.prog 3) bm m' M') (hg : w.grownBy w' (some bm)) : HkAt w0 w' a D rb bm bo sb m' M' R := by
  have ho := h.ord
  have ne : ∀ k, k ≠ bm → some k ≠ some bm := fun k hk e => by injection e with e; exact hk e
  exact ⟨h.bel.grown hg h.bel.size (fun k hk => by injection hk with e; omega), h.fa, hM, h.ou.kept hg (by omega), (hg.block sb h.sl (ne sb (by omega))).trans h.sv, (hg.block rb (by have := h.sl; omega) (ne rb (by omega))).trans h.rv, h.ord⟩
theorem HkAt.tell (h : HkAt w0 w a D rb bm bo sb m M R) (i : Nat) (hi : i < D.n) (b : Bool) : HkAt w0 (w.setCell ⟨bo, i, none⟩ (.bool b)) a D rb bm bo sb m M (updB R i b) ∧ w.grownBy (w.setCell ⟨bo, i, none⟩ (.bool b)) (some bo) := by
  have ho := h.ord
  have hs := h.ou.set i hi b
  have ne : ∀ k, k ≠ bo → some k ≠ some bo := fun k hk e => by injection e with e; exact hk e
  exact ⟨⟨h.bel.grown hs.2 h.bel.size (fun k hk => by injection hk with e; omega), h.fa, h.mp.kept hs.2 (ne bm (by omega)), hs.1, (hs.2.block sb h.sl (ne sb (by omega))).trans h.sv, (hs.2.block rb (by have := h.sl; omega) (ne rb (by omega))).trans h.rv, h.ord⟩, hs.2⟩
theorem HkAt.few (h : HkAt w0 w a D rb bm bo sb m M R) {m' : Nat} (hm : m ≤ m') : HkAt w0 w a D rb bm bo sb m' M R := ⟨h.bel, h.fa, h.mp.mono hm, h.ou, h.sv, h.rv, h.ord⟩
end
/-- How many are told not to, in memory. -/
def flsW (w : World) (bo n : Nat) : Nat := fls (fun k => match w.cell? ⟨bo, k, none⟩ with | some (.bool b) => b | _ => true) n
theorem flsW_is {w : World} {bo n : Nat} {R : Nat → Bool} (h : OutAt w bo n R) : flsW w bo n = fls R n := fls_congr n fun x hx => by simp [(h.at_ x hx).1]
def lenOf : Value → Nat | .slice _ n _ => n | _ => 0
end Go.Proofs.Ytahhnfhnlffmpaa
