/-
  Ca, Ca2, Ca3, Ca4, Me, Me2, Me3, Me4, Mf, PaR as one.
-/
import Derived.Test.YtjkbfhojjjkgnaaDoorP9
import Derived.Test.YtjkbfhojjjkgnaaDoorPgF
import Derived.Test.YtjkbfhojjjkgnaaDoorPg3
import Derived.Test.YtjkbfhojjjkgnaaDoorStructs
namespace Go.Proofs.YtjkbfhojjjkgnaaDoor
open Go.ChangeShapes Go.WideShapes Go.ChangeAt Go.RowKit
set_option linter.unusedVariables false
/-- A way that is remembered: from which root, which sheet; where it leads; through which nodes. -/
structure EW where
  k0 : Int
  k1 : Int
  k2 : Int
  k3 : Int
  k4 : Int
  sh : Int
  pg : Int
  at_ : Int
  ro : Bool
  ids : List Int
  na : Option Addr
  nc : Nat
/-- Its cells. -/
def EW.cs (e : EW) : List Value := [.int .i64 e.k0, .int .i64 e.k1, .int .i64 e.k2, .int .i64 e.k3, .int .u32 e.k4, .int .u32 e.sh, .int .i64 e.pg, .int .i64 e.at_, .bool e.ro, .slice e.na e.ids.length e.nc]
/-- The numbers of its nodes lie in a row apart. -/
def NodesIn (w : World) (N cb : Nat) (v : Value) (e : EW) : Prop := ∀ i, i < e.ids.length → ∃ g o, e.na = some ⟨g, o, none⟩ ∧ N ≤ g ∧ g < w.heap.size ∧ g ≠ cb ∧ v.ownBlock ≠ some g ∧ w.cell? ⟨g, o + i, none⟩ = some (.int .i64 (e.ids.getD i 0))
def ewCells (E : List EW) : List Value := E.flatMap EW.cs
structure CacheAt (w : World) (N cb : Nat) (size hits : Int) (v : Value) (E : List EW) : Prop where
  nb : N ≤ cb
  cl : cb < w.heap.size
  c0 : w.cell? ⟨cb, 0, none⟩ = some (.int .i64 size)
  c1 : w.cell? ⟨cb, 1, none⟩ = some (.int .i64 hits)
  c2 : w.cell? ⟨cb, 2, none⟩ = some v
  fr : ∀ j, w.frozen? ⟨cb, j, none⟩ = false
  row : w.ownsRow N 196 10 v E.length (ewCells E)
  ne : v.ownBlock ≠ some cb
  nd : ∀ e, e ∈ E → NodesIn w N cb v e
theorem CacheAt.same {w w' : World} {N cb : Nat} {size hits : Int} {v : Value} {E : List EW} (h : CacheAt w N cb size hits v E) (hs : w.heap.size ≤ w'.heap.size) (hk : ∀ k, N ≤ k → k < w.heap.size → w'.heap[k]? = w.heap[k]?) : CacheAt w' N cb size hits v E := by
  have e := hk cb h.nb h.cl
  refine ⟨h.nb, Nat.lt_of_lt_of_le h.cl hs, (World.cell?_of_block (a := ⟨cb, 0, none⟩) e).trans h.c0, (World.cell?_of_block (a := ⟨cb, 1, none⟩) e).trans h.c1, (World.cell?_of_block (a := ⟨cb, 2, none⟩) e).trans h.c2, fun j => (World.frozen?_of_block (a := ⟨cb, j, none⟩) e).trans (h.fr j), row_same' h.row (fun g hg => hk g (h.row.lt g hg).1 (h.row.lt g hg).2), h.ne, fun e he i hi => ?_⟩
  obtain ⟨g, o, h1, h2, h3, h4, h5, h6⟩ := h.nd e he i hi
  exact ⟨g, o, h1, h2, Nat.lt_of_lt_of_le h3 hs, h4, h5, (World.cell?_of_block (a := ⟨g, o + i, none⟩) (hk g h2 h3)).trans h6⟩
theorem CacheAt.below {w w' : World} {N cb : Nat} {size hits : Int} {v : Value} {E : List EW} (h : CacheAt w N cb size hits v E) (hb : Below w.heap.size w w') : CacheAt w' N cb size hits v E :=
  h.same hb.size (fun k _ hk => hb.block k hk)
theorem EW.cs_len (e : EW) : e.cs.length = 10 := rfl
theorem ewCells_get : ∀ (E : List EW) (k q : Nat) (e : EW), E[k]? = some e → q < 10 → (ewCells E)[k * 10 + q]? = e.cs[q]? := by
  intro E
  induction E with
  | nil => intro k q e h; simp at h
  | cons d E ih =>
    intro k q e h hq
    have hd := d.cs_len
    show (d.cs ++ ewCells E)[k * 10 + q]? = _
    cases k with
    | zero =>
      simp at h
      subst h
      rw [Nat.zero_mul, Nat.zero_add, List.getElem?_append_left (by omega)]
    | succ k =>
      simp at h
      rw [List.getElem?_append_right (by rw [hd]; omega), hd, show (k + 1) * 10 + q - 10 = k * 10 + q by omega]
      exact ih k q e h hq
theorem ewCells_snoc (E : List EW) (e : EW) : ewCells (E ++ [e]) = ewCells E ++ e.cs := by simp [ewCells]
theorem CacheAt.way {w : World} {N cb : Nat} {size hits : Int} {v : Value} {E : List EW} (h : CacheAt w N cb size hits v E) {g n c : Nat} (hv : v = .slice (some ⟨g, 0, none⟩) n c) (k : Nat) (e : EW) (he : E[k]? = some e) :
    w.cell? ⟨g, k * 10, none⟩ = some (.int .i64 e.k0) ∧ w.cell? ⟨g, k * 10 + 1, none⟩ = some (.int .i64 e.k1) ∧ w.cell? ⟨g, k * 10 + 2, none⟩ = some (.int .i64 e.k2) ∧ w.cell? ⟨g, k * 10 + 3, none⟩ = some (.int .i64 e.k3) ∧ w.cell? ⟨g, k * 10 + 4, none⟩ = some (.int .u32 e.k4) ∧ w.cell? ⟨g, k * 10 + 5, none⟩ = some (.int .u32 e.sh) ∧ w.cell? ⟨g, k * 10 + 6, none⟩ = some (.int .i64 e.pg) ∧ w.cell? ⟨g, k * 10 + 7, none⟩ = some (.int .i64 e.at_) ∧ w.cell? ⟨g, k * 10 + 8, none⟩ = some (.bool e.ro) ∧ w.cell? ⟨g, k * 10 + 9, none⟩ = some (.slice e.na e.ids.length e.nc) := by
  obtain ⟨a', c', hsh⟩ := own_shape' h.row
  have hn : n = E.length := by rw [hv] at hsh; injection hsh
  subst hv
  subst hn
  have hk : k < E.length := by
    rcases Nat.lt_or_ge k E.length with h' | h'
    · exact h'
    · rw [List.getElem?_eq_none h'] at he; cases he
  have hl := h.row.1
  have cell : ∀ q u, q < 10 → e.cs[q]? = some u → w.cell? ⟨g, k * 10 + q, none⟩ = some u := fun q u hq hu => by
    have hx : k * 10 + q < (ewCells E).length := by rw [hl]; omega
    have e1 := h.row.cellAt (k * 10 + q) (by omega)
    have e2 := ewCells_get E k q e he hq
    rw [e1, e2, hu]
  exact ⟨cell 0 _ (by decide) rfl, cell 1 _ (by decide) rfl, cell 2 _ (by decide) rfl, cell 3 _ (by decide) rfl, cell 4 _ (by decide) rfl, cell 5 _ (by decide) rfl, cell 6 _ (by decide) rfl, cell 7 _ (by decide) rfl, cell 8 _ (by decide) rfl, cell 9 _ (by decide) rfl⟩
/-- Each remembered way is one. -/
def WaysOk (a b : Shp) (th : Nat → Bool) (vr_ : Nat → Int) (W : Nat → Nat → Value) (th2 : Nat → Bool) (vr2 : Nat → Int) (E : List EW) : Prop :=
  ∀ e, e ∈ E → 0 ≤ e.sh ∧ ∀ x : Int, 0 ≤ x → x < 32 → Way a b th vr_ W th2 vr2 e.k0 e.k1 e.k2 e.k3 e.k4 5 (e.sh * 32 + x) false e.ids e.pg x e.ro 0
set_option maxRecDepth 100000 in
theorem cnew_ok (x : Int) (h1 : 1 ≤ x) (h2 : x ≤ 64) (w : World) :
    Calls Tryd.prog 69 #[.int .i64 x] w fun e w' => ∃ cb, e = .returned (.tuple #[.pointer (some ⟨cb, 0, none⟩), .nilIface]) ∧ CacheAt w' w.heap.size cb x 0 (.slice none 0 0) [] ∧ Below w.heap.size w w' := by
  have d1 : decide (x < 1) = false := decide_eq_false (by omega)
  have d2 : decide (64 < x) = false := decide_eq_false (by omega)
  go_enter Tryd.func69, Tryd.ntmps69
  go_wp2_with fail
  go_ret2
  exact ⟨_, rfl, ⟨Nat.le_refl _, by simp, by simp, by simp, by simp, fun j => by simp, World.ownsRow_nil _ _ _ _, by simp [Value.ownBlock], fun e he => by cases he⟩, (Below.refl _ _).alloc (Nat.le_refl _) _⟩
end Go.Proofs.YtjkbfhojjjkgnaaDoor
namespace Go.Proofs.YtjkbfhojjjkgnaaDoor
open Go.ChangeShapes Go.WideShapes Go.ChangeAt Go.RowKit
set_option linter.unusedVariables false
set_option linter.unusedSimpArgs false
/-- Is it the way from there? -/
abbrev EW.is (e : EW) (f0 f1 f2 f3 f4 f5 : Int) : Bool := e.k0 == f0 && (e.k1 == f1 && (e.k2 == f2 && (e.k3 == f3 && (e.k4 == f4 && e.sh == f5))))
/-- An origin lies there. -/
structure FromAt (w : World) (fb : Nat) (f0 f1 f2 f3 f4 f5 : Int) : Prop where
  lt : fb < w.heap.size
  c0 : w.cell? ⟨fb, 0, none⟩ = some (.int .i64 f0)
  c1 : w.cell? ⟨fb, 1, none⟩ = some (.int .i64 f1)
  c2 : w.cell? ⟨fb, 2, none⟩ = some (.int .i64 f2)
  c3 : w.cell? ⟨fb, 3, none⟩ = some (.int .i64 f3)
  c4 : w.cell? ⟨fb, 4, none⟩ = some (.int .u32 f4)
  c5 : w.cell? ⟨fb, 5, none⟩ = some (.int .u32 f5)
theorem FromAt.same {w w' : World} {fb : Nat} {f0 f1 f2 f3 f4 f5 : Int} (h : FromAt w fb f0 f1 f2 f3 f4 f5) (hs : w.heap.size ≤ w'.heap.size) (e : w'.heap[fb]? = w.heap[fb]?) : FromAt w' fb f0 f1 f2 f3 f4 f5 :=
  ⟨Nat.lt_of_lt_of_le h.lt hs, (World.cell?_of_block (a := ⟨fb, 0, none⟩) e).trans h.c0, (World.cell?_of_block (a := ⟨fb, 1, none⟩) e).trans h.c1, (World.cell?_of_block (a := ⟨fb, 2, none⟩) e).trans h.c2, (World.cell?_of_block (a := ⟨fb, 3, none⟩) e).trans h.c3, (World.cell?_of_block (a := ⟨fb, 4, none⟩) e).trans h.c4, (World.cell?_of_block (a := ⟨fb, 5, none⟩) e).trans h.c5⟩
theorem FromAt.below {w w' : World} {fb : Nat} {f0 f1 f2 f3 f4 f5 : Int} (h : FromAt w fb f0 f1 f2 f3 f4 f5) (hb : Below w.heap.size w w') : FromAt w' fb f0 f1 f2 f3 f4 f5 :=
  ⟨Nat.lt_of_lt_of_le h.lt hb.size, (hb.cell (p := ⟨fb, 0, none⟩) h.lt).trans h.c0, (hb.cell (p := ⟨fb, 1, none⟩) h.lt).trans h.c1, (hb.cell (p := ⟨fb, 2, none⟩) h.lt).trans h.c2, (hb.cell (p := ⟨fb, 3, none⟩) h.lt).trans h.c3, (hb.cell (p := ⟨fb, 4, none⟩) h.lt).trans h.c4, (hb.cell (p := ⟨fb, 5, none⟩) h.lt).trans h.c5⟩
theorem cfind1_is (k0 k1 k2 k3 k4 sh pg at_ f0 f1 f2 f3 f4 f5 : Int) (ro : Bool) (na : Option Addr) (n c fb : Nat) (t : Bool) (ht : Hid ((k0 == f0 && (k1 == f1 && (k2 == f2 && (k3 == f3 && (k4 == f4 && sh == f5))))) = t)) (w : World) (h : FromAt w fb f0 f1 f2 f3 f4 f5) :
    Calls Tryd.prog 93 #[.agg #[.int .i64 k0, .int .i64 k1, .int .i64 k2, .int .i64 k3, .int .u32 k4, .int .u32 sh, .int .i64 pg, .int .i64 at_, .bool ro, .slice na n c], .pointer (some ⟨fb, 0, none⟩)] w fun e w' => e = .returned (.bool t) ∧ Below w.heap.size w w' := by
  have c0 := h.c0
  have c1 := h.c1
  have c2 := h.c2
  have c3 := h.c3
  have c4 := h.c4
  have c5 := h.c5
  have hl := h.lt
  clear h
  go_enter Tryd.func93, Tryd.ntmps93
  go_wp2_with fail
  all_goals go_ret
  all_goals refine ⟨?_, (Below.refl _ _).alloc (Nat.le_refl _) _⟩
  all_goals (rw [← ht.out]; simp [*])
theorem CacheAt.shape {w : World} {N cb : Nat} {size hits : Int} {v : Value} {E : List EW} (h : CacheAt w N cb size hits v E) : ∃ a c, v = .slice a E.length c := own_shape' h.row
theorem CacheAt.row1 {w : World} {N cb : Nat} {size hits : Int} {v : Value} {E : List EW} (h : CacheAt w N cb size hits v E) (hn : 0 < E.length) : ∃ g c, v = .slice (some ⟨g, 0, none⟩) E.length c := own_some' h.row hn
theorem getE {E : List EW} {k : Nat} (h : k < E.length) : ∃ e, E[k]? = some e := ⟨_, List.getElem?_eq_getElem h⟩
set_option maxRecDepth 100000 in
theorem cindex_none {N cb : Nat} {size hits : Int} {a : Option Addr} {n c fb : Nat} {E : List EW} (f0 f1 f2 f3 f4 f5 : Int) (hn : Hid (E.length = n)) (hm : n ≤ 64) (hno : Hid (∀ e, e ∈ E → e.is f0 f1 f2 f3 f4 f5 = false)) (w : World) (h : CacheAt w N cb size hits (.slice a n c) E) (hf : FromAt w fb f0 f1 f2 f3 f4 f5) :
    Calls Tryd.prog 92 #[.slice a n c, .func (.func 93) #[] #[.pointer (some ⟨fb, 0, none⟩)]] w fun e w' => e = .returned (.int .i64 (-1)) ∧ Below w.heap.size w w' := by
  have H := Lib.hid h
  have HF := Lib.hid hf
  clear h hf
  go_enter Tryd.func92, Tryd.ntmps92
  go_wp2_with fail
  go_loopw [8] (fun i wr => ∃ k : Nat, k ≤ n ∧ i = .int .i64 k ∧ Below w.heap.size w wr) (fun i _ => n - (intOf i).toNat)
  case atStart => exact ⟨0, by omega, rfl, Below.refl _ _⟩
  case round =>
    obtain ⟨k, hk, rfl, hB⟩ := hrel
    have HB := Lib.hid hB
    have HR := Lib.hid (H.out.below hB)
    have HFr := Lib.hid (HF.out.below hB)
    clear hB
    by_cases hlt : k < n
    · obtain ⟨e, he⟩ := getE (E := E) (k := k) (by rw [hn.out]; exact hlt)
      obtain ⟨g, c', hv⟩ := HR.out.row1 (by rw [hn.out]; omega)
      have hv' := hv
      simp only [Value.slice.injEq] at hv'
      obtain ⟨rfl, -, -⟩ := hv'
      obtain ⟨q0, q1, q2, q3, q4, q5, q6, q7, q8, q9⟩ := HR.out.way rfl k e he
      have HN := Lib.hid (hno.out e (List.mem_of_getElem? he))
      have k0 : (0 : Int) ≤ k := by omega
      have k1 : (k : Int) < n := by omega
      have k2 : (k : Int) < 64 := by omega
      clear he hv
      go_wp2_with (first
        | (go_at_call 93; (with_reducible refine (cfind1_is _ _ _ _ _ _ _ _ f0 f1 f2 f3 f4 f5 _ _ _ _ fb false HN _ HFr.out).mono ?_); rintro e' w1 ⟨rfl, hb⟩; have HB1 := Lib.hid (HB.out.trans (hb.mono HB.out.size)); clear hb))
      go_roundw
      case rel => exact ⟨k + 1, by omega, by go_num, HB1.out⟩
      case measure => simp [intOf]; omega
    · have hdd : ¬ (k : Int) < n := by omega
      go_wp2_with fail
      go_ret
      exact ⟨rfl, HB.out⟩
set_option maxRecDepth 100000 in
theorem cindex_at {N cb : Nat} {size hits : Int} {a : Option Addr} {n c fb : Nat} {E : List EW} (f0 f1 f2 f3 f4 f5 : Int) (hn : Hid (E.length = n)) (hm : n ≤ 64) (j : Nat) (d : EW) (hj : Hid (E[j]? = some d)) (hyes : Hid (d.is f0 f1 f2 f3 f4 f5 = true)) (hno : Hid (∀ i e, i < j → E[i]? = some e → e.is f0 f1 f2 f3 f4 f5 = false)) (w : World) (h : CacheAt w N cb size hits (.slice a n c) E) (hf : FromAt w fb f0 f1 f2 f3 f4 f5) :
    Calls Tryd.prog 92 #[.slice a n c, .func (.func 93) #[] #[.pointer (some ⟨fb, 0, none⟩)]] w fun e w' => e = .returned (.int .i64 j) ∧ Below w.heap.size w w' := by
  have H := Lib.hid h
  have HF := Lib.hid hf
  have hjn : j < n := by
    rw [← hn.out]
    rcases Nat.lt_or_ge j E.length with h' | h'
    · exact h'
    · have := hj.out; rw [List.getElem?_eq_none h'] at this; cases this
  clear h hf
  go_enter Tryd.func92, Tryd.ntmps92
  go_wp2_with fail
  go_loopw [8] (fun i wr => ∃ k : Nat, k ≤ j ∧ i = .int .i64 k ∧ Below w.heap.size w wr) (fun i _ => n - (intOf i).toNat)
  case atStart => exact ⟨0, by omega, rfl, Below.refl _ _⟩
  case round =>
    obtain ⟨k, hk, rfl, hB⟩ := hrel
    have HB := Lib.hid hB
    have HR := Lib.hid (H.out.below hB)
    have HFr := Lib.hid (HF.out.below hB)
    clear hB
    obtain ⟨e, he⟩ := getE (E := E) (k := k) (by rw [hn.out]; omega)
    obtain ⟨g, c', hv⟩ := HR.out.row1 (by rw [hn.out]; omega)
    have hv' := hv
    simp only [Value.slice.injEq] at hv'
    obtain ⟨rfl, -, -⟩ := hv'
    obtain ⟨q0, q1, q2, q3, q4, q5, q6, q7, q8, q9⟩ := HR.out.way rfl k e he
    have k0 : (0 : Int) ≤ k := by omega
    have k1 : (k : Int) < n := by omega
    have k2 : (k : Int) < 64 := by omega
    clear hv
    by_cases hlt : k < j
    · have HN := Lib.hid (hno.out k e hlt he)
      clear he
      go_wp2_with (first
        | (go_at_call 93; (with_reducible refine (cfind1_is _ _ _ _ _ _ _ _ f0 f1 f2 f3 f4 f5 _ _ _ _ fb false HN _ HFr.out).mono ?_); rintro e' w1 ⟨rfl, hb⟩; have HB1 := Lib.hid (HB.out.trans (hb.mono HB.out.size)); clear hb))
      go_roundw
      case rel => exact ⟨k + 1, by omega, by go_num, HB1.out⟩
      case measure => simp [intOf]; omega
    · obtain rfl : k = j := by omega
      have HN : Hid (e.is f0 f1 f2 f3 f4 f5 = true) := Lib.hid (by have h1 := hj.out; rw [he] at h1; injection h1 with h1; rw [h1]; exact hyes.out)
      clear he
      go_wp2_with (first
        | (go_at_call 93; (with_reducible refine (cfind1_is _ _ _ _ _ _ _ _ f0 f1 f2 f3 f4 f5 _ _ _ _ fb true HN _ HFr.out).mono ?_); rintro e' w1 ⟨rfl, hb⟩; have HB1 := Lib.hid (HB.out.trans (hb.mono HB.out.size)); clear hb))
      go_ret
      exact ⟨rfl, HB1.out⟩
end Go.Proofs.YtjkbfhojjjkgnaaDoor
namespace Go.Proofs.YtjkbfhojjjkgnaaDoor
open Go.ChangeShapes Go.WideShapes Go.ChangeAt Go.RowKit
set_option linter.unusedVariables false
set_option linter.unusedSimpArgs false
theorem infoWay : (Tryd.prog.info? 196).map (fun i => (i.zero, i.size, i.bytes)) = some (some (.agg #[.int .i64 0, .int .i64 0, .int .i64 0, .int .i64 0, .int .u32 0, .int .u32 0, .int .i64 0, .int .i64 0, .bool false, .slice none 0 0]), 10, 96) := by kernel_rfl
section
variable {P : Program}
/-- One operation that appends to a row of one's own. -/
theorem op_append_own {o : Oper} {a : Act} {K : Act → World → Prop} {Q : Exit → Act → World → Prop} (w : World) (s x : Operand) (t : TypeId)
    (ho : o.op = .call { callee := .builtin .append, args := #[s, x], argTypes := #[t, t] })
    (base : Nat) (e : TypeId) (i : TypeInfo) (z : Value) (size bytes : Nat) (ht : P.underlying t = some (.slice e)) (hi : P.info? e = some i) (hz : i.zero = some z)
    (hsize : i.size = size) (hby : i.bytes = bytes) (hzs : z.cells.size = size) (hsz : 0 < size)
    (v : Value) (n : Nat) (xs : List Value) (hs : a.eval s = v) (hown : w.ownsRow base e size v n xs)
    (ad : Addr) (m c : Nat) (news : List Value) (hx : a.eval x = .slice (some ad) m c) (hl : news.length = m * size) (hnews : ∀ j u, news[j]? = some u → w.cell? (ad.add j) = some u) (h1 : ∀ u ∈ news, u.oneCell' = true)
    (h63 : n + m ≤ maxLen) (hbytes : (n + m) * bytes ≤ 140737488355328) (hbase : base ≤ w.heap.size)
    (h : ∀ v' w', w'.ownsRow base e size v' (n + m) (xs ++ news) → w.grownBy w' v.ownBlock → (v'.ownBlock = v.ownBlock ∨ v'.ownBlock = some w.heap.size) → K (a.put o.dst v') w') : Oper.wp P o a w K Q := by
  obtain ⟨v', w', hr, h2, h3, h4, h5⟩ := run_append_own_at (P := P) w base t o.type e i z size bytes ht hi hz hsize hby hzs hsz v n xs hown ad m c news hl hnews h1 h63 hbytes hbase
  unfold Oper.wp execOp
  simp only [ho, resolve, invoke, builtin, Sem.run_bind, Sem.run_pure, Result.andThen_ok, List.map_toArray, List.map_cons, List.map_nil, hs, hx, hr]
  exact h v' w' h2 h3 h5
end
/-- All blocks but the cache's own are as they were. -/
def KeepB (w w' : World) (cb : Nat) (v : Value) : Prop := w.heap.size ≤ w'.heap.size ∧ ∀ k, k < w.heap.size → k ≠ cb → v.ownBlock ≠ some k → w'.heap[k]? = w.heap[k]?
theorem ew_new (w : World) (d : EW) (T : TypeId) : ∀ j u, d.cs[j]? = some u → (w.alloc (.cells #[.int .i64 d.k0, .int .i64 d.k1, .int .i64 d.k2, .int .i64 d.k3, .int .u32 d.k4, .int .u32 d.sh, .int .i64 d.pg, .int .i64 d.at_, .bool d.ro, .slice d.na d.ids.length d.nc] T (0, 0))).cell? (Addr.add ⟨w.heap.size, 0, none⟩ j) = some u := by
  intro j u hj
  rw [Addr.add_mid, Nat.zero_add]
  simpa [EW.cs] using hj
theorem ew_one (d : EW) : ∀ u ∈ d.cs, u.oneCell' = true := by
  intro u hu
  simp [EW.cs] at hu
  rcases hu with rfl | rfl | rfl | rfl | rfl | rfl | rfl | rfl | rfl | rfl <;> rfl
/-- A way in a box. -/
structure WayAt (w : World) (b : Nat) (d : EW) : Prop where
  lt : b < w.heap.size
  c0 : w.cell? ⟨b, 0, none⟩ = some (.int .i64 d.k0)
  c1 : w.cell? ⟨b, 1, none⟩ = some (.int .i64 d.k1)
  c2 : w.cell? ⟨b, 2, none⟩ = some (.int .i64 d.k2)
  c3 : w.cell? ⟨b, 3, none⟩ = some (.int .i64 d.k3)
  c4 : w.cell? ⟨b, 4, none⟩ = some (.int .u32 d.k4)
  c5 : w.cell? ⟨b, 5, none⟩ = some (.int .u32 d.sh)
  c6 : w.cell? ⟨b, 6, none⟩ = some (.int .i64 d.pg)
  c7 : w.cell? ⟨b, 7, none⟩ = some (.int .i64 d.at_)
  c8 : w.cell? ⟨b, 8, none⟩ = some (.bool d.ro)
  c9 : w.cell? ⟨b, 9, none⟩ = some (.slice d.na d.ids.length d.nc)
theorem WayAt.same {w w' : World} {b : Nat} {d : EW} (h : WayAt w b d) (hs : w.heap.size ≤ w'.heap.size) (e : w'.heap[b]? = w.heap[b]?) : WayAt w' b d :=
  ⟨Nat.lt_of_lt_of_le h.lt hs, (World.cell?_of_block (a := ⟨b, 0, none⟩) e).trans h.c0, (World.cell?_of_block (a := ⟨b, 1, none⟩) e).trans h.c1, (World.cell?_of_block (a := ⟨b, 2, none⟩) e).trans h.c2, (World.cell?_of_block (a := ⟨b, 3, none⟩) e).trans h.c3, (World.cell?_of_block (a := ⟨b, 4, none⟩) e).trans h.c4, (World.cell?_of_block (a := ⟨b, 5, none⟩) e).trans h.c5, (World.cell?_of_block (a := ⟨b, 6, none⟩) e).trans h.c6, (World.cell?_of_block (a := ⟨b, 7, none⟩) e).trans h.c7, (World.cell?_of_block (a := ⟨b, 8, none⟩) e).trans h.c8, (World.cell?_of_block (a := ⟨b, 9, none⟩) e).trans h.c9⟩
theorem WayAt.below {w w' : World} {b : Nat} {d : EW} (h : WayAt w b d) (hb : Below w.heap.size w w') : WayAt w' b d := h.same hb.size (hb.block b h.lt)
theorem WayAt.new (w : World) (d : EW) (T : TypeId) : WayAt (w.alloc (.cells #[.int .i64 d.k0, .int .i64 d.k1, .int .i64 d.k2, .int .i64 d.k3, .int .u32 d.k4, .int .u32 d.sh, .int .i64 d.pg, .int .i64 d.at_, .bool d.ro, .slice d.na d.ids.length d.nc] T (0, 0))) w.heap.size d := ⟨by simp, by simp, by simp, by simp, by simp, by simp, by simp, by simp, by simp, by simp, by simp⟩
theorem WayAt.all {w : World} {b : Nat} {d : EW} (h : WayAt w b d) : (World.cell? w ⟨b, 0, none⟩ = some (.int .i64 d.k0) ∧ World.cell? w ⟨b, 1, none⟩ = some (.int .i64 d.k1) ∧ World.cell? w ⟨b, 2, none⟩ = some (.int .i64 d.k2) ∧ World.cell? w ⟨b, 3, none⟩ = some (.int .i64 d.k3) ∧ World.cell? w ⟨b, 4, none⟩ = some (.int .u32 d.k4) ∧ World.cell? w ⟨b, 5, none⟩ = some (.int .u32 d.sh) ∧ World.cell? w ⟨b, 6, none⟩ = some (.int .i64 d.pg) ∧ World.cell? w ⟨b, 7, none⟩ = some (.int .i64 d.at_) ∧ World.cell? w ⟨b, 8, none⟩ = some (.bool d.ro) ∧ World.cell? w ⟨b, 9, none⟩ = some (.slice d.na d.ids.length d.nc)) := ⟨h.c0, h.c1, h.c2, h.c3, h.c4, h.c5, h.c6, h.c7, h.c8, h.c9⟩
/-- What comes of a push. -/
theorem cache_pushed {N cb n : Nat} {size hits : Int} {va vb : Option Addr} {vc vd : Nat} {E : List EW} {d : EW} {w wC w9 : World} (hn : E.length = n) (hN : N ≤ w.heap.size) (h : CacheAt w N cb size hits (.slice va n vc) E) (hd : NodesIn w N cb (.slice va n vc) d) (hb : Below w.heap.size w wC) (h2 : CacheAt wC N cb size hits (.slice va n vc) E) {o : Obj}
    (hown : w9.ownsRow N 196 10 (.slice vb (n + 1) vd) (n + 1) (ewCells E ++ d.cs)) (hg : ((wC.alloc o).drew).grownBy w9 (Value.slice va n vc).ownBlock) (hloc : (Value.slice vb (n + 1) vd).ownBlock = (Value.slice va n vc).ownBlock ∨ (Value.slice vb (n + 1) vd).ownBlock = some ((wC.alloc o).drew).heap.size) :
    CacheAt (w9.setCell ⟨cb, 2, none⟩ (.slice vb (n + 1) vd)) N cb size hits (.slice vb (n + 1) vd) (E ++ [d]) ∧ Below N w (w9.setCell ⟨cb, 2, none⟩ (.slice vb (n + 1) vd)) ∧ KeepB w (w9.setCell ⟨cb, 2, none⟩ (.slice vb (n + 1) vd)) cb (.slice va n vc) := by
  have hs := hb.size
  have hs9 : wC.heap.size + 1 ≤ w9.heap.size := by have := hg.size; simpa using this
  have hz : ((wC.alloc o).drew).heap.size = wC.heap.size + 1 := by simp
  have hcl := h.cl
  have keep : ∀ k, k < w.heap.size → k ≠ cb → (Value.slice va n vc).ownBlock ≠ some k → (w9.setCell ⟨cb, 2, none⟩ (.slice vb (n + 1) vd)).heap[k]? = w.heap[k]? := fun k hk hkc hkv => by
    rw [Below.heap_setCell _ _ _ _ (show k ≠ cb from hkc), hg.block k (by rw [hz]; omega) (fun e => hkv e.symm)]
    exact ((((Below.refl wC.heap.size wC).alloc (Nat.le_refl _) o).drew).block k (by omega)).trans (hb.block k hk)
  have hcb : w9.heap[cb]? = wC.heap[cb]? := by
    rw [hg.block cb (by rw [hz]; have := h2.cl; omega) (fun e => h2.ne e.symm)]
    exact (((Below.refl wC.heap.size wC).alloc (Nat.le_refl _) o).drew).block cb h2.cl
  have hvn : ∀ g, g < w.heap.size → (Value.slice va n vc).ownBlock ≠ some g → (Value.slice vb (n + 1) vd).ownBlock ≠ some g := fun g hgs hne e => by
    rcases hloc with e' | e'
    · exact hne (by rw [← e', e])
    · rw [e'] at e; injection e with e; rw [hz] at e; omega
  have hnd : ∀ e, NodesIn w N cb (.slice va n vc) e → NodesIn (w9.setCell ⟨cb, 2, none⟩ (.slice vb (n + 1) vd)) N cb (.slice vb (n + 1) vd) e := fun e he i hi => by
    obtain ⟨g, o', h1, h2', h3, h4, h5, h6⟩ := he i hi
    exact ⟨g, o', h1, h2', by simp; omega, h4, hvn g h3 h5, (World.cell?_of_block (a := ⟨g, o' + i, none⟩) (keep g h3 h4 h5)).trans h6⟩
  have hne : (Value.slice vb (n + 1) vd).ownBlock ≠ some cb := hvn cb hcl h.ne
  have hlen : (E ++ [d]).length = n + 1 := by simp [hn]
  have cc : ∀ q u, q ≠ 2 → wC.cell? ⟨cb, q, none⟩ = some u → (w9.setCell ⟨cb, 2, none⟩ (.slice vb (n + 1) vd)).cell? ⟨cb, q, none⟩ = some u := fun q u hq hu => by
    rw [World.cell?_setCell_other _ _ _ _ (by intro e; injection e with _ e; exact hq e.symm)]
    exact (World.cell?_of_block (a := ⟨cb, q, none⟩) hcb).trans hu
  refine ⟨⟨h.nb, by simp; omega, cc 0 _ (by decide) h2.c0, cc 1 _ (by decide) h2.c1, ?_, fun j => ?_, ?_, hne, fun e he => ?_⟩, ?_, ⟨by simp; omega, keep⟩⟩
  · exact World.cell?_setCell_same _ _ _ ((World.cell?_of_block (a := ⟨cb, 2, none⟩) hcb).trans h2.c2)
  · rw [World.frozen?_setCell]
    exact (World.frozen?_of_block (a := ⟨cb, j, none⟩) hcb).trans (h2.fr j)
  · rw [hlen, ewCells_snoc]
    exact row_same' hown (fun g hg' => Below.heap_setCell _ _ _ _ (show g ≠ cb from fun e => hne (by rw [hg', e])))
  · rcases List.mem_append.1 he with he | he
    · exact hnd e (h.nd e he)
    · simp at he; subst he; exact hnd e hd
  · refine Below.setCell (Below.grown ((((hb.mono hN).alloc (by omega) o)).drew) hg (by rw [hz]; omega) (fun g hg' => (h2.row.lt g hg').1)) h.nb _
set_option maxRecDepth 100000 in
set_option maxHeartbeats 4000000 in
theorem cremember_is {N cb : Nat} {size hits : Int} {v : Value} {E : List EW} (d : EW) (n : Nat) (hn : Hid (E.length = n)) (hlt : (n : Int) < size) (hn64 : n ≤ 64) (w : World) (h : CacheAt w N cb size hits v E) (hd : NodesIn w N cb v d) (hN : N ≤ w.heap.size) :
    Calls Tryd.prog 95 #[.pointer (some ⟨cb, 0, none⟩), (Value.agg #[.int .i64 d.k0, .int .i64 d.k1, .int .i64 d.k2, .int .i64 d.k3, .int .u32 d.k4, .int .u32 d.sh, .int .i64 d.pg, .int .i64 d.at_, .bool d.ro, .slice d.na d.ids.length d.nc])] w fun e w' => e = .returned (.tuple #[]) ∧ ∃ v', CacheAt w' N cb size hits v' (E ++ [d]) ∧ Below N w w' ∧ KeepB w w' cb v ∧ (v'.ownBlock = v.ownBlock ∨ ∃ g, w.heap.size ≤ g ∧ v'.ownBlock = some g) := by
  obtain ⟨i0, hi, hz0, hz1, hz2⟩ := info_parts infoWay
  have HI := Lib.hid (⟨hi, hz0, hz1, hz2⟩ : Tryd.prog.info? 196 = some i0 ∧ i0.zero = some (.agg #[.int .i64 0, .int .i64 0, .int .i64 0, .int .i64 0, .int .u32 0, .int .u32 0, .int .i64 0, .int .i64 0, .bool false, .slice none 0 0]) ∧ i0.size = 10 ∧ i0.bytes = 96)
  have H := Lib.hid h
  have HD := Lib.hid hd
  have HN := Lib.hid hN
  obtain ⟨va, vc, hv⟩ := h.shape
  rw [hn.out] at hv
  have HV := Lib.hid hv
  subst hv
  have hne : ¬ (n : Int) = size := by omega
  have hdd : ((n : Int) == size) = false := by simp; omega
  clear h hd hN hi hz0 hz1 hz2
  go_enter Tryd.func95, Tryd.ntmps95
  go_upto_region 1 with fail
  obtain ⟨wB, hwB⟩ : ∃ wB, wB = w.alloc (.cells #[.int .i64 d.k0, .int .i64 d.k1, .int .i64 d.k2, .int .i64 d.k3, .int .u32 d.k4, .int .u32 d.sh, .int .i64 d.pg, .int .i64 d.at_, .bool d.ro, .slice d.na d.ids.length d.nc] 196 (0, 0)) := ⟨_, rfl⟩
  rw [← hwB]
  have HB : Hid (Below w.heap.size w wB) := Lib.hid (by rw [hwB]; exact (Below.refl _ _).alloc (Nat.le_refl _) _)
  have HW : Hid (WayAt wB w.heap.size d) := Lib.hid (by rw [hwB]; exact WayAt.new _ _ _)
  have H1 := Lib.hid (H.out.below HB.out)
  clear hwB
  refine wp_region_noPanic ?_
  refine wp_region_held_drew (S := fun w' => World.cell? w' ⟨cb, 0, none⟩ = some (.int .i64 size) ∧ World.cell? w' ⟨cb, 2, none⟩ = some (.slice va n vc)) (by kernel_rfl) ⟨(H1.out.below (Below.refl _ _).drew).c0, (H1.out.below (Below.refl _ _).drew).c2⟩ (fun hHeld => ?_)
  refine wpAnyH_take (i := 0) (v := ?_) (by rfl) (by kernel_rfl) (by kernel_rfl) (by kernel_rfl) (fun _ _ _ h => h) (Or.inl ⟨by kernel_rfl, ?_⟩) (by assumption) ?_; rotate_left 1; (focus (intro w hSw; (try dsimp only at hSw); simp only [List.getElem_toArray, List.getElem_cons_succ, List.getElem_cons_zero]; all_goals go_simp; all_goals (try with_reducible rfl))); (try simp only [Act.put, List.getElem_toArray, List.getElem_cons_succ, List.getElem_cons_zero, List.setIfInBounds_toArray, List.set_cons_zero, List.set_cons_succ])
  refine wpAnyH_take (i := 1) (v := ?_) (by rfl) (by kernel_rfl) (by kernel_rfl) (by kernel_rfl) (fun _ _ _ h => h) (Or.inl ⟨by kernel_rfl, ?_⟩) (by assumption) ?_; rotate_left 1; (focus (intro w hSw; (try dsimp only at hSw); simp only [List.getElem_toArray, List.getElem_cons_succ, List.getElem_cons_zero]; all_goals go_simp; all_goals (try with_reducible rfl))); (try simp only [Act.put, List.getElem_toArray, List.getElem_cons_succ, List.getElem_cons_zero, List.setIfInBounds_toArray, List.set_cons_zero, List.set_cons_succ])
  refine wpAnyH_take (i := 2) (v := ?_) (by rfl) (by kernel_rfl) (by kernel_rfl) (by kernel_rfl) (fun _ _ _ h => h) (Or.inl ⟨by kernel_rfl, ?_⟩) (by assumption) ?_; rotate_left 1; (focus (intro w hSw; (try dsimp only at hSw); simp only [List.getElem_toArray, List.getElem_cons_succ, List.getElem_cons_zero]; all_goals go_simp; all_goals (try with_reducible rfl))); (try simp only [Act.put, List.getElem_toArray, List.getElem_cons_succ, List.getElem_cons_zero, List.setIfInBounds_toArray, List.set_cons_zero, List.set_cons_succ])
  refine wpAnyH_take (i := 3) (v := ?_) (by rfl) (by kernel_rfl) (by kernel_rfl) (by kernel_rfl) (fun _ _ _ h => h) (Or.inl ⟨by kernel_rfl, ?_⟩) (by assumption) ?_; rotate_left 1; (focus (intro w hSw; (try dsimp only at hSw); simp only [List.getElem_toArray, List.getElem_cons_succ, List.getElem_cons_zero]; all_goals go_simp; all_goals (try with_reducible rfl))); (try simp only [Act.put, List.getElem_toArray, List.getElem_cons_succ, List.getElem_cons_zero, List.setIfInBounds_toArray, List.set_cons_zero, List.set_cons_succ])
  refine wpAnyH_take (i := 4) (v := ?_) (by rfl) (by kernel_rfl) (by kernel_rfl) (by kernel_rfl) (fun _ _ _ h => h) (Or.inl ⟨by kernel_rfl, ?_⟩) (by assumption) ?_; rotate_left 1; (focus (intro w hSw; (try dsimp only at hSw); simp only [List.getElem_toArray, List.getElem_cons_succ, List.getElem_cons_zero]; all_goals go_simp; all_goals (try with_reducible rfl))); (try simp only [Act.put, List.getElem_toArray, List.getElem_cons_succ, List.getElem_cons_zero, List.setIfInBounds_toArray, List.set_cons_zero, List.set_cons_succ])
  refine wpAnyH_take (i := 5) (v := ?_) (by rfl) (by kernel_rfl) (by kernel_rfl) (by kernel_rfl) (fun _ _ _ h => h) (Or.inl ⟨by kernel_rfl, ?_⟩) (by assumption) ?_; rotate_left 1; (focus (intro w hSw; (try dsimp only at hSw); simp only [List.getElem_toArray, List.getElem_cons_succ, List.getElem_cons_zero]; all_goals go_simp; all_goals (try with_reducible rfl))); (try simp only [Act.put, List.getElem_toArray, List.getElem_cons_succ, List.getElem_cons_zero, List.setIfInBounds_toArray, List.set_cons_zero, List.set_cons_succ])
  refine wpAnyH_take (i := 6) (v := ?_) (by rfl) (by kernel_rfl) (by kernel_rfl) (by kernel_rfl) (fun _ _ _ h => h) (Or.inl ⟨by kernel_rfl, ?_⟩) (by assumption) ?_; rotate_left 1; (focus (intro w hSw; (try dsimp only at hSw); simp only [List.getElem_toArray, List.getElem_cons_succ, List.getElem_cons_zero]; all_goals go_simp; all_goals (try with_reducible rfl))); (try simp only [Act.put, List.getElem_toArray, List.getElem_cons_succ, List.getElem_cons_zero, List.setIfInBounds_toArray, List.set_cons_zero, List.set_cons_succ])
  refine wpAnyH_take (i := 7) (v := ?_) (by rfl) (by kernel_rfl) (by kernel_rfl) (by kernel_rfl) (fun _ _ _ h => h) (Or.inl ⟨by kernel_rfl, ?_⟩) (by assumption) ?_; rotate_left 1; (focus (intro w hSw; (try dsimp only at hSw); simp only [List.getElem_toArray, List.getElem_cons_succ, List.getElem_cons_zero]; all_goals go_simp; all_goals (try with_reducible rfl))); (try simp only [Act.put, List.getElem_toArray, List.getElem_cons_succ, List.getElem_cons_zero, List.setIfInBounds_toArray, List.set_cons_zero, List.set_cons_succ])
  refine wpAnyH_take (i := 8) (v := ?_) (by rfl) (by kernel_rfl) (by kernel_rfl) (by kernel_rfl) (fun _ _ _ h => h) (Or.inl ⟨by kernel_rfl, ?_⟩) (by assumption) ?_; rotate_left 1; (focus (intro w hSw; (try dsimp only at hSw); simp only [List.getElem_toArray, List.getElem_cons_succ, List.getElem_cons_zero]; all_goals go_simp; all_goals (try with_reducible rfl))); (try simp only [Act.put, List.getElem_toArray, List.getElem_cons_succ, List.getElem_cons_zero, List.setIfInBounds_toArray, List.set_cons_zero, List.set_cons_succ])
  refine wpAnyH_take (i := 9) (v := ?_) (by rfl) (by kernel_rfl) (by kernel_rfl) (by kernel_rfl) (fun _ _ _ h => h) (Or.inl ⟨by kernel_rfl, ?_⟩) (by assumption) ?_; rotate_left 1; (focus (intro w hSw; (try dsimp only at hSw); simp only [List.getElem_toArray, List.getElem_cons_succ, List.getElem_cons_zero]; all_goals go_simp; all_goals (try with_reducible rfl))); (try simp only [Act.put, List.getElem_toArray, List.getElem_cons_succ, List.getElem_cons_zero, List.setIfInBounds_toArray, List.set_cons_zero, List.set_cons_succ])
  refine wpAnyH_done (by kernel_rfl) ?_ _
  refine NoPanic.normal ?_
  go_upto_region 3 with fail
  obtain ⟨wC, hwC⟩ : ∃ wC, wC = wB.drew := ⟨_, rfl⟩
  rw [← hwC]
  have H2 : Hid (CacheAt wC N cb size hits (.slice va n vc) E) := Lib.hid (by rw [hwC]; exact H1.out.below (Below.refl _ _).drew)
  have HW2 : Hid (WayAt wC w.heap.size d) := Lib.hid (by rw [hwC]; exact HW.out.below (Below.refl _ _).drew)
  have HBC : Hid (Below w.heap.size w wC) := Lib.hid (by rw [hwC]; exact HB.out.drew)
  have HCW : Hid (cb < w.heap.size) := Lib.hid H.out.cl
  have HOF : Hid ((Value.slice va n vc).ownBlock ≠ some w.heap.size) := Lib.hid (fun e => by have := (H.out.row.lt _ e).2; omega)
  clear hwC HB HW H1
  have HRow : Hid (World.ownsRow ((wC.alloc (.cells #[.int .i64 d.k0, .int .i64 d.k1, .int .i64 d.k2, .int .i64 d.k3, .int .u32 d.k4, .int .u32 d.sh, .int .i64 d.pg, .int .i64 d.at_, .bool d.ro, .slice d.na d.ids.length d.nc] 196 (0, 0))).drew) N 196 10 (.slice va n vc) n (ewCells E)) := Lib.hid (by rw [← hn.out]; have := (H2.out.below (((Below.refl _ _).alloc (Nat.le_refl _) _ : Below wC.heap.size wC (wC.alloc (.cells #[.int .i64 d.k0, .int .i64 d.k1, .int .i64 d.k2, .int .i64 d.k3, .int .u32 d.k4, .int .u32 d.sh, .int .i64 d.pg, .int .i64 d.at_, .bool d.ro, .slice d.na d.ids.length d.nc] 196 (0, 0)))).drew)).row; rw [← hn.out] at this; exact this)
  have HNew : Hid (∀ j u, d.cs[j]? = some u → World.cell? ((wC.alloc (.cells #[.int .i64 d.k0, .int .i64 d.k1, .int .i64 d.k2, .int .i64 d.k3, .int .u32 d.k4, .int .u32 d.sh, .int .i64 d.pg, .int .i64 d.at_, .bool d.ro, .slice d.na d.ids.length d.nc] 196 (0, 0))).drew) (Addr.add ⟨wC.heap.size, 0, none⟩ j) = some u) := Lib.hid (fun j u hj => ew_new wC d _ j u hj)
  refine wp_region_noPanic ?_
  refine wp_region_held_drew (S := fun w' => (World.cell? w' ⟨w.heap.size, 0, none⟩ = some (.int .i64 d.k0) ∧ World.cell? w' ⟨w.heap.size, 1, none⟩ = some (.int .i64 d.k1) ∧ World.cell? w' ⟨w.heap.size, 2, none⟩ = some (.int .i64 d.k2) ∧ World.cell? w' ⟨w.heap.size, 3, none⟩ = some (.int .i64 d.k3) ∧ World.cell? w' ⟨w.heap.size, 4, none⟩ = some (.int .u32 d.k4) ∧ World.cell? w' ⟨w.heap.size, 5, none⟩ = some (.int .u32 d.sh) ∧ World.cell? w' ⟨w.heap.size, 6, none⟩ = some (.int .i64 d.pg) ∧ World.cell? w' ⟨w.heap.size, 7, none⟩ = some (.int .i64 d.at_) ∧ World.cell? w' ⟨w.heap.size, 8, none⟩ = some (.bool d.ro) ∧ World.cell? w' ⟨w.heap.size, 9, none⟩ = some (.slice d.na d.ids.length d.nc))) (by kernel_rfl) (HW2.out.below (Below.refl _ _).drew).all (fun hHeld => ?_)
  refine wpAnyH_take (i := 0) (v := ?_) (by rfl) (by kernel_rfl) (by kernel_rfl) (by kernel_rfl) (fun _ _ _ h => h) (Or.inl ⟨by kernel_rfl, ?_⟩) (by assumption) ?_; rotate_left 1; (focus (intro w hSw; (try dsimp only at hSw); simp only [List.getElem_toArray, List.getElem_cons_succ, List.getElem_cons_zero]; all_goals go_simp; all_goals (try with_reducible rfl))); (try simp only [Act.put, List.getElem_toArray, List.getElem_cons_succ, List.getElem_cons_zero, List.setIfInBounds_toArray, List.set_cons_zero, List.set_cons_succ])
  refine wpAnyH_take (i := 1) (v := ?_) (by rfl) (by kernel_rfl) (by kernel_rfl) (by kernel_rfl) (fun _ _ _ h => h) (Or.inl ⟨by kernel_rfl, ?_⟩) (by assumption) ?_; rotate_left 1; (focus (intro w hSw; (try dsimp only at hSw); simp only [List.getElem_toArray, List.getElem_cons_succ, List.getElem_cons_zero]; all_goals go_simp; all_goals (try with_reducible rfl))); (try simp only [Act.put, List.getElem_toArray, List.getElem_cons_succ, List.getElem_cons_zero, List.setIfInBounds_toArray, List.set_cons_zero, List.set_cons_succ])
  refine wpAnyH_take (i := 2) (v := ?_) (by rfl) (by kernel_rfl) (by kernel_rfl) (by kernel_rfl) (fun _ _ _ h => h) (Or.inl ⟨by kernel_rfl, ?_⟩) (by assumption) ?_; rotate_left 1; (focus (intro w hSw; (try dsimp only at hSw); simp only [List.getElem_toArray, List.getElem_cons_succ, List.getElem_cons_zero]; all_goals go_simp; all_goals (try with_reducible rfl))); (try simp only [Act.put, List.getElem_toArray, List.getElem_cons_succ, List.getElem_cons_zero, List.setIfInBounds_toArray, List.set_cons_zero, List.set_cons_succ])
  refine wpAnyH_take (i := 3) (v := ?_) (by rfl) (by kernel_rfl) (by kernel_rfl) (by kernel_rfl) (fun _ _ _ h => h) (Or.inl ⟨by kernel_rfl, ?_⟩) (by assumption) ?_; rotate_left 1; (focus (intro w hSw; (try dsimp only at hSw); simp only [List.getElem_toArray, List.getElem_cons_succ, List.getElem_cons_zero]; all_goals go_simp; all_goals (try with_reducible rfl))); (try simp only [Act.put, List.getElem_toArray, List.getElem_cons_succ, List.getElem_cons_zero, List.setIfInBounds_toArray, List.set_cons_zero, List.set_cons_succ])
  refine wpAnyH_take (i := 5) (v := ?_) (by rfl) (by kernel_rfl) (by kernel_rfl) (by kernel_rfl) (fun _ _ _ h => h) (Or.inl ⟨by kernel_rfl, ?_⟩) (by assumption) ?_; rotate_left 1; (focus (intro w hSw; (try dsimp only at hSw); simp only [List.getElem_toArray, List.getElem_cons_succ, List.getElem_cons_zero]; all_goals go_simp; all_goals (try with_reducible rfl))); (try simp only [Act.put, List.getElem_toArray, List.getElem_cons_succ, List.getElem_cons_zero, List.setIfInBounds_toArray, List.set_cons_zero, List.set_cons_succ])
  refine wpAnyH_ready (rs := [4, 6]) (by kernel_rfl) (by simp) ?_
  refine AllReadyH.cons (by rfl) (fun K hK => ?_) (AllReadyH.cons (by rfl) (fun K hK => ?_) AllReadyH.nil)
  · skip
    rw [if_pos (by kernel_rfl)]
    simp only [List.getElem_toArray, List.getElem_cons_succ, List.getElem_cons_zero]
    have q2 := (H2.out.below (Below.refl wC.heap.size wC).drew).c2
    go_wp2_with fail
    refine hK.out _ _ (HW2.out.below (Below.refl _ _).drew).all (fun hHeld => ?_)
    clear hK K q2
    (try simp only [Act.put, List.getElem_toArray, List.getElem_cons_succ, List.getElem_cons_zero, List.setIfInBounds_toArray, List.set_cons_zero, List.set_cons_succ])
    refine wpAnyH_ready (rs := [6]) (by kernel_rfl) (by simp) ?_; refine AllReadyH.cons (by rfl) (fun K hK => ?_) AllReadyH.nil; rw [if_pos (by kernel_rfl)]; simp only [List.getElem_toArray, List.getElem_cons_succ, List.getElem_cons_zero]
    go_wp2_with fail
    refine hK.out _ _ (HW2.out.below (((Below.refl _ _).alloc (Nat.le_refl _) _ : Below wC.heap.size wC _).drew)).all (fun hHeld => ?_)
    clear hK K
    (try simp only [Act.put, List.getElem_toArray, List.getElem_cons_succ, List.getElem_cons_zero, List.setIfInBounds_toArray, List.set_cons_zero, List.set_cons_succ])
    refine wpAnyH_ready (rs := [7]) (by kernel_rfl) (by simp) ?_
    refine AllReadyH.cons (by rfl) (fun K hK => ?_) AllReadyH.nil
    rw [if_pos (by kernel_rfl)]
    simp only [List.getElem_toArray, List.getElem_cons_succ, List.getElem_cons_zero]
    refine op_append_own _ _ _ 188 (by rfl) N 196 i0 _ 10 96 Tryd.underlying188 HI.out.1 HI.out.2.1 HI.out.2.2.1 HI.out.2.2.2 (by rfl) (by decide) (.slice va n vc) n (ewCells E) (by rfl) HRow.out ⟨wC.heap.size, 0, none⟩ 1 1 d.cs (by rfl) rfl (HNew.out) (ew_one d) (by unfold maxLen; omega) (by omega) (by have := HN.out; have := HBC.out.size; simp; omega) ?_
    intro v' w9 hown hgrow hloc
    obtain ⟨vb, vd, rfl⟩ := own_shape' hown
    have HOW := Lib.hid hown
    have HGR := Lib.hid hgrow
    have HLC : Hid ((Value.slice vb (n + 1) vd).ownBlock = (Value.slice va n vc).ownBlock ∨ _) := Lib.hid hloc
    have hbx : w9.heap[w.heap.size]? = wC.heap[w.heap.size]? := by
      rw [HGR.out.block _ (by have := HW2.out.lt; simp; omega) (fun e => HOF.out (by rw [← e]))]
      exact ((((Below.refl _ _).alloc (Nat.le_refl _) _ : Below wC.heap.size wC _)).drew).block _ HW2.out.lt
    have hcb : w9.heap[cb]? = wC.heap[cb]? := by
      rw [HGR.out.block _ (by have := H2.out.cl; simp; omega) (fun e => H2.out.ne (by rw [← e]))]
      exact ((((Below.refl _ _).alloc (Nat.le_refl _) _ : Below wC.heap.size wC _)).drew).block _ H2.out.cl
    have HW9 := Lib.hid (HW2.out.same (by have := HGR.out.size; simp at this; omega) hbx)
    have q2 := (World.cell?_of_block (a := ⟨cb, 2, none⟩) hcb).trans H2.out.c2
    have qf := (World.frozen?_of_block (a := ⟨cb, 2, none⟩) hcb).trans (H2.out.fr 2)
    have HCB := Lib.hid hcb
    clear hown hgrow hloc hbx hcb
    refine hK.out _ _ HW9.out.all (fun hHeld => ?_)
    clear hK K
    (try simp only [Act.put, List.getElem_toArray, List.getElem_cons_succ, List.getElem_cons_zero, List.setIfInBounds_toArray, List.set_cons_zero, List.set_cons_succ])
    refine wpAnyH_take (i := 8) (v := ?_) (by rfl) (by kernel_rfl) (by kernel_rfl) (by kernel_rfl) (fun _ _ _ h => h) (Or.inl ⟨by kernel_rfl, ?_⟩) (by assumption) ?_; rotate_left 1; (focus (intro w hSw; (try dsimp only at hSw); simp only [List.getElem_toArray, List.getElem_cons_succ, List.getElem_cons_zero]; all_goals go_simp; all_goals (try with_reducible rfl))); (try simp only [Act.put, List.getElem_toArray, List.getElem_cons_succ, List.getElem_cons_zero, List.setIfInBounds_toArray, List.set_cons_zero, List.set_cons_succ])
    refine wpAnyH_take (i := 9) (v := ?_) (by rfl) (by kernel_rfl) (by kernel_rfl) (by kernel_rfl) (fun _ _ _ h => h) (Or.inl ⟨by kernel_rfl, ?_⟩) (by assumption) ?_; rotate_left 1; (focus (intro w hSw; (try dsimp only at hSw); simp only [List.getElem_toArray, List.getElem_cons_succ, List.getElem_cons_zero]; all_goals go_simp; all_goals (try with_reducible rfl))); (try simp only [Act.put, List.getElem_toArray, List.getElem_cons_succ, List.getElem_cons_zero, List.setIfInBounds_toArray, List.set_cons_zero, List.set_cons_succ])
    refine wpAnyH_ready (rs := [10]) (by kernel_rfl) (by simp) ?_; refine AllReadyH.cons (by rfl) (fun K hK => ?_) AllReadyH.nil; rw [if_pos (by kernel_rfl)]; simp only [List.getElem_toArray, List.getElem_cons_succ, List.getElem_cons_zero]
    go_wp2_with fail
    refine hK.out _ _ (HW9.out.same (by simp) (Below.heap_setCell _ _ _ _ (by have := H2.out.cl; have := HCW.out; show w.heap.size ≠ cb; omega))).all (fun hHeld => ?_)
    clear hK K
    (try simp only [Act.put, List.getElem_toArray, List.getElem_cons_succ, List.getElem_cons_zero, List.setIfInBounds_toArray, List.set_cons_zero, List.set_cons_succ])
    refine wpAnyH_done (by kernel_rfl) ?_ _
    refine NoPanic.normal ?_
    go_wp2_with fail
    go_end0
    have P := cache_pushed hn.out HN.out H.out HD.out HBC.out H2.out HOW.out HGR.out HLC.out
    exact ⟨rfl, .slice vb (n + 1) vd, P.1, P.2.1, P.2.2, HLC.out.imp id (fun e => ⟨_, by have := HBC.out.size; simp; omega, e⟩)⟩
  · skip
    rw [if_pos (by kernel_rfl)]
    simp only [List.getElem_toArray, List.getElem_cons_succ, List.getElem_cons_zero]
    go_wp2_with fail
    refine hK.out _ _ (HW2.out.below (((Below.refl _ _).alloc (Nat.le_refl _) _ : Below wC.heap.size wC _).drew)).all (fun hHeld => ?_)
    clear hK K
    (try simp only [Act.put, List.getElem_toArray, List.getElem_cons_succ, List.getElem_cons_zero, List.setIfInBounds_toArray, List.set_cons_zero, List.set_cons_succ])
    have q2 : ∀ o, World.cell? ((wC.alloc o).drew) ⟨cb, 2, none⟩ = _ := fun o => (H2.out.below (((Below.refl _ _).alloc (Nat.le_refl _) _ : Below wC.heap.size wC (wC.alloc o)).drew)).c2
    have q2' := q2 (.cells #[.int .i64 d.k0, .int .i64 d.k1, .int .i64 d.k2, .int .i64 d.k3, .int .u32 d.k4, .int .u32 d.sh, .int .i64 d.pg, .int .i64 d.at_, .bool d.ro, .slice d.na d.ids.length d.nc] 196 (0, 0))
    refine wpAnyH_ready (rs := [4]) (by kernel_rfl) (by simp) ?_; refine AllReadyH.cons (by rfl) (fun K hK => ?_) AllReadyH.nil; rw [if_pos (by kernel_rfl)]; simp only [List.getElem_toArray, List.getElem_cons_succ, List.getElem_cons_zero]
    go_wp2_with fail
    refine hK.out _ _ (HW2.out.below (((Below.refl _ _).alloc (Nat.le_refl _) _ : Below wC.heap.size wC _).drew)).all (fun hHeld => ?_)
    clear hK K q2 q2'
    (try simp only [Act.put, List.getElem_toArray, List.getElem_cons_succ, List.getElem_cons_zero, List.setIfInBounds_toArray, List.set_cons_zero, List.set_cons_succ])
    refine wpAnyH_ready (rs := [7]) (by kernel_rfl) (by simp) ?_
    refine AllReadyH.cons (by rfl) (fun K hK => ?_) AllReadyH.nil
    rw [if_pos (by kernel_rfl)]
    simp only [List.getElem_toArray, List.getElem_cons_succ, List.getElem_cons_zero]
    refine op_append_own _ _ _ 188 (by rfl) N 196 i0 _ 10 96 Tryd.underlying188 HI.out.1 HI.out.2.1 HI.out.2.2.1 HI.out.2.2.2 (by rfl) (by decide) (.slice va n vc) n (ewCells E) (by rfl) HRow.out ⟨wC.heap.size, 0, none⟩ 1 1 d.cs (by rfl) rfl (HNew.out) (ew_one d) (by unfold maxLen; omega) (by omega) (by have := HN.out; have := HBC.out.size; simp; omega) ?_
    intro v' w9 hown hgrow hloc
    obtain ⟨vb, vd, rfl⟩ := own_shape' hown
    have HOW := Lib.hid hown
    have HGR := Lib.hid hgrow
    have HLC : Hid ((Value.slice vb (n + 1) vd).ownBlock = (Value.slice va n vc).ownBlock ∨ _) := Lib.hid hloc
    have hbx : w9.heap[w.heap.size]? = wC.heap[w.heap.size]? := by
      rw [HGR.out.block _ (by have := HW2.out.lt; simp; omega) (fun e => HOF.out (by rw [← e]))]
      exact ((((Below.refl _ _).alloc (Nat.le_refl _) _ : Below wC.heap.size wC _)).drew).block _ HW2.out.lt
    have hcb : w9.heap[cb]? = wC.heap[cb]? := by
      rw [HGR.out.block _ (by have := H2.out.cl; simp; omega) (fun e => H2.out.ne (by rw [← e]))]
      exact ((((Below.refl _ _).alloc (Nat.le_refl _) _ : Below wC.heap.size wC _)).drew).block _ H2.out.cl
    have HW9 := Lib.hid (HW2.out.same (by have := HGR.out.size; simp at this; omega) hbx)
    have q2 := (World.cell?_of_block (a := ⟨cb, 2, none⟩) hcb).trans H2.out.c2
    have qf := (World.frozen?_of_block (a := ⟨cb, 2, none⟩) hcb).trans (H2.out.fr 2)
    have HCB := Lib.hid hcb
    clear hown hgrow hloc hbx hcb
    refine hK.out _ _ HW9.out.all (fun hHeld => ?_)
    clear hK K
    (try simp only [Act.put, List.getElem_toArray, List.getElem_cons_succ, List.getElem_cons_zero, List.setIfInBounds_toArray, List.set_cons_zero, List.set_cons_succ])
    refine wpAnyH_take (i := 8) (v := ?_) (by rfl) (by kernel_rfl) (by kernel_rfl) (by kernel_rfl) (fun _ _ _ h => h) (Or.inl ⟨by kernel_rfl, ?_⟩) (by assumption) ?_; rotate_left 1; (focus (intro w hSw; (try dsimp only at hSw); simp only [List.getElem_toArray, List.getElem_cons_succ, List.getElem_cons_zero]; all_goals go_simp; all_goals (try with_reducible rfl))); (try simp only [Act.put, List.getElem_toArray, List.getElem_cons_succ, List.getElem_cons_zero, List.setIfInBounds_toArray, List.set_cons_zero, List.set_cons_succ])
    refine wpAnyH_take (i := 9) (v := ?_) (by rfl) (by kernel_rfl) (by kernel_rfl) (by kernel_rfl) (fun _ _ _ h => h) (Or.inl ⟨by kernel_rfl, ?_⟩) (by assumption) ?_; rotate_left 1; (focus (intro w hSw; (try dsimp only at hSw); simp only [List.getElem_toArray, List.getElem_cons_succ, List.getElem_cons_zero]; all_goals go_simp; all_goals (try with_reducible rfl))); (try simp only [Act.put, List.getElem_toArray, List.getElem_cons_succ, List.getElem_cons_zero, List.setIfInBounds_toArray, List.set_cons_zero, List.set_cons_succ])
    refine wpAnyH_ready (rs := [10]) (by kernel_rfl) (by simp) ?_; refine AllReadyH.cons (by rfl) (fun K hK => ?_) AllReadyH.nil; rw [if_pos (by kernel_rfl)]; simp only [List.getElem_toArray, List.getElem_cons_succ, List.getElem_cons_zero]
    go_wp2_with fail
    refine hK.out _ _ (HW9.out.same (by simp) (Below.heap_setCell _ _ _ _ (by have := H2.out.cl; have := HCW.out; show w.heap.size ≠ cb; omega))).all (fun hHeld => ?_)
    clear hK K
    (try simp only [Act.put, List.getElem_toArray, List.getElem_cons_succ, List.getElem_cons_zero, List.setIfInBounds_toArray, List.set_cons_zero, List.set_cons_succ])
    refine wpAnyH_done (by kernel_rfl) ?_ _
    refine NoPanic.normal ?_
    go_wp2_with fail
    go_end0
    have P := cache_pushed hn.out HN.out H.out HD.out HBC.out H2.out HOW.out HGR.out HLC.out
    exact ⟨rfl, .slice vb (n + 1) vd, P.1, P.2.1, P.2.2, HLC.out.imp id (fun e => ⟨_, by have := HBC.out.size; simp; omega, e⟩)⟩
end Go.Proofs.YtjkbfhojjjkgnaaDoor
namespace Go.Proofs.YtjkbfhojjjkgnaaDoor
open Go.ChangeShapes Go.WideShapes Go.ChangeAt Go.RowKit
set_option linter.unusedVariables false
set_option linter.unusedSimpArgs false
/-- The first that is so. -/
theorem firstE (p : EW → Bool) : ∀ E : List EW, (∀ e, e ∈ E → p e = false) ∨ ∃ (j : Nat) (d : EW), E[j]? = some d ∧ p d = true ∧ ∀ (i : Nat) (e : EW), i < j → E[i]? = some e → p e = false := by
  intro E
  induction E with
  | nil => exact .inl (fun e he => by cases he)
  | cons x E ih =>
    cases hx : p x with
    | true => exact .inr ⟨0, x, rfl, hx, fun i e hi => by omega⟩
    | false =>
      rcases ih with h | ⟨j, d, h1, h2, h3⟩
      · exact .inl (fun e he => by rcases List.mem_cons.1 he with rfl | he; exact hx; exact h e he)
      · refine .inr ⟨j + 1, d, by simpa using h1, h2, fun i e hi he => ?_⟩
        cases i with
        | zero => simp at he; rw [← he]; exact hx
        | succ i => exact h3 i e (by omega) (by simpa using he)
theorem from_new (w : World) (o o' : Obj) (f0 f1 f2 f3 f4 f5 : Int) (T : TypeId) : FromAt (((w.alloc o).alloc o').alloc (.cells #[.int .i64 f0, .int .i64 f1, .int .i64 f2, .int .i64 f3, .int .u32 f4, .int .u32 f5] T (0, 0))) (w.heap.size + 1 + 1) f0 f1 f2 f3 f4 f5 := by
  have e : ((w.alloc o).alloc o').heap.size = w.heap.size + 1 + 1 := by simp
  have n3 := fun j => new3 w o o' #[.int .i64 f0, .int .i64 f1, .int .i64 f2, .int .i64 f3, .int .u32 f4, .int .u32 f5] T j
  exact ⟨(n3 0).2.2, (n3 0).1, (n3 1).1, (n3 2).1, (n3 3).1, (n3 4).1, (n3 5).1⟩
theorem key_new1 (w : World) (o o' : Obj) (k0 k1 k2 k3 k4 : Int) (T : TypeId) : KeyC (((w.alloc (.cells #[.int .i64 k0, .int .i64 k1, .int .i64 k2, .int .i64 k3, .int .u32 k4] T (0, 0))).alloc o).alloc o') w.heap.size k0 k1 k2 k3 k4 :=
  ((KeyC.new w k0 k1 k2 k3 k4 T).below ((Below.refl _ _).alloc (Nat.le_refl _) o)).below ((Below.refl _ _).alloc (Nat.le_refl _) o')
/-- No way's numbers lie in block x. -/
def NoNode (E : List EW) (x : Nat) : Prop := ∀ e, e ∈ E → 0 < e.ids.length → ∀ g o, e.na = some ⟨g, o, none⟩ → g ≠ x
theorem KeyC.same' {w w' : World} {b : Nat} {k0 k1 k2 k3 k4 : Int} (h : KeyC w b k0 k1 k2 k3 k4) (hs : w.heap.size ≤ w'.heap.size) (e : w'.heap[b]? = w.heap[b]?) : KeyC w' b k0 k1 k2 k3 k4 :=
  ⟨Nat.lt_of_lt_of_le h.lt hs, (World.cell?_of_block (a := ⟨b, 0, none⟩) e).trans h.c0, (World.cell?_of_block (a := ⟨b, 1, none⟩) e).trans h.c1, (World.cell?_of_block (a := ⟨b, 2, none⟩) e).trans h.c2, (World.cell?_of_block (a := ⟨b, 3, none⟩) e).trans h.c3, (World.cell?_of_block (a := ⟨b, 4, none⟩) e).trans h.c4, fun j => (World.frozen?_of_block (a := ⟨b, j, none⟩) e).trans (h.fr j)⟩
theorem CacheAt.put {w : World} {N cb : Nat} {size hits : Int} {v : Value} {E : List EW} (h : CacheAt w N cb size hits v E) (x j : Nat) (h1 : cb ≠ x) (h2 : v.ownBlock ≠ some x) (h3 : ∀ e, e ∈ E → 0 < e.ids.length → ∀ g o, e.na = some ⟨g, o, none⟩ → g ≠ x) (u : Value) : CacheAt (w.setCell ⟨x, j, none⟩ u) N cb size hits v E := by
  have e := set_heap w x cb j u h1
  refine ⟨h.nb, by simpa using h.cl, (World.cell?_of_block (a := ⟨cb, 0, none⟩) e).trans h.c0, (World.cell?_of_block (a := ⟨cb, 1, none⟩) e).trans h.c1, (World.cell?_of_block (a := ⟨cb, 2, none⟩) e).trans h.c2, fun j => (World.frozen?_of_block (a := ⟨cb, j, none⟩) e).trans (h.fr j), row_same' h.row (fun g hg => set_heap _ _ _ _ _ (fun e => h2 (by rw [hg, e]))), h.ne, fun d hd i hi => ?_⟩
  obtain ⟨g, o, a1, a2, a3, a4, a5, a6⟩ := h.nd d hd i hi
  exact ⟨g, o, a1, a2, by simpa using a3, a4, a5, (World.cell?_of_block (a := ⟨g, o + i, none⟩) (set_heap _ _ _ _ _ (h3 d hd (by omega) g o a1))).trans a6⟩
theorem CacheAt.put3 {w : World} {N cb : Nat} {size hits : Int} {v : Value} {E : List EW} (h : CacheAt w N cb size hits v E) (x : Nat) (h1 : cb ≠ x) (h2 : v.ownBlock ≠ some x) (h3 : ∀ e, e ∈ E → 0 < e.ids.length → ∀ g o, e.na = some ⟨g, o, none⟩ → g ≠ x) (u0 u1 u2 : Value) : CacheAt (((w.setCell ⟨x, 0, none⟩ u0).setCell ⟨x, 1, none⟩ u1).setCell ⟨x, 2, none⟩ u2) N cb size hits v E :=
  ((h.put x 0 h1 h2 h3 u0).put x 1 h1 h2 h3 u1).put x 2 h1 h2 h3 u2
theorem nodes_new {w : World} {M N cb : Nat} {v : Value} {na : Option Addr} {nc : Nat} {ids : List Int} (hr : w.ownsRow M 3 1 (.slice na ids.length nc) ids.length (ids.map (Value.int .i64))) (h1 : N ≤ M) (h2 : cb < M) (h3 : ∀ g, v.ownBlock = some g → g < M) {k0 k1 k2 k3 k4 sh pg at_ : Int} {r : Bool} : NodesIn w N cb v ⟨k0, k1, k2, k3, k4, sh, pg, at_, r, ids, na, nc⟩ := by
  intro i hi
  obtain ⟨g, c, e⟩ := own_some' hr (by show 0 < ids.length; have : i < ids.length := hi; omega)
  simp only [Value.slice.injEq] at e
  obtain ⟨rfl, -, -⟩ := e
  have hl := hr.lt g rfl
  refine ⟨g, 0, rfl, by omega, hl.2, by omega, fun e => by have := h3 g e; omega, ?_⟩
  have hi' : i < ids.length := hi
  rw [Nat.zero_add, hr.cellAt i (by omega)]
  simp [List.getD, hi']
theorem CacheAt.hit {w : World} {N cb : Nat} {size hits : Int} {v : Value} {E : List EW} (h : CacheAt w N cb size hits v E) (x : Int) : CacheAt (w.setCell ⟨cb, 1, none⟩ (.int .i64 x)) N cb size x v E := by
  refine ⟨h.nb, by simpa using h.cl, ?_, World.cell?_setCell_same _ _ _ h.c1, ?_, fun j => by simpa using h.fr j, row_same' h.row (fun g hg => Below.heap_setCell _ _ _ _ (show g ≠ cb from fun e => h.ne (by rw [hg, e]))), h.ne, fun d hd i hi => ?_⟩
  · rw [World.cell?_setCell_other _ _ _ _ (by simp)]; exact h.c0
  · rw [World.cell?_setCell_other _ _ _ _ (by simp)]; exact h.c2
  · obtain ⟨g, o, a1, a2, a3, a4, a5, a6⟩ := h.nd d hd i hi
    exact ⟨g, o, a1, a2, by simpa using a3, a4, a5, (World.cell?_of_block (a := ⟨g, o + i, none⟩) (Below.heap_setCell _ _ _ _ (show g ≠ cb from a4))).trans a6⟩
theorem CacheAt.noNode {w : World} {N cb : Nat} {size hits : Int} {v : Value} {E : List EW} (h : CacheAt w N cb size hits v E) (x : Nat) (hx : w.heap.size ≤ x) : NoNode E x := fun e he hl g o hna => by
  obtain ⟨g2, o2, b1, b2, b3, b4, b5, b6⟩ := h.nd e he 0 hl
  rw [hna] at b1
  injection b1 with b1
  injection b1 with b1 b1'
  omega
theorem PlC.far1 {w : World} {b : Nat} {x y : Int} {r : Bool} (h : PlC w b x y r) (g j : Nat) (hg : b ≠ g) (u : Value) : PlC (w.setCell ⟨g, j, none⟩ u) b x y r :=
  h.same (by simp) (set_heap _ _ _ _ _ hg)
/-- A new way, from what a walk told. -/
theorem ways_more {a b : Shp} {th : Nat → Bool} {vr_ : Nat → Int} {W : Nat → Nat → Value} {th2 : Nat → Bool} {vr2 : Nat → Int} {E : List EW} {k0 k1 k2 k3 k4 pg at_ : Int} {ad : Nat} {r : Bool} {ids : List Int} {na : Option Addr} {nc : Nat} (ok : WaysOk a b th vr_ W th2 vr2 E) (hw : Way a b th vr_ W th2 vr2 k0 k1 k2 k3 k4 5 ad false ids pg at_ r 0) : WaysOk a b th vr_ W th2 vr2 (E ++ [⟨k0, k1, k2, k3, k4, (ad : Int) / 32, pg, at_, r, ids, na, nc⟩]) := by
  intro e he
  rcases List.mem_append.1 he with he | he
  · exact ok e he
  · simp at he
    subst he
    exact ⟨by show (0 : Int) ≤ (ad : Int) / 32; omega, (hw.sheet rfl).2⟩
/-- What is remembered is what a walk tells. -/
theorem ways_hit {a b : Shp} {th : Nat → Bool} {vr_ : Nat → Int} {W : Nat → Nat → Value} {th2 : Nat → Bool} {vr2 : Nat → Int} {E : List EW} {k0 k1 k2 k3 k4 pg at_ f : Int} {ad : Nat} {r : Bool} {ids : List Int} (ok : WaysOk a b th vr_ W th2 vr2 E) (hw : Way a b th vr_ W th2 vr2 k0 k1 k2 k3 k4 5 ad false ids pg at_ r f) {d : EW} (hd : d ∈ E) (hi : d.is k0 k1 k2 k3 k4 ((ad : Int) / 32) = true) : d.pg = pg ∧ d.ro = r ∧ f = 0 ∧ at_ = (ad : Int) % 32 := by
  simp only [EW.is, Bool.and_eq_true, beq_iff_eq] at hi
  obtain ⟨e0, e1, e2, e3, e4, e5⟩ := hi
  have h := (ok d hd).2 ((ad : Int) % 32) (by omega) (by omega)
  rw [e0, e1, e2, e3, e4, e5, show (ad : Int) / 32 * 32 + (ad : Int) % 32 = ad by omega] at h
  obtain ⟨_, h2, h3, h4, h5⟩ := h.det hw
  exact ⟨h2, h4, h5.symm, h3.symm⟩
set_option maxRecDepth 100000 in
set_option maxHeartbeats 8000000 in
theorem cfind_is {S : Nat} {a b : Shp} {th : Nat → Bool} {vr_ : Nat → Int} {W : Nat → Nat → Value} {th2 : Nat → Bool} {vr2 : Nat → Int} {W2 : Nat → Nat → Int} {N cb : Nat} {size hits : Int} {v : Value} {E : List EW} (k0 k1 k2 k3 k4 : Int) (ad : Nat) (had : ad ≤ 4294967295) (ids : List Int) (pg at_ : Int) (r : Bool) (f : Int) (n : Nat) (hn : Hid (E.length = n)) (hroom : Hid ((n : Int) < size)) (hn64 : n ≤ 63) (hh : Hid (0 ≤ hits ∧ hits ≤ 1000000)) (hw : Hid (Way a b th vr_ W th2 vr2 k0 k1 k2 k3 k4 5 ad false ids pg at_ r f)) (ok : Hid (WaysOk a b th vr_ W th2 vr2 E)) (w : World) (h : (StAt w S a b th vr_ W th2 vr2 W2)) (ca : CacheAt w N cb size hits v E) (hN : N ≤ w.heap.size) :
    Calls Tryd.prog 78 #[.pointer (some ⟨cb, 0, none⟩), .pointer (some ⟨S, 0, none⟩), (Value.agg #[.int .i64 k0, .int .i64 k1, .int .i64 k2, .int .i64 k3, .int .u32 k4]), .int .u32 (ad : Int)] w fun e w' => e = .returned (.tuple #[.agg #[.int .i64 pg, .int .i64 at_, .bool r], .int .i64 f]) ∧ Below N w w' ∧ ∃ hits' v' E', CacheAt w' N cb size hits' v' E' ∧ WaysOk a b th vr_ W th2 vr2 E' ∧ E'.length ≤ n + 1 ∧ hits ≤ hits' ∧ hits' ≤ hits + 1 ∧ KeepB w w' cb v ∧ (v'.ownBlock = v.ownBlock ∨ ∃ g, w.heap.size ≤ g ∧ v'.ownBlock = some g) ∧ (∀ x, x < w.heap.size → NoNode E x → NoNode E' x) := by
  have H := Lib.hid h
  have HCA := Lib.hid ca
  have HN := Lib.hid hN
  obtain ⟨va, vc, hv⟩ := ca.shape
  rw [hn.out] at hv
  subst hv
  clear h ca hN
  go_enter Tryd.func78, Tryd.ntmps78
  go_upto_region 2 with fail
  obtain ⟨wB, hwB⟩ : ∃ wB, wB = ((w.alloc (.cells #[.int .i64 k0, .int .i64 k1, .int .i64 k2, .int .i64 k3, .int .u32 k4] 27 (0, 0))).alloc (.cells #[.int .i64 0, .int .i64 0, .bool false] 145 (0, 0))).alloc (.cells #[.int .i64 k0, .int .i64 k1, .int .i64 k2, .int .i64 k3, .int .u32 k4, .int .u32 ((ad : Int) / 32)] 193 (0, 0)) := ⟨_, rfl⟩
  rw [← hwB]
  have HB1 : Hid (Below w.heap.size w wB) := Lib.hid (by rw [hwB]; exact (((Below.refl _ _).alloc (Nat.le_refl _) _ : Below w.heap.size w _).alloc (by simp) _).alloc (by simp; omega) _)
  have HKR1 : Hid (KeyC wB w.heap.size k0 k1 k2 k3 k4) := Lib.hid (by rw [hwB]; exact key_new1 _ _ _ _ _ _ _ _ _)
  have HPR1 : Hid (PlC wB (w.heap.size + 1) 0 0 false) := Lib.hid (by rw [hwB]; exact PlC.new2 _ _ _ _ _ _ _)
  have HF1 : Hid (FromAt wB (w.heap.size + 1 + 1) k0 k1 k2 k3 k4 ((ad : Int) / 32)) := Lib.hid (by rw [hwB]; exact from_new _ _ _ _ _ _ _ _ _ _)
  have H1 := Lib.hid (H.out.below HB1.out)
  have HC1 := Lib.hid (HCA.out.below HB1.out)
  have c2 := HC1.out.c2
  clear hwB
  have hn64' : n ≤ 64 := by omega
  have r1 : IntKind.i64.wrap ((ad : Int) % 32) = (ad : Int) % 32 := by rw [IntKind.wrap_i64]; omega
  rcases firstE (fun e => e.is k0 k1 k2 k3 k4 ((ad : Int) / 32)) E with hno | ⟨j, d, hj, hyes, hno⟩
  · have HNO := Lib.hid hno
    clear hno
    by_cases hf : f = 0
    · subst hf
      go_upto_region 10 with (first
        | (go_at_call 92; (with_reducible refine (cindex_none k0 k1 k2 k3 k4 ((ad : Int) / 32) hn hn64' HNO _ HC1.out HF1.out).mono ?_); rintro e w2 ⟨rfl, hb⟩; have HB2 := Lib.hid (HB1.out.trans (hb.mono HB1.out.size)); have HKR2 := Lib.hid (HKR1.out.below hb); have HPR2 := Lib.hid (HPR1.out.below hb); have HF2 := Lib.hid (HF1.out.below hb); have H2 := Lib.hid (H1.out.below hb); have HC2 := Lib.hid (HC1.out.below hb); have q0 := HKR2.out.c0; have q1 := HKR2.out.c1; have q2 := HKR2.out.c2; have q3 := HKR2.out.c3; have q4 := HKR2.out.c4; clear hb c2)
        | (go_at_call 94; (with_reducible refine (pWalk_is k0 k1 k2 k3 k4 _ ids pg at_ r 0 hw _ H2.out).mono ?_); rintro e w3 ⟨rfl, hb⟩; have hb' := hb.alloc hb.size (.cells #[.int .i64 pg, .int .i64 at_, .bool r] 145 (0, 0)); have HB3 := Lib.hid (HB2.out.trans (hb'.mono HB2.out.size)); have HKR3 := Lib.hid (HKR2.out.below hb'); have HPR3 := Lib.hid (HPR2.out.below hb'); have HF3 := Lib.hid (HF2.out.below hb'); have H3 := Lib.hid (H2.out.below hb'); have HC3 := Lib.hid (HC2.out.below hb'); have HQ3 := Lib.hid (PlC.new w3 pg at_ r 145); have HZ3 := Lib.hid hb.size; have HLQ := Lib.hid (Nat.lt_of_lt_of_le HF2.out.lt hb.size); clear hb hb' q0 q1 q2 q3 q4))
      obtain ⟨qb, hqb⟩ : ∃ qb, Hid (w3.heap.size = qb) := ⟨_, Lib.hid rfl⟩
      rw [hqb.out] at HQ3 ⊢
      obtain ⟨wP, hwP⟩ : ∃ wP, wP = w3.alloc (.cells #[.int .i64 pg, .int .i64 at_, .bool r] 145 (0, 0)) := ⟨_, rfl⟩
      rw [← hwP] at HB3 HKR3 HPR3 HF3 H3 HC3 HQ3 ⊢
      clear hwP
      have HQB : Hid (w.heap.size + 1 + 1 < qb) := Lib.hid (by rw [← hqb.out]; exact HLQ.out)
      have HS3 : Hid (∀ w', KeyC w' w.heap.size k0 k1 k2 k3 k4 → FromAt w' (w.heap.size + 1 + 1) k0 k1 k2 k3 k4 ((ad : Int) / 32) → PlC w' qb pg at_ r → ((World.cell? w' ⟨w.heap.size, 0, none⟩ = some (.int .i64 k0) ∧ World.cell? w' ⟨w.heap.size, 1, none⟩ = some (.int .i64 k1) ∧ World.cell? w' ⟨w.heap.size, 2, none⟩ = some (.int .i64 k2) ∧ World.cell? w' ⟨w.heap.size, 3, none⟩ = some (.int .i64 k3) ∧ World.cell? w' ⟨w.heap.size, 4, none⟩ = some (.int .u32 k4)) ∧ (World.cell? w' ⟨w.heap.size + 1 + 1, 0, none⟩ = some (.int .i64 k0) ∧ World.cell? w' ⟨w.heap.size + 1 + 1, 1, none⟩ = some (.int .i64 k1) ∧ World.cell? w' ⟨w.heap.size + 1 + 1, 2, none⟩ = some (.int .i64 k2) ∧ World.cell? w' ⟨w.heap.size + 1 + 1, 3, none⟩ = some (.int .i64 k3) ∧ World.cell? w' ⟨w.heap.size + 1 + 1, 4, none⟩ = some (.int .u32 k4) ∧ World.cell? w' ⟨w.heap.size + 1 + 1, 5, none⟩ = some (.int .u32 ((ad : Int) / 32))) ∧ (World.cell? w' ⟨qb, 0, none⟩ = some (.int .i64 pg) ∧ World.cell? w' ⟨qb, 1, none⟩ = some (.int .i64 at_) ∧ World.cell? w' ⟨qb, 2, none⟩ = some (.bool r)))) := Lib.hid (fun w' h1 h2 h3 => ⟨⟨h1.c0, h1.c1, h1.c2, h1.c3, h1.c4⟩, ⟨h2.c0, h2.c1, h2.c2, h2.c3, h2.c4, h2.c5⟩, ⟨h3.c0, h3.c1, h3.c2⟩⟩)
      have hd := (Below.refl wP.heap.size wP).drew
      have HB4 := Lib.hid (HB3.out.trans (hd.mono HB3.out.size))
      have HKR4 := Lib.hid (HKR3.out.below hd)
      have HPR4 := Lib.hid (HPR3.out.below hd)
      have HF4 := Lib.hid (HF3.out.below hd)
      have H4 := Lib.hid (H3.out.below hd)
      have HC4 := Lib.hid (HC3.out.below hd)
      have HQ4 := Lib.hid (HQ3.out.below hd)
      refine wp_region_noPanic ?_
      refine wp_region_held_drew (S := fun w' => ((World.cell? w' ⟨w.heap.size, 0, none⟩ = some (.int .i64 k0) ∧ World.cell? w' ⟨w.heap.size, 1, none⟩ = some (.int .i64 k1) ∧ World.cell? w' ⟨w.heap.size, 2, none⟩ = some (.int .i64 k2) ∧ World.cell? w' ⟨w.heap.size, 3, none⟩ = some (.int .i64 k3) ∧ World.cell? w' ⟨w.heap.size, 4, none⟩ = some (.int .u32 k4)) ∧ (World.cell? w' ⟨w.heap.size + 1 + 1, 0, none⟩ = some (.int .i64 k0) ∧ World.cell? w' ⟨w.heap.size + 1 + 1, 1, none⟩ = some (.int .i64 k1) ∧ World.cell? w' ⟨w.heap.size + 1 + 1, 2, none⟩ = some (.int .i64 k2) ∧ World.cell? w' ⟨w.heap.size + 1 + 1, 3, none⟩ = some (.int .i64 k3) ∧ World.cell? w' ⟨w.heap.size + 1 + 1, 4, none⟩ = some (.int .u32 k4) ∧ World.cell? w' ⟨w.heap.size + 1 + 1, 5, none⟩ = some (.int .u32 ((ad : Int) / 32))) ∧ (World.cell? w' ⟨qb, 0, none⟩ = some (.int .i64 pg) ∧ World.cell? w' ⟨qb, 1, none⟩ = some (.int .i64 at_) ∧ World.cell? w' ⟨qb, 2, none⟩ = some (.bool r)))) (by kernel_rfl) (HS3.out _ HKR4.out HF4.out HQ4.out) (fun hHeld => ?_)
      clear hd
      refine wpAnyH_take (i := 0) (v := ?_) (by rfl) (by kernel_rfl) (by kernel_rfl) (by kernel_rfl) (fun _ _ _ h => h) (Or.inl ⟨by kernel_rfl, ?_⟩) (by assumption) ?_; rotate_left 1; (focus (intro w hSw; (try dsimp only at hSw); simp only [List.getElem_toArray, List.getElem_cons_succ, List.getElem_cons_zero]; all_goals go_simp; all_goals (try with_reducible rfl))); (try simp only [Act.put, List.getElem_toArray, List.getElem_cons_succ, List.getElem_cons_zero, List.setIfInBounds_toArray, List.set_cons_zero, List.set_cons_succ])
      refine wpAnyH_take (i := 1) (v := ?_) (by rfl) (by kernel_rfl) (by kernel_rfl) (by kernel_rfl) (fun _ _ _ h => h) (Or.inl ⟨by kernel_rfl, ?_⟩) (by assumption) ?_; rotate_left 1; (focus (intro w hSw; (try dsimp only at hSw); simp only [List.getElem_toArray, List.getElem_cons_succ, List.getElem_cons_zero]; all_goals go_simp; all_goals (try with_reducible rfl))); (try simp only [Act.put, List.getElem_toArray, List.getElem_cons_succ, List.getElem_cons_zero, List.setIfInBounds_toArray, List.set_cons_zero, List.set_cons_succ])
      refine wpAnyH_take (i := 2) (v := ?_) (by rfl) (by kernel_rfl) (by kernel_rfl) (by kernel_rfl) (fun _ _ _ h => h) (Or.inl ⟨by kernel_rfl, ?_⟩) (by assumption) ?_; rotate_left 1; (focus (intro w hSw; (try dsimp only at hSw); simp only [List.getElem_toArray, List.getElem_cons_succ, List.getElem_cons_zero]; all_goals go_simp; all_goals (try with_reducible rfl))); (try simp only [Act.put, List.getElem_toArray, List.getElem_cons_succ, List.getElem_cons_zero, List.setIfInBounds_toArray, List.set_cons_zero, List.set_cons_succ])
      refine wpAnyH_take (i := 3) (v := ?_) (by rfl) (by kernel_rfl) (by kernel_rfl) (by kernel_rfl) (fun _ _ _ h => h) (Or.inl ⟨by kernel_rfl, ?_⟩) (by assumption) ?_; rotate_left 1; (focus (intro w hSw; (try dsimp only at hSw); simp only [List.getElem_toArray, List.getElem_cons_succ, List.getElem_cons_zero]; all_goals go_simp; all_goals (try with_reducible rfl))); (try simp only [Act.put, List.getElem_toArray, List.getElem_cons_succ, List.getElem_cons_zero, List.setIfInBounds_toArray, List.set_cons_zero, List.set_cons_succ])
      refine wpAnyH_take (i := 4) (v := ?_) (by rfl) (by kernel_rfl) (by kernel_rfl) (by kernel_rfl) (fun _ _ _ h => h) (Or.inl ⟨by kernel_rfl, ?_⟩) (by assumption) ?_; rotate_left 1; (focus (intro w hSw; (try dsimp only at hSw); simp only [List.getElem_toArray, List.getElem_cons_succ, List.getElem_cons_zero]; all_goals go_simp; all_goals (try with_reducible rfl))); (try simp only [Act.put, List.getElem_toArray, List.getElem_cons_succ, List.getElem_cons_zero, List.setIfInBounds_toArray, List.set_cons_zero, List.set_cons_succ])
      refine wpAnyH_take (i := 5) (v := ?_) (by rfl) (by kernel_rfl) (by kernel_rfl) (by kernel_rfl) (fun _ _ _ h => h) (Or.inl ⟨by kernel_rfl, ?_⟩) (by assumption) ?_; rotate_left 1; (focus (intro w hSw; (try dsimp only at hSw); simp only [List.getElem_toArray, List.getElem_cons_succ, List.getElem_cons_zero]; all_goals go_simp; all_goals (try with_reducible rfl))); (try simp only [Act.put, List.getElem_toArray, List.getElem_cons_succ, List.getElem_cons_zero, List.setIfInBounds_toArray, List.set_cons_zero, List.set_cons_succ])
      have HIL : Hid (ids.length ≤ 100) := Lib.hid (by have := hw.out.ids_len; omega)
      refine wpAnyH_ready (rs := [6]) (by kernel_rfl) (by simp) ?_; refine AllReadyH.cons (by rfl) (fun K hK => ?_) AllReadyH.nil; rw [if_pos (by kernel_rfl)]; simp only [List.getElem_toArray, List.getElem_cons_succ, List.getElem_cons_zero]
      go_wp2_with (first
        | (go_at_call 96; (with_reducible refine (pNodes_is k0 k1 k2 k3 k4 _ ids HIL pg at_ r 0 hw _ H4.out).mono ?_); rintro e w5 ⟨vn, rfl, hr, hb⟩; obtain ⟨na, nc, rfl⟩ := own_shape' hr; have HRn := Lib.hid hr; have HB5 := Lib.hid (HB4.out.trans (hb.mono HB4.out.size)); have HKR5 := Lib.hid (HKR4.out.below hb); have HPR5 := Lib.hid (HPR4.out.below hb); have HF5 := Lib.hid (HF4.out.below hb); have HC5 := Lib.hid (HC4.out.below hb); have HQ5 := Lib.hid (HQ4.out.below hb); clear hr hb))
      refine hK.out _ _ (HS3.out _ HKR5.out HF5.out HQ5.out) (fun hHeld => ?_)
      clear hK K
      (try simp only [Act.put, List.getElem_toArray, List.getElem_cons_succ, List.getElem_cons_zero, List.setIfInBounds_toArray, List.set_cons_zero, List.set_cons_succ])
      refine wpAnyH_take (i := 7) (v := ?_) (by rfl) (by kernel_rfl) (by kernel_rfl) (by kernel_rfl) (fun _ _ _ h => h) (Or.inl ⟨by kernel_rfl, ?_⟩) (by assumption) ?_; rotate_left 1; (focus (intro w hSw; (try dsimp only at hSw); simp only [List.getElem_toArray, List.getElem_cons_succ, List.getElem_cons_zero]; all_goals go_simp; all_goals (try with_reducible rfl))); (try simp only [Act.put, List.getElem_toArray, List.getElem_cons_succ, List.getElem_cons_zero, List.setIfInBounds_toArray, List.set_cons_zero, List.set_cons_succ])
      refine wpAnyH_ready (rs := [8]) (by kernel_rfl) (by simp) ?_; refine AllReadyH.cons (by rfl) (fun K hK => ?_) AllReadyH.nil; rw [if_pos (by kernel_rfl)]; simp only [List.getElem_toArray, List.getElem_cons_succ, List.getElem_cons_zero]
      have HND : Hid (NodesIn w5 N cb (.slice va n vc) ⟨k0, k1, k2, k3, k4, (ad : Int) / 32, pg, at_, r, ids, na, nc⟩) := Lib.hid (nodes_new HRn.out (by have := HB4.out.size; have := HN.out; omega) (by have := HB4.out.size; have := HCA.out.cl; omega) (fun g e => by have := (HCA.out.row.lt g e).2; have := HB4.out.size; omega))
      have HN5 : Hid (N ≤ w5.heap.size) := Lib.hid (Nat.le_trans HN.out HB5.out.size)
      have HOw : Hid (∀ g, (Value.slice va n vc).ownBlock = some g → g < w.heap.size) := Lib.hid (fun g e => (HCA.out.row.lt g e).2)
      have HCl : Hid (cb < w.heap.size) := Lib.hid HCA.out.cl
      go_wp2_with (first
        | (go_at_call 95; (with_reducible refine (cremember_is ⟨k0, k1, k2, k3, k4, (ad : Int) / 32, pg, at_, r, ids, na, nc⟩ n hn hroom.out hn64' _ HC5.out HND.out HN5.out).mono ?_); rintro e w6 ⟨rfl, v', hC6, hB6, hK6, hO6⟩; have HC6 := Lib.hid hC6; have HB6 := Lib.hid hB6; have HK6 := Lib.hid hK6; have HO6 := Lib.hid hO6; clear hC6 hB6 hK6 hO6))
      have HKR6 := Lib.hid (HKR5.out.same' HK6.out.1 (HK6.out.2 _ HKR5.out.lt (by have := HCl.out; omega) (fun e => by have := HOw.out _ e; omega)))
      have HPR6 := Lib.hid (HPR5.out.same HK6.out.1 (HK6.out.2 _ HPR5.out.lt (by have := HCl.out; omega) (fun e => by have := HOw.out _ e; omega)))
      have HF6 := Lib.hid (HF5.out.same HK6.out.1 (HK6.out.2 _ HF5.out.lt (by have := HCl.out; omega) (fun e => by have := HOw.out _ e; omega)))
      have HQ6 := Lib.hid (HQ5.out.same HK6.out.1 (HK6.out.2 _ HQ5.out.lt (by have := HCl.out; have := HQB.out; omega) (fun e => by have := HOw.out _ e; have := HQB.out; omega)))
      refine hK.out _ _ (HS3.out _ HKR6.out HF6.out HQ6.out) (fun hHeld => ?_)
      clear hK K
      (try simp only [Act.put, List.getElem_toArray, List.getElem_cons_succ, List.getElem_cons_zero, List.setIfInBounds_toArray, List.set_cons_zero, List.set_cons_succ])
      refine wpAnyH_done (by kernel_rfl) ?_ _
      refine NoPanic.normal ?_
      have a0 := HQ6.out.c0
      have a1 := HQ6.out.c1
      have a2 := HQ6.out.c2
      have p0 := HPR6.out.c0
      have p1 := HPR6.out.c1
      have p2 := HPR6.out.c2
      have pf0 := HPR6.out.fr 0
      have pf1 := HPR6.out.fr 1
      have pf2 := HPR6.out.fr 2
      go_wp2_with fail
      have t := HPR6.out.set pg at_ r
      have t0 := t.c0
      have t1 := t.c1
      have t2 := t.c2
      refine bodyPost_ret (v := .tuple #[.agg #[.int .i64 pg, .int .i64 at_, .bool r], .int .i64 0]) (by simp [results, Tryd.results78, go_sem, t0, t1, t2]) rfl ⟨rfl, ?_⟩
      have hb := set3_below ((HB5.out.mono HN.out).trans HB6.out) (show N ≤ w.heap.size + 1 by have := HN.out; omega) (.int .i64 pg) (.int .i64 at_) (.bool r)
      have hs5 := HB5.out.size
      refine ⟨hb, hits, v', _, HC6.out.put3 (w.heap.size + 1) (by have := HCl.out; omega) ?_ ?_ _ _ _, ways_more ok.out hw.out, by have := hn.out; simp; omega, by omega, by omega, ⟨hb.size, fun k hk hkc hkv => ?_⟩, HO6.out.imp id (fun ⟨g, hg, e⟩ => ⟨g, by omega, e⟩), fun x hx hE e he hl g o hna => ?_⟩
      · intro e
        rcases HO6.out with e' | ⟨g, hg, e'⟩
        · rw [e'] at e; have := HOw.out _ e; omega
        · rw [e'] at e; injection e with e; have := HQB.out; have := HQ5.out.lt; omega
      · intro e he hl g o hna
        rcases List.mem_append.1 he with he | he
        · obtain ⟨g', o', b1, b2, b3, b4, b5, b6⟩ := HCA.out.nd e he 0 hl
          rw [hna] at b1
          injection b1 with b1
          injection b1 with b1 b1'
          omega
        · simp at he
          subst he
          obtain ⟨g', c', e2⟩ := own_some' HRn.out hl
          have hna' : na = some ⟨g, o, none⟩ := hna
          rw [hna'] at e2
          simp only [Value.slice.injEq, Option.some.injEq, Addr.mk.injEq] at e2
          have := (HRn.out.lt g (by rw [hna']; simp [Value.ownBlock])).1
          have := HB4.out.size
          have := HQ4.out.lt
          have := HQB.out
          omega
      · rw [set_heap _ _ _ _ _ (by omega), set_heap _ _ _ _ _ (by omega), set_heap _ _ _ _ _ (by omega), HK6.out.2 k (by omega) hkc hkv]
        exact HB5.out.block k hk
      · rcases List.mem_append.1 he with he | he
        · exact hE e he hl g o hna
        · simp at he
          subst he
          have hna' : na = some ⟨g, o, none⟩ := hna
          have h1 := (HRn.out.lt g (by rw [hna']; simp [Value.ownBlock])).1
          have h2 := HB4.out.size
          omega
    · go_wp2_with (first
        | (go_at_call 92; (with_reducible refine (cindex_none k0 k1 k2 k3 k4 ((ad : Int) / 32) hn hn64' HNO _ HC1.out HF1.out).mono ?_); rintro e w2 ⟨rfl, hb⟩; have HB2 := Lib.hid (HB1.out.trans (hb.mono HB1.out.size)); have HKR2 := Lib.hid (HKR1.out.below hb); have HPR2 := Lib.hid (HPR1.out.below hb); have HF2 := Lib.hid (HF1.out.below hb); have H2 := Lib.hid (H1.out.below hb); have HC2 := Lib.hid (HC1.out.below hb); have q0 := HKR2.out.c0; have q1 := HKR2.out.c1; have q2 := HKR2.out.c2; have q3 := HKR2.out.c3; have q4 := HKR2.out.c4; clear hb c2)
        | (go_at_call 94; (with_reducible refine (pWalk_is k0 k1 k2 k3 k4 _ ids pg at_ r f hw _ H2.out).mono ?_); rintro e w3 ⟨rfl, hb⟩; have hb' := hb.alloc hb.size (.cells #[.int .i64 pg, .int .i64 at_, .bool r] 145 (0, 0)); have HB3 := Lib.hid (HB2.out.trans (hb'.mono HB2.out.size)); have HKR3 := Lib.hid (HKR2.out.below hb'); have HPR3 := Lib.hid (HPR2.out.below hb'); have HF3 := Lib.hid (HF2.out.below hb'); have H3 := Lib.hid (H2.out.below hb'); have HC3 := Lib.hid (HC2.out.below hb'); have p0 := HPR3.out.c0; have p1 := HPR3.out.c1; have p2 := HPR3.out.c2; have pf0 := HPR3.out.fr 0; have pf1 := HPR3.out.fr 1; have pf2 := HPR3.out.fr 2; clear hb hb' q0 q1 q2 q3 q4))
      have t := HPR3.out.set pg at_ r
      have t0 := t.c0
      have t1 := t.c1
      have t2 := t.c2
      refine bodyPost_ret (v := .tuple #[.agg #[.int .i64 pg, .int .i64 at_, .bool r], .int .i64 f]) (by simp [results, Tryd.results78, go_sem, t0, t1, t2]) rfl ⟨rfl, ?_⟩
      have hb := set3_below HB3.out (show w.heap.size ≤ w.heap.size + 1 by omega) (.int .i64 pg) (.int .i64 at_) (.bool r)
      exact ⟨hb.mono HN.out, hits, _, E, HCA.out.below hb, ok.out, by have := hn.out; omega, by omega, by omega, ⟨hb.size, fun k hk _ _ => hb.block k hk⟩, .inl rfl, fun _ _ h => h⟩
  · obtain ⟨e1, e2, rfl, rfl⟩ := ways_hit ok.out hw.out (List.mem_of_getElem? hj) hyes
    have HNO : Hid (∀ (i : Nat) (e : EW), i < j → E[i]? = some e → e.is k0 k1 k2 k3 k4 ((ad : Int) / 32) = false) := Lib.hid hno
    have HJ := Lib.hid hj
    have HY : Hid (d.is k0 k1 k2 k3 k4 ((ad : Int) / 32) = true) := Lib.hid hyes
    have hjn : j < n := by
      rw [← hn.out]
      rcases Nat.lt_or_ge j E.length with h' | h'
      · exact h'
      · rw [List.getElem?_eq_none h'] at hj; cases hj
    obtain ⟨g, cc, hgv⟩ := HC1.out.row1 (by rw [hn.out]; omega)
    simp only [Value.slice.injEq] at hgv
    obtain ⟨rfl, -, -⟩ := hgv
    have hgc : ¬ g = cb := fun e => HC1.out.ne (by simp [Value.ownBlock, e])
    have HOw : Hid (g < w.heap.size) := Lib.hid (HCA.out.row.lt g (by simp [Value.ownBlock])).2
    have HCl : Hid (cb < w.heap.size) := Lib.hid HCA.out.cl
    have hpc : ¬ w.heap.size + 1 = cb := by have := HCl.out; omega
    have j0 : (0 : Int) ≤ j := by omega
    have j1 : (j : Int) < n := by omega
    have hh0 : 0 ≤ hits := hh.out.1
    have hh1 : hits ≤ 1000000 := hh.out.2
    have HE1 := Lib.hid e1
    have HE2 := Lib.hid e2
    have m0 : (0 : Int) ≤ (ad : Int) % 32 := by omega
    have m1 : (ad : Int) % 32 < 32 := by omega
    clear hno hj hyes e1 e2
    go_wp2_with (first
      | (go_at_call 92; (with_reducible refine (cindex_at k0 k1 k2 k3 k4 ((ad : Int) / 32) hn hn64' j d HJ HY HNO _ HC1.out HF1.out).mono ?_); rintro e w2 ⟨rfl, hb⟩; have HB2 := Lib.hid (HB1.out.trans (hb.mono HB1.out.size)); have HPR2 := Lib.hid (HPR1.out.below hb); have HC2 := Lib.hid (HC1.out.below hb); have q1 := HC2.out.c1; have q2 := HC2.out.c2; have qf := HC2.out.fr 1; obtain ⟨z0, z1, z2, z3, z4, z5, z6, z7, z8, z9⟩ := HC2.out.way rfl j d HJ.out; rw [HE1.out] at z6; rw [HE2.out] at z8; have p0 := HPR2.out.c0; have p1 := HPR2.out.c1; have p2 := HPR2.out.c2; have pf0 := HPR2.out.fr 0; have pf1 := HPR2.out.fr 1; have pf2 := HPR2.out.fr 2; have hpl := HPR2.out.lt; clear hb c2 z0 z1 z2 z3 z4 z5 z9))
    have HH := Lib.hid (HC2.out.hit (hits + 1))
    have t := ((HPR2.out.far1 cb 1 (by omega) (.int .i64 (hits + 1))).set pg ((ad : Int) % 32) r).below ((Below.refl _ _).alloc (Nat.le_refl _) _ : Below _ _ (World.alloc _ (.cells #[.int .i64 pg, .int .i64 ((ad : Int) % 32), .bool r] 145 (0, 0))))
    have t0 := t.c0
    have t1 := t.c1
    have t2 := t.c2
    refine bodyPost_ret (v := .tuple #[.agg #[.int .i64 pg, .int .i64 ((ad : Int) % 32), .bool r], .int .i64 0]) (by simp [results, Tryd.results78, go_sem, t0, t1, t2]) rfl ⟨rfl, ?_⟩
    have hb0 : Below N w (w2.setCell ⟨cb, 1, none⟩ (.int .i64 (hits + 1))) := (HB2.out.mono HN.out).setCell HCA.out.nb _
    have hb := (set3_below hb0 (show N ≤ w.heap.size + 1 by have := HN.out; omega) (.int .i64 pg) (.int .i64 ((ad : Int) % 32)) (.bool r)).alloc (by have := HB2.out.size; have := HN.out; simp; omega) (.cells #[.int .i64 pg, .int .i64 ((ad : Int) % 32), .bool r] 145 (0, 0))
    refine ⟨hb, hits + 1, _, E, (HH.out.put3 (w.heap.size + 1) (by omega) (fun e => by have := HOw.out; simp [Value.ownBlock] at e; omega) (fun e he hl g' o hna => ?_) _ _ _).below ((Below.refl _ _).alloc (Nat.le_refl _) _), ok.out, by have := hn.out; omega, by omega, by omega, ⟨hb.size, fun k hk hkc hkv => ?_⟩, .inl rfl, fun _ _ h => h⟩
    obtain ⟨g2, o2, b1, b2, b3, b4, b5, b6⟩ := HCA.out.nd e he 0 hl
    rw [hna] at b1
    injection b1 with b1
    injection b1 with b1 b1'
    omega
    rw [((Below.refl _ _).alloc (Nat.le_refl _) _ : Below _ _ (World.alloc _ (.cells #[.int .i64 pg, .int .i64 ((ad : Int) % 32), .bool r] 145 (0, 0)))).block k (by have := HB2.out.size; simp; omega), set_heap _ _ _ _ _ (by omega), set_heap _ _ _ _ _ (by omega), set_heap _ _ _ _ _ (by omega), set_heap _ _ _ _ _ hkc]
    exact HB2.out.block k hk
end Go.Proofs.YtjkbfhojjjkgnaaDoor
namespace Go.Proofs.YtjkbfhojjjkgnaaDoor
open Go.ChangeShapes Go.WideShapes Go.ChangeAt Go.RowKit
set_option linter.unusedVariables false
set_option linter.unusedSimpArgs false
/-- A block that is none of the cache's. -/
def OutC (cb : Nat) (v : Value) (x : Nat) : Prop := x ≠ cb ∧ v.ownBlock ≠ some x
theorem OutC.next {cb : Nat} {v v' : Value} {x M : Nat} (h : OutC cb v x) (hx : x < M) (hv : v'.ownBlock = v.ownBlock ∨ ∃ g, M ≤ g ∧ v'.ownBlock = some g) : OutC cb v' x := by
  refine ⟨h.1, fun e => ?_⟩
  rcases hv with e' | ⟨g, hg, e'⟩
  · exact h.2 (by rw [← e', e])
  · rw [e'] at e; injection e with e; omega
/-- A memory over a law's start: a store, a cache over it. -/
structure MemAt (w0 w : World) (mb S : Nat) (a b : Shp) (N cb : Nat) (size : Int) (th : Nat → Bool) (vr_ : Nat → Int) (W : Nat → Nat → Value) (th2 : Nat → Bool) (vr2 : Nat → Int) (W2 : Nat → Nat → Int) (hits : Int) (v : Value) (E : List EW) : Prop where
  sv : SV w0 w S a b th vr_ W th2 vr2 W2
  lo : StLo S a b N
  n0 : w0.heap.size ≤ N
  nN : N ≤ w.heap.size
  m0 : w.cell? ⟨mb, 0, none⟩ = some (.pointer (some ⟨S, 0, none⟩))
  m1 : w.cell? ⟨mb, 1, none⟩ = some (.pointer (some ⟨cb, 0, none⟩))
  ml : mb < w.heap.size
  mn : N ≤ mb
  mo : OutC cb v mb
  ca : CacheAt w N cb size hits v E
  ok : WaysOk a b th vr_ W th2 vr2 E
section
variable {w w' : World}
theorem MemAt.below {w0 : World} {mb S : Nat} {a b : Shp} {N cb : Nat} {size : Int} {th : Nat → Bool} {vr_ : Nat → Int} {W : Nat → Nat → Value} {th2 : Nat → Bool} {vr2 : Nat → Int} {W2 : Nat → Nat → Int} {hits : Int} {v : Value} {E : List EW} (h : (MemAt w0 w mb S a b N cb size th vr_ W th2 vr2 W2 hits v E)) (hb : Below w.heap.size w w') : (MemAt w0 w' mb S a b N cb size th vr_ W th2 vr2 W2 hits v E) :=
  ⟨h.sv.step hb, h.lo, h.n0, Nat.le_trans h.nN hb.size, (hb.cell (p := ⟨mb, 0, none⟩) h.ml).trans h.m0, (hb.cell (p := ⟨mb, 1, none⟩) h.ml).trans h.m1, Nat.lt_of_lt_of_le h.ml hb.size, h.mn, h.mo, h.ca.below hb, h.ok⟩
theorem MemAt.found {w0 : World} {mb S : Nat} {a b : Shp} {N cb : Nat} {size : Int} {th : Nat → Bool} {vr_ : Nat → Int} {W : Nat → Nat → Value} {th2 : Nat → Bool} {vr2 : Nat → Int} {W2 : Nat → Nat → Int} {hits : Int} {v : Value} {E : List EW} (h : (MemAt w0 w mb S a b N cb size th vr_ W th2 vr2 W2 hits v E)) {hits' : Int} {v' : Value} {E' : List EW} (hb : Below N w w') (hc : CacheAt w' N cb size hits' v' E') (ok : WaysOk a b th vr_ W th2 vr2 E') (hk : KeepB w w' cb v) (hv : v'.ownBlock = v.ownBlock ∨ ∃ g, w.heap.size ≤ g ∧ v'.ownBlock = some g) : MemAt w0 w' mb S a b N cb size th vr_ W th2 vr2 W2 hits' v' E' := by
  have e := hk.2 mb h.ml h.mo.1 h.mo.2
  refine ⟨⟨h.sv.bel.trans (hb.mono h.n0), h.sv.wb, h.sv.st.under h.lo hk.1 (fun k hkN => hb.block k hkN)⟩, h.lo, h.n0, Nat.le_trans h.nN hk.1, (World.cell?_of_block (a := ⟨mb, 0, none⟩) e).trans h.m0, (World.cell?_of_block (a := ⟨mb, 1, none⟩) e).trans h.m1, Nat.lt_of_lt_of_le h.ml hk.1, h.mn, h.mo.next h.ml hv, hc, ok⟩
/-- The store's pages were written; the ways stay. -/
theorem MemAt.page {w0 : World} {mb S : Nat} {a b : Shp} {N cb : Nat} {size : Int} {th : Nat → Bool} {vr_ : Nat → Int} {W : Nat → Nat → Value} {th2 : Nat → Bool} {vr2 : Nat → Int} {W2 : Nat → Nat → Int} {hits : Int} {v : Value} {E : List EW} (h : (MemAt w0 w mb S a b N cb size th vr_ W th2 vr2 W2 hits v E)) {th2' : Nat → Bool} {vr2' : Nat → Int} {W2' : Nat → Nat → Int} (hP : PgAt w' b.b b.P b.p b.B b.G b.n b.c th2' vr2' W2') (hb : PBelow w w' b.B b.G) (ok : WaysOk a b th vr_ W th2' vr2' E) : MemAt w0 w' mb S a b N cb size th vr_ W th2' vr2' W2' hits v E := by
  have hl := h.lo.p
  have e := hb.2.2.2.2 mb h.ml (by have := h.mn; omega) (by have := h.mn; omega)
  exact ⟨h.sv.page hP hb, h.lo, h.n0, Nat.le_trans h.nN hb.2.2.2.1, (World.cell?_of_block (a := ⟨mb, 0, none⟩) e).trans h.m0, (World.cell?_of_block (a := ⟨mb, 1, none⟩) e).trans h.m1, Nat.lt_of_lt_of_le h.ml hb.2.2.2.1, h.mn, h.mo, h.ca.same hb.2.2.2.1 (fun k hk hks => hb.2.2.2.2 k hks (by omega) (by omega)), ok⟩
theorem MemAt.node {w0 : World} {mb S : Nat} {a b : Shp} {N cb : Nat} {size : Int} {th : Nat → Bool} {vr_ : Nat → Int} {W : Nat → Nat → Value} {th2 : Nat → Bool} {vr2 : Nat → Int} {W2 : Nat → Nat → Int} {hits : Int} {v : Value} {E : List EW} (h : (MemAt w0 w mb S a b N cb size th vr_ W th2 vr2 W2 hits v E)) {th' : Nat → Bool} {vr' : Nat → Int} {W' : Nat → Nat → Value} (hN : NdAt w' a.b a.P a.p a.B a.G a.n a.c th' vr' W') (hb : PBelow w w' a.B a.G) (ok : WaysOk a b th' vr' W' th2 vr2 E) : MemAt w0 w' mb S a b N cb size th' vr' W' th2 vr2 W2 hits v E := by
  have hl := h.lo.n
  have e := hb.2.2.2.2 mb h.ml (by have := h.mn; omega) (by have := h.mn; omega)
  exact ⟨h.sv.node hN hb, h.lo, h.n0, Nat.le_trans h.nN hb.2.2.2.1, (World.cell?_of_block (a := ⟨mb, 0, none⟩) e).trans h.m0, (World.cell?_of_block (a := ⟨mb, 1, none⟩) e).trans h.m1, Nat.lt_of_lt_of_le h.ml hb.2.2.2.1, h.mn, h.mo, h.ca.same hb.2.2.2.1 (fun k hk hks => hb.2.2.2.2 k hks (by omega) (by omega)), ok⟩
theorem MemAt.put {w0 : World} {mb S : Nat} {a b : Shp} {N cb : Nat} {size : Int} {th : Nat → Bool} {vr_ : Nat → Int} {W : Nat → Nat → Value} {th2 : Nat → Bool} {vr2 : Nat → Int} {W2 : Nat → Nat → Int} {hits : Int} {v : Value} {E : List EW} (h : (MemAt w0 w mb S a b N cb size th vr_ W th2 vr2 W2 hits v E)) (x j : Nat) (hx : N ≤ x) (h1 : cb ≠ x) (h2 : mb ≠ x) (h3 : v.ownBlock ≠ some x) (h4 : NoNode E x) (u : Value) : MemAt w0 (w.setCell ⟨x, j, none⟩ u) mb S a b N cb size th vr_ W th2 vr2 W2 hits v E := by
  have e := set_heap w x mb j u h2
  exact ⟨h.sv.put1 h.lo x j hx h.n0 u, h.lo, h.n0, by simpa using h.nN, (World.cell?_of_block (a := ⟨mb, 0, none⟩) e).trans h.m0, (World.cell?_of_block (a := ⟨mb, 1, none⟩) e).trans h.m1, by simpa using h.ml, h.mn, h.mo, h.ca.put x j h1 h3 h4 u, h.ok⟩
theorem MemAt.put3 {w0 : World} {mb S : Nat} {a b : Shp} {N cb : Nat} {size : Int} {th : Nat → Bool} {vr_ : Nat → Int} {W : Nat → Nat → Value} {th2 : Nat → Bool} {vr2 : Nat → Int} {W2 : Nat → Nat → Int} {hits : Int} {v : Value} {E : List EW} (h : (MemAt w0 w mb S a b N cb size th vr_ W th2 vr2 W2 hits v E)) (x : Nat) (hx : N ≤ x) (h1 : cb ≠ x) (h2 : mb ≠ x) (h3 : v.ownBlock ≠ some x) (h4 : NoNode E x) (u0 u1 u2 : Value) : MemAt w0 (((w.setCell ⟨x, 0, none⟩ u0).setCell ⟨x, 1, none⟩ u1).setCell ⟨x, 2, none⟩ u2) mb S a b N cb size th vr_ W th2 vr2 W2 hits v E :=
  ((h.put x 0 hx h1 h2 h3 h4 u0).put x 1 hx h1 h2 h3 h4 u1).put x 2 hx h1 h2 h3 h4 u2
end
theorem PlC.newB (w : World) (o : Obj) (x y : Int) (r : Bool) (T : TypeId) : PlC ((w.alloc o).alloc (.cells #[.int .i64 x, .int .i64 y, .bool r] T (0, 0))) (w.heap.size + 1) x y r := by
  have h := PlC.new (w.alloc o) x y r T
  rw [show (w.alloc o).heap.size = w.heap.size + 1 by simp] at h
  exact h
theorem ways_nil {a b : Shp} {th : Nat → Bool} {vr_ : Nat → Int} {W : Nat → Nat → Value} {th2 : Nat → Bool} {vr2 : Nat → Int} : WaysOk a b th vr_ W th2 vr2 [] := fun e he => by cases he
/-- Where a way leads to is a page that is there. -/
theorem Way.page_in {a b : Shp} {th : Nat → Bool} {vr_ : Nat → Int} {W : Nat → Nat → Value} {th2 : Nat → Bool} {vr2 : Nat → Int} {k0 k1 k2 k3 k4 below addr : Int} {ro : Bool} {ids : List Int} {pg at_ : Int} {r : Bool} {f : Int} (h : Way a b th vr_ W th2 vr2 k0 k1 k2 k3 k4 below addr ro ids pg at_ r f) (hf : f = 0) : ∃ i x : Nat, pg = i ∧ i < b.n ∧ th2 i = true ∧ at_ = x ∧ x < 32 := by
  induction h with
  | fault s t l f h0 hs hl hz hf' => subst hf; simp at hf'
  | page h0 a0 hl ha =>
    simp [liveB, thereB] at hl
    exact ⟨_, _, (Int.toNat_of_nonneg hl.1.1.1).symm, by omega, hl.1.2, (Int.toNat_of_nonneg a0).symm, by omega⟩
  | node h i q r0 p ad y0 y1 y2 y3 y4 hk hp ha had h1 h4 hl hd hi hn' ht hq hr hy next ih => exact ih hf
set_option maxRecDepth 100000 in
theorem mfind_is {w0 : World} {mb S : Nat} {a b : Shp} {N cb : Nat} {size : Int} {th : Nat → Bool} {vr_ : Nat → Int} {W : Nat → Nat → Value} {th2 : Nat → Bool} {vr2 : Nat → Int} {W2 : Nat → Nat → Int} {hits : Int} {v : Value} {E : List EW} (k0 k1 k2 k3 k4 : Int) (ad : Nat) (had : ad ≤ 4294967295) (ids : List Int) (pg at_ : Int) (r : Bool) (f : Int) (hroom : Hid ((E.length : Int) < size ∧ E.length ≤ 63)) (hh : Hid (0 ≤ hits ∧ hits ≤ 1000000)) (hw : Hid (Way a b th vr_ W th2 vr2 k0 k1 k2 k3 k4 5 ad false ids pg at_ r f)) (w : World) (h : (MemAt w0 w mb S a b N cb size th vr_ W th2 vr2 W2 hits v E)) :
    Calls Tryd.prog 58 #[.pointer (some ⟨mb, 0, none⟩), (Value.agg #[.int .i64 k0, .int .i64 k1, .int .i64 k2, .int .i64 k3, .int .u32 k4]), .int .u32 (ad : Int)] w fun e w' => e = .returned (.tuple #[.agg #[.int .i64 pg, .int .i64 at_, .bool r], .int .i64 f]) ∧ ∃ hits' v' E', MemAt w0 w' mb S a b N cb size th vr_ W th2 vr2 W2 hits' v' E' ∧ E'.length ≤ E.length + 1 ∧ hits ≤ hits' ∧ hits' ≤ hits + 1 ∧ KeepB w w' cb v ∧ (v'.ownBlock = v.ownBlock ∨ ∃ g, w.heap.size ≤ g ∧ v'.ownBlock = some g) := by
  have H := Lib.hid h
  clear h
  go_enter Tryd.func58, Tryd.ntmps58
  go_upto_region 1 with fail
  obtain ⟨wB, hwB⟩ : ∃ wB, wB = ((w.alloc (.cells #[.int .i64 k0, .int .i64 k1, .int .i64 k2, .int .i64 k3, .int .u32 k4] 27 (0, 0))).alloc (.cells #[.int .i64 0, .int .i64 0, .bool false] 145 (0, 0))).drew := ⟨_, rfl⟩
  have HBB : Hid (Below w.heap.size w wB) := Lib.hid (by rw [hwB]; exact (((Below.refl _ _).alloc (Nat.le_refl _) _ : Below w.heap.size w _).alloc (by simp) _).drew)
  have HKB : Hid (KeyC wB w.heap.size k0 k1 k2 k3 k4) := Lib.hid (by rw [hwB]; exact ((KeyC.new w k0 k1 k2 k3 k4 27).below ((Below.refl _ _).alloc (Nat.le_refl _) _)).below (Below.refl _ _).drew)
  have HPB : Hid (PlC wB (w.heap.size + 1) 0 0 false) := Lib.hid (by rw [hwB]; exact (PlC.newB w _ 0 0 false 145).below (Below.refl _ _).drew)
  have H2 := Lib.hid (H.out.below HBB.out)
  have HSz : Hid (wB.heap.size = w.heap.size + 1 + 1) := Lib.hid (by rw [hwB]; simp)
  have HS7 : Hid (∀ w', World.cell? w' ⟨mb, 0, none⟩ = some (.pointer (some ⟨S, 0, none⟩)) → World.cell? w' ⟨mb, 1, none⟩ = some (.pointer (some ⟨cb, 0, none⟩)) → KeyC w' w.heap.size k0 k1 k2 k3 k4 → (World.cell? w' ⟨mb, 0, none⟩ = some (.pointer (some ⟨S, 0, none⟩)) ∧ World.cell? w' ⟨mb, 1, none⟩ = some (.pointer (some ⟨cb, 0, none⟩)) ∧ World.cell? w' ⟨w.heap.size, 0, none⟩ = some (.int .i64 k0) ∧ World.cell? w' ⟨w.heap.size, 1, none⟩ = some (.int .i64 k1) ∧ World.cell? w' ⟨w.heap.size, 2, none⟩ = some (.int .i64 k2) ∧ World.cell? w' ⟨w.heap.size, 3, none⟩ = some (.int .i64 k3) ∧ World.cell? w' ⟨w.heap.size, 4, none⟩ = some (.int .u32 k4))) := Lib.hid (fun w' h0 h1 hk => ⟨h0, h1, hk.c0, hk.c1, hk.c2, hk.c3, hk.c4⟩)
  refine wp_region_noPanic ?_
  refine wp_region_held_drew (S := fun w' => (World.cell? w' ⟨mb, 0, none⟩ = some (.pointer (some ⟨S, 0, none⟩)) ∧ World.cell? w' ⟨mb, 1, none⟩ = some (.pointer (some ⟨cb, 0, none⟩)) ∧ World.cell? w' ⟨w.heap.size, 0, none⟩ = some (.int .i64 k0) ∧ World.cell? w' ⟨w.heap.size, 1, none⟩ = some (.int .i64 k1) ∧ World.cell? w' ⟨w.heap.size, 2, none⟩ = some (.int .i64 k2) ∧ World.cell? w' ⟨w.heap.size, 3, none⟩ = some (.int .i64 k3) ∧ World.cell? w' ⟨w.heap.size, 4, none⟩ = some (.int .u32 k4))) (by kernel_rfl) (by rw [← hwB]; exact HS7.out _ H2.out.m0 H2.out.m1 HKB.out) (fun hHeld => ?_)
  rw [← hwB] at hHeld ⊢
  clear hwB
  refine wpAnyH_take (i := 0) (v := ?_) (by rfl) (by kernel_rfl) (by kernel_rfl) (by kernel_rfl) (fun _ _ _ h => h) (Or.inl ⟨by kernel_rfl, ?_⟩) (by assumption) ?_; rotate_left 1; (focus (intro w hSw; (try dsimp only at hSw); simp only [List.getElem_toArray, List.getElem_cons_succ, List.getElem_cons_zero]; all_goals go_simp; all_goals (try with_reducible rfl))); (try simp only [Act.put, List.getElem_toArray, List.getElem_cons_succ, List.getElem_cons_zero, List.setIfInBounds_toArray, List.set_cons_zero, List.set_cons_succ])
  refine wpAnyH_take (i := 1) (v := ?_) (by rfl) (by kernel_rfl) (by kernel_rfl) (by kernel_rfl) (fun _ _ _ h => h) (Or.inl ⟨by kernel_rfl, ?_⟩) (by assumption) ?_; rotate_left 1; (focus (intro w hSw; (try dsimp only at hSw); simp only [List.getElem_toArray, List.getElem_cons_succ, List.getElem_cons_zero]; all_goals go_simp; all_goals (try with_reducible rfl))); (try simp only [Act.put, List.getElem_toArray, List.getElem_cons_succ, List.getElem_cons_zero, List.setIfInBounds_toArray, List.set_cons_zero, List.set_cons_succ])
  refine wpAnyH_take (i := 2) (v := ?_) (by rfl) (by kernel_rfl) (by kernel_rfl) (by kernel_rfl) (fun _ _ _ h => h) (Or.inl ⟨by kernel_rfl, ?_⟩) (by assumption) ?_; rotate_left 1; (focus (intro w hSw; (try dsimp only at hSw); simp only [List.getElem_toArray, List.getElem_cons_succ, List.getElem_cons_zero]; all_goals go_simp; all_goals (try with_reducible rfl))); (try simp only [Act.put, List.getElem_toArray, List.getElem_cons_succ, List.getElem_cons_zero, List.setIfInBounds_toArray, List.set_cons_zero, List.set_cons_succ])
  refine wpAnyH_take (i := 3) (v := ?_) (by rfl) (by kernel_rfl) (by kernel_rfl) (by kernel_rfl) (fun _ _ _ h => h) (Or.inl ⟨by kernel_rfl, ?_⟩) (by assumption) ?_; rotate_left 1; (focus (intro w hSw; (try dsimp only at hSw); simp only [List.getElem_toArray, List.getElem_cons_succ, List.getElem_cons_zero]; all_goals go_simp; all_goals (try with_reducible rfl))); (try simp only [Act.put, List.getElem_toArray, List.getElem_cons_succ, List.getElem_cons_zero, List.setIfInBounds_toArray, List.set_cons_zero, List.set_cons_succ])
  refine wpAnyH_take (i := 4) (v := ?_) (by rfl) (by kernel_rfl) (by kernel_rfl) (by kernel_rfl) (fun _ _ _ h => h) (Or.inl ⟨by kernel_rfl, ?_⟩) (by assumption) ?_; rotate_left 1; (focus (intro w hSw; (try dsimp only at hSw); simp only [List.getElem_toArray, List.getElem_cons_succ, List.getElem_cons_zero]; all_goals go_simp; all_goals (try with_reducible rfl))); (try simp only [Act.put, List.getElem_toArray, List.getElem_cons_succ, List.getElem_cons_zero, List.setIfInBounds_toArray, List.set_cons_zero, List.set_cons_succ])
  refine wpAnyH_take (i := 5) (v := ?_) (by rfl) (by kernel_rfl) (by kernel_rfl) (by kernel_rfl) (fun _ _ _ h => h) (Or.inl ⟨by kernel_rfl, ?_⟩) (by assumption) ?_; rotate_left 1; (focus (intro w hSw; (try dsimp only at hSw); simp only [List.getElem_toArray, List.getElem_cons_succ, List.getElem_cons_zero]; all_goals go_simp; all_goals (try with_reducible rfl))); (try simp only [Act.put, List.getElem_toArray, List.getElem_cons_succ, List.getElem_cons_zero, List.setIfInBounds_toArray, List.set_cons_zero, List.set_cons_succ])
  refine wpAnyH_take (i := 6) (v := ?_) (by rfl) (by kernel_rfl) (by kernel_rfl) (by kernel_rfl) (fun _ _ _ h => h) (Or.inl ⟨by kernel_rfl, ?_⟩) (by assumption) ?_; rotate_left 1; (focus (intro w hSw; (try dsimp only at hSw); simp only [List.getElem_toArray, List.getElem_cons_succ, List.getElem_cons_zero]; all_goals go_simp; all_goals (try with_reducible rfl))); (try simp only [Act.put, List.getElem_toArray, List.getElem_cons_succ, List.getElem_cons_zero, List.setIfInBounds_toArray, List.set_cons_zero, List.set_cons_succ])
  refine wpAnyH_take (i := 7) (v := ?_) (by rfl) (by kernel_rfl) (by kernel_rfl) (by kernel_rfl) (fun _ _ _ h => h) (Or.inl ⟨by kernel_rfl, ?_⟩) (by assumption) ?_; rotate_left 1; (focus (intro w hSw; (try dsimp only at hSw); simp only [List.getElem_toArray, List.getElem_cons_succ, List.getElem_cons_zero]; all_goals go_simp; all_goals (try with_reducible rfl))); (try simp only [Act.put, List.getElem_toArray, List.getElem_cons_succ, List.getElem_cons_zero, List.setIfInBounds_toArray, List.set_cons_zero, List.set_cons_succ])
  refine wpAnyH_take (i := 8) (v := ?_) (by rfl) (by kernel_rfl) (by kernel_rfl) (by kernel_rfl) (fun _ _ _ h => h) (Or.inl ⟨by kernel_rfl, ?_⟩) (by assumption) ?_; rotate_left 1; (focus (intro w hSw; (try dsimp only at hSw); simp only [List.getElem_toArray, List.getElem_cons_succ, List.getElem_cons_zero]; all_goals go_simp; all_goals (try with_reducible rfl))); (try simp only [Act.put, List.getElem_toArray, List.getElem_cons_succ, List.getElem_cons_zero, List.setIfInBounds_toArray, List.set_cons_zero, List.set_cons_succ])
  refine wpAnyH_take (i := 9) (v := ?_) (by rfl) (by kernel_rfl) (by kernel_rfl) (by kernel_rfl) (fun _ _ _ h => h) (Or.inl ⟨by kernel_rfl, ?_⟩) (by assumption) ?_; rotate_left 1; (focus (intro w hSw; (try dsimp only at hSw); simp only [List.getElem_toArray, List.getElem_cons_succ, List.getElem_cons_zero]; all_goals go_simp; all_goals (try with_reducible rfl))); (try simp only [Act.put, List.getElem_toArray, List.getElem_cons_succ, List.getElem_cons_zero, List.setIfInBounds_toArray, List.set_cons_zero, List.set_cons_succ])
  refine wpAnyH_ready (rs := [10]) (by kernel_rfl) (by simp) ?_; refine AllReadyH.cons (by rfl) (fun K hK => ?_) AllReadyH.nil; rw [if_pos (by kernel_rfl)]; simp only [List.getElem_toArray, List.getElem_cons_succ, List.getElem_cons_zero]
  go_wp2_with (first
    | (go_at_call 78; (with_reducible refine (cfind_is k0 k1 k2 k3 k4 ad had ids pg at_ r f E.length (Lib.hid rfl) (Lib.hid hroom.out.1) hroom.out.2 hh hw (Lib.hid H.out.ok) _ H2.out.sv.st H2.out.ca H2.out.nN).mono ?_); rintro e w1 ⟨rfl, hb, hits', v', E', hc, ok, hl, g1, g2, hk, hv, hnn⟩; have HNo := Lib.hid (hnn (w.heap.size + 1) (by rw [HSz.out]; omega) (H.out.ca.noNode _ (by omega))); have HM := Lib.hid (H2.out.found hb hc ok hk hv); have HP := Lib.hid (HPB.out.same hk.1 (hk.2 _ (by rw [HSz.out]; omega) (by have := H.out.ca.cl; omega) (fun e => by have := (H.out.ca.row.lt _ e).2; omega))); have HKK := Lib.hid (HKB.out.same' hk.1 (hk.2 _ (by rw [HSz.out]; omega) (by have := H.out.ca.cl; omega) (fun e => by have := (H.out.ca.row.lt _ e).2; omega))); have HK := Lib.hid hk; have HV := Lib.hid hv; have HG := Lib.hid (And.intro hl (And.intro g1 g2)); clear hb hc ok hl g1 g2 hk hv hnn))
  refine hK.out _ _ (HS7.out _ HM.out.m0 HM.out.m1 HKK.out) (fun hHeld => ?_)
  clear hK K
  (try simp only [Act.put, List.getElem_toArray, List.getElem_cons_succ, List.getElem_cons_zero, List.setIfInBounds_toArray, List.set_cons_zero, List.set_cons_succ])
  refine wpAnyH_take (i := 11) (v := ?_) (by rfl) (by kernel_rfl) (by kernel_rfl) (by kernel_rfl) (fun _ _ _ h => h) (Or.inl ⟨by kernel_rfl, ?_⟩) (by assumption) ?_; rotate_left 1; (focus (intro w hSw; (try dsimp only at hSw); simp only [List.getElem_toArray, List.getElem_cons_succ, List.getElem_cons_zero]; all_goals go_simp; all_goals (try with_reducible rfl))); (try simp only [Act.put, List.getElem_toArray, List.getElem_cons_succ, List.getElem_cons_zero, List.setIfInBounds_toArray, List.set_cons_zero, List.set_cons_succ])
  refine wpAnyH_take (i := 12) (v := ?_) (by rfl) (by kernel_rfl) (by kernel_rfl) (by kernel_rfl) (fun _ _ _ h => h) (Or.inl ⟨by kernel_rfl, ?_⟩) (by assumption) ?_; rotate_left 1; (focus (intro w hSw; (try dsimp only at hSw); simp only [List.getElem_toArray, List.getElem_cons_succ, List.getElem_cons_zero]; all_goals go_simp; all_goals (try with_reducible rfl))); (try simp only [Act.put, List.getElem_toArray, List.getElem_cons_succ, List.getElem_cons_zero, List.setIfInBounds_toArray, List.set_cons_zero, List.set_cons_succ])
  refine wpAnyH_ready (rs := [13]) (by kernel_rfl) (by simp) ?_; refine AllReadyH.cons (by rfl) (fun K hK => ?_) AllReadyH.nil; rw [if_pos (by kernel_rfl)]; simp only [List.getElem_toArray, List.getElem_cons_succ, List.getElem_cons_zero]
  have p0 := HP.out.c0
  have p1 := HP.out.c1
  have p2 := HP.out.c2
  have f0 := HP.out.fr 0
  have f1 := HP.out.fr 1
  have f2 := HP.out.fr 2
  have hx1 : cb ≠ w.heap.size + 1 := by have := H.out.ca.cl; omega
  have hx2 : mb ≠ w.heap.size + 1 := by have := H.out.ml; omega
  have hx3 : v'.ownBlock ≠ some (w.heap.size + 1) := fun e => by
    rcases HV.out with e' | ⟨g, hg, e'⟩
    · rw [e'] at e; have := (H.out.ca.row.lt _ e).2; omega
    · rw [e'] at e; injection e with e; rw [HSz.out] at hg; omega
  have HFin := Lib.hid (HM.out.put3 (w.heap.size + 1) (by have := H.out.nN; omega) hx1 hx2 hx3 HNo.out (.int .i64 pg) (.int .i64 at_) (.bool r))
  go_wp2_with fail
  refine hK.out _ _ (HS7.out _ HFin.out.m0 HFin.out.m1 (HKK.out.same' (by simp) (by rw [set_heap _ _ _ _ _ (by omega), set_heap _ _ _ _ _ (by omega), set_heap _ _ _ _ _ (by omega)]))) (fun hHeld => ?_)
  clear hK K
  (try simp only [Act.put, List.getElem_toArray, List.getElem_cons_succ, List.getElem_cons_zero, List.setIfInBounds_toArray, List.set_cons_zero, List.set_cons_succ])
  refine wpAnyH_take (i := 14) (v := ?_) (by rfl) (by kernel_rfl) (by kernel_rfl) (by kernel_rfl) (fun _ _ _ h => h) (Or.inl ⟨by kernel_rfl, ?_⟩) (by assumption) ?_; rotate_left 1; (focus (intro w hSw; (try dsimp only at hSw); simp only [List.getElem_toArray, List.getElem_cons_succ, List.getElem_cons_zero]; all_goals go_simp; all_goals (try with_reducible rfl))); (try simp only [Act.put, List.getElem_toArray, List.getElem_cons_succ, List.getElem_cons_zero, List.setIfInBounds_toArray, List.set_cons_zero, List.set_cons_succ])
  refine wpAnyH_done (by kernel_rfl) ?_ _
  refine NoPanic.normal ?_
  go_wp2_with fail
  have t := HP.out.set pg at_ r
  have t0 := t.c0
  have t1 := t.c1
  have t2 := t.c2
  refine bodyPost_ret (v := .tuple #[.agg #[.int .i64 pg, .int .i64 at_, .bool r], .int .i64 f]) (by simp [results, Tryd.results58, go_sem, t0, t1, t2]) rfl ⟨rfl, ?_⟩
  have hsz := HK.out.1
  rw [HSz.out] at hsz
  refine ⟨hits', v', E', HFin.out, HG.out.1, HG.out.2.1, HG.out.2.2, ⟨by simp; omega, fun k hk hkc hkv => ?_⟩, HV.out.imp id (fun ⟨g, hg, e⟩ => ⟨g, by rw [HSz.out] at hg; omega, e⟩)⟩
  rw [set_heap _ _ _ _ _ (by omega), set_heap _ _ _ _ _ (by omega), set_heap _ _ _ _ _ (by omega), HK.out.2 k (by rw [HSz.out]; omega) hkc hkv]
  exact HBB.out.block k hk
end Go.Proofs.YtjkbfhojjjkgnaaDoor
namespace Go.Proofs.YtjkbfhojjjkgnaaDoor
open Go.ChangeShapes Go.WideShapes Go.ChangeAt Go.RowKit
set_option linter.unusedVariables false
set_option linter.unusedSimpArgs false
/-- What lies above the store, and is none of the cache's, is as it was. -/
def KeepM (w w' : World) (N cb : Nat) (v : Value) : Prop := w.heap.size ≤ w'.heap.size ∧ ∀ k, N ≤ k → k < w.heap.size → k ≠ cb → v.ownBlock ≠ some k → w'.heap[k]? = w.heap[k]?
set_option maxRecDepth 100000 in
set_option maxHeartbeats 2000000 in
theorem mload_fault {w0 : World} {mb S : Nat} {a b : Shp} {N cb : Nat} {size : Int} {th : Nat → Bool} {vr_ : Nat → Int} {W : Nat → Nat → Value} {th2 : Nat → Bool} {vr2 : Nat → Int} {W2 : Nat → Nat → Int} {hits : Int} {v : Value} {E : List EW} (k0 k1 k2 k3 k4 : Int) (ad : Nat) (had : ad ≤ 4294967295) (ids : List Int) (pg at_ : Int) (r : Bool) (f : Int) (hf : (f != 0) = true) (hroom : Hid ((E.length : Int) < size ∧ E.length ≤ 63)) (hh : Hid (0 ≤ hits ∧ hits ≤ 1000000)) (hw : Hid (Way a b th vr_ W th2 vr2 k0 k1 k2 k3 k4 5 ad false ids pg at_ r f)) (w : World) (h : (MemAt w0 w mb S a b N cb size th vr_ W th2 vr2 W2 hits v E)) :
    Calls Tryd.prog 39 #[.pointer (some ⟨mb, 0, none⟩), (Value.agg #[.int .i64 k0, .int .i64 k1, .int .i64 k2, .int .i64 k3, .int .u32 k4]), .int .u32 (ad : Int)] w fun e w' => e = .returned (.tuple #[.int .u32 0, .int .i64 f]) ∧ ∃ hits' v' E', MemAt w0 w' mb S a b N cb size th vr_ W th2 vr2 W2 hits' v' E' ∧ E'.length ≤ E.length + 1 ∧ hits ≤ hits' ∧ hits' ≤ hits + 1 ∧ KeepM w w' N cb v ∧ (v'.ownBlock = v.ownBlock ∨ ∃ g, w.heap.size ≤ g ∧ v'.ownBlock = some g) := by
  have hb1 : ∀ o, Below w.heap.size w (w.alloc o) := fun o => (Below.refl _ _).alloc (Nat.le_refl _) _
  have H := Lib.hid (fun o => h.below (hb1 o))
  have HB := Lib.hid hb1
  have hf0 : ¬ f = 0 := by simpa using hf
  clear h hb1
  go_enter Tryd.func39, Tryd.ntmps39
  go_wp2_with (first
    | (go_at_call 58; (with_reducible refine (mfind_is k0 k1 k2 k3 k4 ad had ids pg at_ r f hroom hh hw _ (H.out _)).mono ?_); rintro e w1 ⟨rfl, hits', v', E', hm, g1, g2, g3, hk, hv⟩; have HM := Lib.hid hm; have HG := Lib.hid (And.intro g1 (And.intro g2 g3)); have HK := Lib.hid hk; have HV := Lib.hid hv; clear hm g1 g2 g3 hk hv))
  go_ret2
  have hs := HK.out.1
  simp at hs
  refine ⟨rfl, hits', v', E', HM.out.below ((Below.refl _ _).alloc (Nat.le_refl _) _), HG.out.1, HG.out.2.1, HG.out.2.2, ⟨by simp; omega, fun k hkN hk hkc hkv => ?_⟩, HV.out.imp id (fun ⟨g, hg, e⟩ => ⟨g, by simp at hg; omega, e⟩)⟩
  rw [((Below.refl _ _).alloc (Nat.le_refl _) _ : Below w1.heap.size w1 _).block k (by omega), HK.out.2 k (by simp; omega) hkc hkv]
  exact (HB.out _).block k hk
set_option maxRecDepth 100000 in
set_option maxHeartbeats 4000000 in
theorem mload_ok {w0 : World} {mb S : Nat} {a b : Shp} {N cb : Nat} {size : Int} {th : Nat → Bool} {vr_ : Nat → Int} {W : Nat → Nat → Value} {th2 : Nat → Bool} {vr2 : Nat → Int} {W2 : Nat → Nat → Int} {hits : Int} {v : Value} {E : List EW} (k0 k1 k2 k3 k4 : Int) (ad : Nat) (had : ad ≤ 4294967295) (ids : List Int) (pg at_ : Int) (r : Bool) (i x : Nat) (hpg : Hid (pg = i ∧ at_ = x)) (hi : i < b.n) (hx : x < 32) (hti : Hid (th2 i = true)) (z : Int) (hz : Hid (W2 i x = z)) (hroom : Hid ((E.length : Int) < size ∧ E.length ≤ 63)) (hh : Hid (0 ≤ hits ∧ hits ≤ 1000000)) (hw : Hid (Way a b th vr_ W th2 vr2 k0 k1 k2 k3 k4 5 ad false ids pg at_ r 0)) (w : World) (h : (MemAt w0 w mb S a b N cb size th vr_ W th2 vr2 W2 hits v E)) :
    Calls Tryd.prog 39 #[.pointer (some ⟨mb, 0, none⟩), (Value.agg #[.int .i64 k0, .int .i64 k1, .int .i64 k2, .int .i64 k3, .int .u32 k4]), .int .u32 (ad : Int)] w fun e w' => e = .returned (.tuple #[.int .u32 z, .int .i64 0]) ∧ ∃ hits' v' E', MemAt w0 w' mb S a b N cb size th vr_ W th2 vr2 W2 hits' v' E' ∧ E'.length ≤ E.length + 1 ∧ hits ≤ hits' ∧ hits' ≤ hits + 1 ∧ KeepM w w' N cb v ∧ (v'.ownBlock = v.ownBlock ∨ ∃ g, w.heap.size ≤ g ∧ v'.ownBlock = some g) := by
  have hb1 : ∀ o, Below w.heap.size w (w.alloc o) := fun o => (Below.refl _ _).alloc (Nat.le_refl _) _
  have H := Lib.hid (fun o => h.below (hb1 o))
  have HB := Lib.hid hb1
  clear h hb1
  go_enter Tryd.func39, Tryd.ntmps39
  go_upto_region 4 with (first
    | (go_at_call 58; (with_reducible refine (mfind_is k0 k1 k2 k3 k4 ad had ids pg at_ r 0 hroom hh hw _ (H.out _)).mono ?_); rintro e w1 ⟨rfl, hits', v', E', hm, g1, g2, g3, hk, hv⟩; have HM := Lib.hid hm; have HG := Lib.hid (And.intro g1 (And.intro g2 g3)); have HK := Lib.hid hk; have HV := Lib.hid hv; clear hm g1 g2 g3 hk hv))
  have hq := (PlC.new w1 pg at_ r 145).below (Below.refl _ _).drew
  have hm2 := (HM.out.below ((Below.refl _ _).alloc (Nat.le_refl _) _ : Below w1.heap.size w1 (w1.alloc (.cells #[.int .i64 pg, .int .i64 at_, .bool r] 145 (0, 0))))).below (Below.refl _ _).drew
  have HM2 := Lib.hid hm2
  refine wp_region_noPanic ?_
  refine wp_region_held_drew (S := fun w' => World.cell? w' ⟨mb, 0, none⟩ = some (.pointer (some ⟨S, 0, none⟩)) ∧ World.cell? w' ⟨S, 1, none⟩ = some (.pointer (some ⟨b.P, 0, none⟩)) ∧ World.cell? w' ⟨w1.heap.size, 0, none⟩ = some (.int .i64 pg) ∧ World.cell? w' ⟨w1.heap.size, 1, none⟩ = some (.int .i64 at_)) (by kernel_rfl) ⟨hm2.m0, hm2.sv.st.s1, hq.c0, hq.c1⟩ (fun hHeld => ?_)
  clear hq hm2
  refine wpAnyH_take (i := 0) (v := ?_) (by rfl) (by kernel_rfl) (by kernel_rfl) (by kernel_rfl) (fun _ _ _ h => h) (Or.inl ⟨by kernel_rfl, ?_⟩) (by assumption) ?_; rotate_left 1; (focus (intro w hSw; (try dsimp only at hSw); simp only [List.getElem_toArray, List.getElem_cons_succ, List.getElem_cons_zero]; all_goals go_simp; all_goals (try with_reducible rfl))); (try simp only [Act.put, List.getElem_toArray, List.getElem_cons_succ, List.getElem_cons_zero, List.setIfInBounds_toArray, List.set_cons_zero, List.set_cons_succ])
  refine wpAnyH_take (i := 1) (v := ?_) (by rfl) (by kernel_rfl) (by kernel_rfl) (by kernel_rfl) (fun _ _ _ h => h) (Or.inl ⟨by kernel_rfl, ?_⟩) (by assumption) ?_; rotate_left 1; (focus (intro w hSw; (try dsimp only at hSw); simp only [List.getElem_toArray, List.getElem_cons_succ, List.getElem_cons_zero]; all_goals go_simp; all_goals (try with_reducible rfl))); (try simp only [Act.put, List.getElem_toArray, List.getElem_cons_succ, List.getElem_cons_zero, List.setIfInBounds_toArray, List.set_cons_zero, List.set_cons_succ])
  refine wpAnyH_take (i := 2) (v := ?_) (by rfl) (by kernel_rfl) (by kernel_rfl) (by kernel_rfl) (fun _ _ _ h => h) (Or.inl ⟨by kernel_rfl, ?_⟩) (by assumption) ?_; rotate_left 1; (focus (intro w hSw; (try dsimp only at hSw); simp only [List.getElem_toArray, List.getElem_cons_succ, List.getElem_cons_zero]; all_goals go_simp; all_goals (try with_reducible rfl))); (try simp only [Act.put, List.getElem_toArray, List.getElem_cons_succ, List.getElem_cons_zero, List.setIfInBounds_toArray, List.set_cons_zero, List.set_cons_succ])
  refine wpAnyH_take (i := 3) (v := ?_) (by rfl) (by kernel_rfl) (by kernel_rfl) (by kernel_rfl) (fun _ _ _ h => h) (Or.inl ⟨by kernel_rfl, ?_⟩) (by assumption) ?_; rotate_left 1; (focus (intro w hSw; (try dsimp only at hSw); simp only [List.getElem_toArray, List.getElem_cons_succ, List.getElem_cons_zero]; all_goals go_simp; all_goals (try with_reducible rfl))); (try simp only [Act.put, List.getElem_toArray, List.getElem_cons_succ, List.getElem_cons_zero, List.setIfInBounds_toArray, List.set_cons_zero, List.set_cons_succ])
  refine wpAnyH_take (i := 4) (v := ?_) (by rfl) (by kernel_rfl) (by kernel_rfl) (by kernel_rfl) (fun _ _ _ h => h) (Or.inl ⟨by kernel_rfl, ?_⟩) (by assumption) ?_; rotate_left 1; (focus (intro w hSw; (try dsimp only at hSw); simp only [List.getElem_toArray, List.getElem_cons_succ, List.getElem_cons_zero]; all_goals go_simp; all_goals (try with_reducible rfl))); (try simp only [Act.put, List.getElem_toArray, List.getElem_cons_succ, List.getElem_cons_zero, List.setIfInBounds_toArray, List.set_cons_zero, List.set_cons_succ])
  refine wpAnyH_take (i := 5) (v := ?_) (by rfl) (by kernel_rfl) (by kernel_rfl) (by kernel_rfl) (fun _ _ _ h => h) (Or.inl ⟨by kernel_rfl, ?_⟩) (by assumption) ?_; rotate_left 1; (focus (intro w hSw; (try dsimp only at hSw); simp only [List.getElem_toArray, List.getElem_cons_succ, List.getElem_cons_zero]; all_goals go_simp; all_goals (try with_reducible rfl))); (try simp only [Act.put, List.getElem_toArray, List.getElem_cons_succ, List.getElem_cons_zero, List.setIfInBounds_toArray, List.set_cons_zero, List.set_cons_succ])
  refine wpAnyH_take (i := 6) (v := ?_) (by rfl) (by kernel_rfl) (by kernel_rfl) (by kernel_rfl) (fun _ _ _ h => h) (Or.inl ⟨by kernel_rfl, ?_⟩) (by assumption) ?_; rotate_left 1; (focus (intro w hSw; (try dsimp only at hSw); simp only [List.getElem_toArray, List.getElem_cons_succ, List.getElem_cons_zero]; all_goals go_simp; all_goals (try with_reducible rfl))); (try simp only [Act.put, List.getElem_toArray, List.getElem_cons_succ, List.getElem_cons_zero, List.setIfInBounds_toArray, List.set_cons_zero, List.set_cons_succ])
  refine wpAnyH_take (i := 7) (v := ?_) (by rfl) (by kernel_rfl) (by kernel_rfl) (by kernel_rfl) (fun _ _ _ h => h) (Or.inl ⟨by kernel_rfl, ?_⟩) (by assumption) ?_; rotate_left 1; (focus (intro w hSw; (try dsimp only at hSw); simp only [List.getElem_toArray, List.getElem_cons_succ, List.getElem_cons_zero]; all_goals go_simp; all_goals (try with_reducible rfl))); (try simp only [Act.put, List.getElem_toArray, List.getElem_cons_succ, List.getElem_cons_zero, List.setIfInBounds_toArray, List.set_cons_zero, List.set_cons_succ])
  refine wpAnyH_take (i := 8) (v := ?_) (by rfl) (by kernel_rfl) (by kernel_rfl) (by kernel_rfl) (fun _ _ _ h => h) (Or.inl ⟨by kernel_rfl, ?_⟩) (by assumption) ?_; rotate_left 1; (focus (intro w hSw; (try dsimp only at hSw); simp only [List.getElem_toArray, List.getElem_cons_succ, List.getElem_cons_zero]; all_goals go_simp; all_goals (try with_reducible rfl))); (try simp only [Act.put, List.getElem_toArray, List.getElem_cons_succ, List.getElem_cons_zero, List.setIfInBounds_toArray, List.set_cons_zero, List.set_cons_succ])
  refine wpAnyH_take (i := 9) (v := ?_) (by rfl) (by kernel_rfl) (by kernel_rfl) (by kernel_rfl) (fun _ _ _ h => h) (Or.inl ⟨by kernel_rfl, ?_⟩) (by assumption) ?_; rotate_left 1; (focus (intro w hSw; (try dsimp only at hSw); simp only [List.getElem_toArray, List.getElem_cons_succ, List.getElem_cons_zero]; all_goals go_simp; all_goals (try with_reducible rfl))); (try simp only [Act.put, List.getElem_toArray, List.getElem_cons_succ, List.getElem_cons_zero, List.setIfInBounds_toArray, List.set_cons_zero, List.set_cons_succ])
  refine wpAnyH_take (i := 10) (v := ?_) (by rfl) (by kernel_rfl) (by kernel_rfl) (by kernel_rfl) (fun _ _ _ h => h) (Or.inl ⟨by kernel_rfl, ?_⟩) (by assumption) ?_; rotate_left 1; (focus (intro w hSw; (try dsimp only at hSw); simp only [List.getElem_toArray, List.getElem_cons_succ, List.getElem_cons_zero]; all_goals go_simp; all_goals (try with_reducible rfl))); (try simp only [Act.put, List.getElem_toArray, List.getElem_cons_succ, List.getElem_cons_zero, List.setIfInBounds_toArray, List.set_cons_zero, List.set_cons_succ])
  refine wpAnyH_ready (rs := [11]) (by kernel_rfl) (by simp) ?_; refine AllReadyH.cons (by rfl) (fun K hK => ?_) AllReadyH.nil; rw [if_pos (by kernel_rfl)]; simp only [List.getElem_toArray, List.getElem_cons_succ, List.getElem_cons_zero]
  go_wp2_with (first
    | (go_at_call 23; (with_reducible refine (pread_at pg at_ i x (Lib.hid hpg.out.1) (Lib.hid hpg.out.2) hi hx hti z hz _ HM2.out.sv.st.pg).mono ?_); rintro e w2 ⟨rfl, rfl⟩))
  refine hK.out _ _ hHeld (fun hHeld => ?_)
  clear hK K
  (try simp only [Act.put, List.getElem_toArray, List.getElem_cons_succ, List.getElem_cons_zero, List.setIfInBounds_toArray, List.set_cons_zero, List.set_cons_succ])
  refine wpAnyH_take (i := 12) (v := ?_) (by rfl) (by kernel_rfl) (by kernel_rfl) (by kernel_rfl) (fun _ _ _ h => h) (Or.inl ⟨by kernel_rfl, ?_⟩) (by assumption) ?_; rotate_left 1; (focus (intro w hSw; (try dsimp only at hSw); simp only [List.getElem_toArray, List.getElem_cons_succ, List.getElem_cons_zero]; all_goals go_simp; all_goals (try with_reducible rfl))); (try simp only [Act.put, List.getElem_toArray, List.getElem_cons_succ, List.getElem_cons_zero, List.setIfInBounds_toArray, List.set_cons_zero, List.set_cons_succ])
  refine wpAnyH_take (i := 13) (v := ?_) (by rfl) (by kernel_rfl) (by kernel_rfl) (by kernel_rfl) (fun _ _ _ h => h) (Or.inl ⟨by kernel_rfl, ?_⟩) (by assumption) ?_; rotate_left 1; (focus (intro w hSw; (try dsimp only at hSw); simp only [List.getElem_toArray, List.getElem_cons_succ, List.getElem_cons_zero]; all_goals go_simp; all_goals (try with_reducible rfl))); (try simp only [Act.put, List.getElem_toArray, List.getElem_cons_succ, List.getElem_cons_zero, List.setIfInBounds_toArray, List.set_cons_zero, List.set_cons_succ])
  refine wpAnyH_take (i := 14) (v := ?_) (by rfl) (by kernel_rfl) (by kernel_rfl) (by kernel_rfl) (fun _ _ _ h => h) (Or.inl ⟨by kernel_rfl, ?_⟩) (by assumption) ?_; rotate_left 1; (focus (intro w hSw; (try dsimp only at hSw); simp only [List.getElem_toArray, List.getElem_cons_succ, List.getElem_cons_zero]; all_goals go_simp; all_goals (try with_reducible rfl))); (try simp only [Act.put, List.getElem_toArray, List.getElem_cons_succ, List.getElem_cons_zero, List.setIfInBounds_toArray, List.set_cons_zero, List.set_cons_succ])
  refine wpAnyH_take (i := 15) (v := ?_) (by rfl) (by kernel_rfl) (by kernel_rfl) (by kernel_rfl) (fun _ _ _ h => h) (Or.inl ⟨by kernel_rfl, ?_⟩) (by assumption) ?_; rotate_left 1; (focus (intro w hSw; (try dsimp only at hSw); simp only [List.getElem_toArray, List.getElem_cons_succ, List.getElem_cons_zero]; all_goals go_simp; all_goals (try with_reducible rfl))); (try simp only [Act.put, List.getElem_toArray, List.getElem_cons_succ, List.getElem_cons_zero, List.setIfInBounds_toArray, List.set_cons_zero, List.set_cons_succ])
  refine wpAnyH_take (i := 16) (v := ?_) (by rfl) (by kernel_rfl) (by kernel_rfl) (by kernel_rfl) (fun _ _ _ h => h) (Or.inl ⟨by kernel_rfl, ?_⟩) (by assumption) ?_; rotate_left 1; (focus (intro w hSw; (try dsimp only at hSw); simp only [List.getElem_toArray, List.getElem_cons_succ, List.getElem_cons_zero]; all_goals go_simp; all_goals (try with_reducible rfl))); (try simp only [Act.put, List.getElem_toArray, List.getElem_cons_succ, List.getElem_cons_zero, List.setIfInBounds_toArray, List.set_cons_zero, List.set_cons_succ])
  refine wpAnyH_done (by kernel_rfl) ?_ _
  refine NoPanic.normal ?_
  go_wp2_with fail
  go_ret2
  have hs := HK.out.1
  simp at hs
  refine ⟨rfl, hits', v', E', HM2.out, HG.out.1, HG.out.2.1, HG.out.2.2, ⟨by simp; omega, fun k hkN hk hkc hkv => ?_⟩, HV.out.imp id (fun ⟨g, hg, e⟩ => ⟨g, by simp at hg; omega, e⟩)⟩
  rw [(((Below.refl _ _).alloc (Nat.le_refl _) _ : Below w1.heap.size w1 _).drew).block k (by omega), HK.out.2 k (by simp; omega) hkc hkv]
  exact (HB.out _).block k hk
end Go.Proofs.YtjkbfhojjjkgnaaDoor
namespace Go.Proofs.YtjkbfhojjjkgnaaDoor
open Go.ChangeShapes Go.WideShapes Go.ChangeAt Go.RowKit
set_option linter.unusedVariables false
set_option linter.unusedSimpArgs false
set_option maxRecDepth 100000 in
set_option maxHeartbeats 2000000 in
theorem msave_fault {w0 : World} {mb S : Nat} {a b : Shp} {N cb : Nat} {size : Int} {th : Nat → Bool} {vr_ : Nat → Int} {W : Nat → Nat → Value} {th2 : Nat → Bool} {vr2 : Nat → Int} {W2 : Nat → Nat → Int} {hits : Int} {v : Value} {E : List EW} (k0 k1 k2 k3 k4 : Int) (ad : Nat) (had : ad ≤ 4294967295) (ids : List Int) (pg at_ : Int) (r : Bool) (f : Int) (hf : (f != 0) = true) (u : Int) (hroom : Hid ((E.length : Int) < size ∧ E.length ≤ 63)) (hh : Hid (0 ≤ hits ∧ hits ≤ 1000000)) (hw : Hid (Way a b th vr_ W th2 vr2 k0 k1 k2 k3 k4 5 ad false ids pg at_ r f)) (w : World) (h : (MemAt w0 w mb S a b N cb size th vr_ W th2 vr2 W2 hits v E)) :
    Calls Tryd.prog 82 #[.pointer (some ⟨mb, 0, none⟩), (Value.agg #[.int .i64 k0, .int .i64 k1, .int .i64 k2, .int .i64 k3, .int .u32 k4]), .int .u32 (ad : Int), .int .u32 u] w fun e w' => e = .returned (.int .i64 f) ∧ ∃ hits' v' E', MemAt w0 w' mb S a b N cb size th vr_ W th2 vr2 W2 hits' v' E' ∧ E'.length ≤ E.length + 1 ∧ hits ≤ hits' ∧ hits' ≤ hits + 1 ∧ KeepM w w' N cb v ∧ (v'.ownBlock = v.ownBlock ∨ ∃ g, w.heap.size ≤ g ∧ v'.ownBlock = some g) := by
  have hb1 : ∀ o, Below w.heap.size w (w.alloc o) := fun o => (Below.refl _ _).alloc (Nat.le_refl _) _
  have H := Lib.hid (fun o => h.below (hb1 o))
  have HB := Lib.hid hb1
  have hf0 : ¬ f = 0 := by simpa using hf
  clear h hb1
  go_enter Tryd.func82, Tryd.ntmps82
  go_wp2_with (first
    | (go_at_call 58; (with_reducible refine (mfind_is k0 k1 k2 k3 k4 ad had ids pg at_ r f hroom hh hw _ (H.out _)).mono ?_); rintro e w1 ⟨rfl, hits', v', E', hm, g1, g2, g3, hk, hv⟩; have HM := Lib.hid hm; have HG := Lib.hid (And.intro g1 (And.intro g2 g3)); have HK := Lib.hid hk; have HV := Lib.hid hv; clear hm g1 g2 g3 hk hv))
  go_ret
  have hs := HK.out.1
  simp at hs
  refine ⟨rfl, hits', v', E', HM.out.below ((Below.refl _ _).alloc (Nat.le_refl _) _), HG.out.1, HG.out.2.1, HG.out.2.2, ⟨by simp; omega, fun k hkN hk hkc hkv => ?_⟩, HV.out.imp id (fun ⟨g, hg, e⟩ => ⟨g, by simp at hg; omega, e⟩)⟩
  rw [((Below.refl _ _).alloc (Nat.le_refl _) _ : Below w1.heap.size w1 _).block k (by omega), HK.out.2 k (by simp; omega) hkc hkv]
  exact (HB.out _).block k hk
set_option maxRecDepth 100000 in
set_option maxHeartbeats 2000000 in
theorem msave_ro {w0 : World} {mb S : Nat} {a b : Shp} {N cb : Nat} {size : Int} {th : Nat → Bool} {vr_ : Nat → Int} {W : Nat → Nat → Value} {th2 : Nat → Bool} {vr2 : Nat → Int} {W2 : Nat → Nat → Int} {hits : Int} {v : Value} {E : List EW} (k0 k1 k2 k3 k4 : Int) (ad : Nat) (had : ad ≤ 4294967295) (ids : List Int) (pg at_ : Int)  (u : Int) (hroom : Hid ((E.length : Int) < size ∧ E.length ≤ 63)) (hh : Hid (0 ≤ hits ∧ hits ≤ 1000000)) (hw : Hid (Way a b th vr_ W th2 vr2 k0 k1 k2 k3 k4 5 ad false ids pg at_ true 0)) (w : World) (h : (MemAt w0 w mb S a b N cb size th vr_ W th2 vr2 W2 hits v E)) :
    Calls Tryd.prog 82 #[.pointer (some ⟨mb, 0, none⟩), (Value.agg #[.int .i64 k0, .int .i64 k1, .int .i64 k2, .int .i64 k3, .int .u32 k4]), .int .u32 (ad : Int), .int .u32 u] w fun e w' => e = .returned (.int .i64 4) ∧ ∃ hits' v' E', MemAt w0 w' mb S a b N cb size th vr_ W th2 vr2 W2 hits' v' E' ∧ E'.length ≤ E.length + 1 ∧ hits ≤ hits' ∧ hits' ≤ hits + 1 ∧ KeepM w w' N cb v ∧ (v'.ownBlock = v.ownBlock ∨ ∃ g, w.heap.size ≤ g ∧ v'.ownBlock = some g) := by
  have hb1 : ∀ o, Below w.heap.size w (w.alloc o) := fun o => (Below.refl _ _).alloc (Nat.le_refl _) _
  have H := Lib.hid (fun o => h.below (hb1 o))
  have HB := Lib.hid hb1
  clear h hb1
  go_enter Tryd.func82, Tryd.ntmps82
  go_wp2_with (first
    | (go_at_call 58; (with_reducible refine (mfind_is k0 k1 k2 k3 k4 ad had ids pg at_ true 0 hroom hh hw _ (H.out _)).mono ?_); rintro e w1 ⟨rfl, hits', v', E', hm, g1, g2, g3, hk, hv⟩; have HM := Lib.hid hm; have HG := Lib.hid (And.intro g1 (And.intro g2 g3)); have HK := Lib.hid hk; have HV := Lib.hid hv; clear hm g1 g2 g3 hk hv))
  go_ret
  have hs := HK.out.1
  simp at hs
  refine ⟨rfl, hits', v', E', HM.out.below ((Below.refl _ _).alloc (Nat.le_refl _) _), HG.out.1, HG.out.2.1, HG.out.2.2, ⟨by simp; omega, fun k hkN hk hkc hkv => ?_⟩, HV.out.imp id (fun ⟨g, hg, e⟩ => ⟨g, by simp at hg; omega, e⟩)⟩
  rw [((Below.refl _ _).alloc (Nat.le_refl _) _ : Below w1.heap.size w1 _).block k (by omega), HK.out.2 k (by simp; omega) hkc hkv]
  exact (HB.out _).block k hk
set_option maxRecDepth 100000 in
set_option maxHeartbeats 4000000 in
theorem msave_ok {w0 : World} {mb S : Nat} {a b : Shp} {N cb : Nat} {size : Int} {th : Nat → Bool} {vr_ : Nat → Int} {W : Nat → Nat → Value} {th2 : Nat → Bool} {vr2 : Nat → Int} {W2 : Nat → Nat → Int} {hits : Int} {v : Value} {E : List EW} (k0 k1 k2 k3 k4 : Int) (ad : Nat) (had : ad ≤ 4294967295) (ids : List Int) (i x : Nat) (hi : i < b.n) (hx : x < 32) (hti : Hid (th2 i = true)) (u : Int) (hroom : Hid ((E.length : Int) < size ∧ E.length ≤ 63)) (hh : Hid (0 ≤ hits ∧ hits ≤ 1000000)) (hw : Hid (Way a b th vr_ W th2 vr2 k0 k1 k2 k3 k4 5 ad false ids i x false 0)) (w : World) (h : (MemAt w0 w mb S a b N cb size th vr_ W th2 vr2 W2 hits v E)) :
    Calls Tryd.prog 82 #[.pointer (some ⟨mb, 0, none⟩), (Value.agg #[.int .i64 k0, .int .i64 k1, .int .i64 k2, .int .i64 k3, .int .u32 k4]), .int .u32 (ad : Int), .int .u32 u] w fun e w' => e = .returned (.int .i64 0) ∧ ∃ hits' v' E', MemAt w0 w' mb S a b N cb size th vr_ W th2 vr2 (updA W2 i x u) hits' v' E' ∧ E'.length ≤ E.length + 1 ∧ hits ≤ hits' ∧ hits' ≤ hits + 1 ∧ KeepM w w' N cb v ∧ (v'.ownBlock = v.ownBlock ∨ ∃ g, w.heap.size ≤ g ∧ v'.ownBlock = some g) := by
  have hb1 : ∀ o, Below w.heap.size w (w.alloc o) := fun o => (Below.refl _ _).alloc (Nat.le_refl _) _
  have H := Lib.hid (fun o => h.below (hb1 o))
  have HB := Lib.hid hb1
  clear h hb1
  go_enter Tryd.func82, Tryd.ntmps82
  go_upto_region 6 with (first
    | (go_at_call 58; (with_reducible refine (mfind_is k0 k1 k2 k3 k4 ad had ids i x false 0 hroom hh hw _ (H.out _)).mono ?_); rintro e w1 ⟨rfl, hits', v', E', hm, g1, g2, g3, hk, hv⟩; have HM := Lib.hid hm; have HG := Lib.hid (And.intro g1 (And.intro g2 g3)); have HK := Lib.hid hk; have HV := Lib.hid hv; clear hm g1 g2 g3 hk hv))
  have hq := (PlC.new w1 i x false 145).below (Below.refl _ _).drew
  have hm2 := (HM.out.below ((Below.refl _ _).alloc (Nat.le_refl _) _ : Below w1.heap.size w1 (w1.alloc (.cells #[.int .i64 i, .int .i64 x, .bool false] 145 (0, 0))))).below (Below.refl _ _).drew
  have HM2 := Lib.hid hm2
  refine wp_region_noPanic ?_
  refine wp_region_held_drew (S := fun w' => World.cell? w' ⟨mb, 0, none⟩ = some (.pointer (some ⟨S, 0, none⟩)) ∧ World.cell? w' ⟨S, 1, none⟩ = some (.pointer (some ⟨b.P, 0, none⟩)) ∧ World.cell? w' ⟨w1.heap.size, 0, none⟩ = some (.int .i64 i) ∧ World.cell? w' ⟨w1.heap.size, 1, none⟩ = some (.int .i64 x)) (by kernel_rfl) ⟨hm2.m0, hm2.sv.st.s1, hq.c0, hq.c1⟩ (fun hHeld => ?_)
  have HQ := Lib.hid hq
  clear hq hm2
  refine wpAnyH_take (i := 0) (v := ?_) (by rfl) (by kernel_rfl) (by kernel_rfl) (by kernel_rfl) (fun _ _ _ h => h) (Or.inl ⟨by kernel_rfl, ?_⟩) (by assumption) ?_; rotate_left 1; (focus (intro w hSw; (try dsimp only at hSw); simp only [List.getElem_toArray, List.getElem_cons_succ, List.getElem_cons_zero]; all_goals go_simp; all_goals (try with_reducible rfl))); (try simp only [Act.put, List.getElem_toArray, List.getElem_cons_succ, List.getElem_cons_zero, List.setIfInBounds_toArray, List.set_cons_zero, List.set_cons_succ])
  refine wpAnyH_take (i := 1) (v := ?_) (by rfl) (by kernel_rfl) (by kernel_rfl) (by kernel_rfl) (fun _ _ _ h => h) (Or.inl ⟨by kernel_rfl, ?_⟩) (by assumption) ?_; rotate_left 1; (focus (intro w hSw; (try dsimp only at hSw); simp only [List.getElem_toArray, List.getElem_cons_succ, List.getElem_cons_zero]; all_goals go_simp; all_goals (try with_reducible rfl))); (try simp only [Act.put, List.getElem_toArray, List.getElem_cons_succ, List.getElem_cons_zero, List.setIfInBounds_toArray, List.set_cons_zero, List.set_cons_succ])
  refine wpAnyH_take (i := 2) (v := ?_) (by rfl) (by kernel_rfl) (by kernel_rfl) (by kernel_rfl) (fun _ _ _ h => h) (Or.inl ⟨by kernel_rfl, ?_⟩) (by assumption) ?_; rotate_left 1; (focus (intro w hSw; (try dsimp only at hSw); simp only [List.getElem_toArray, List.getElem_cons_succ, List.getElem_cons_zero]; all_goals go_simp; all_goals (try with_reducible rfl))); (try simp only [Act.put, List.getElem_toArray, List.getElem_cons_succ, List.getElem_cons_zero, List.setIfInBounds_toArray, List.set_cons_zero, List.set_cons_succ])
  refine wpAnyH_take (i := 3) (v := ?_) (by rfl) (by kernel_rfl) (by kernel_rfl) (by kernel_rfl) (fun _ _ _ h => h) (Or.inl ⟨by kernel_rfl, ?_⟩) (by assumption) ?_; rotate_left 1; (focus (intro w hSw; (try dsimp only at hSw); simp only [List.getElem_toArray, List.getElem_cons_succ, List.getElem_cons_zero]; all_goals go_simp; all_goals (try with_reducible rfl))); (try simp only [Act.put, List.getElem_toArray, List.getElem_cons_succ, List.getElem_cons_zero, List.setIfInBounds_toArray, List.set_cons_zero, List.set_cons_succ])
  refine wpAnyH_take (i := 4) (v := ?_) (by rfl) (by kernel_rfl) (by kernel_rfl) (by kernel_rfl) (fun _ _ _ h => h) (Or.inl ⟨by kernel_rfl, ?_⟩) (by assumption) ?_; rotate_left 1; (focus (intro w hSw; (try dsimp only at hSw); simp only [List.getElem_toArray, List.getElem_cons_succ, List.getElem_cons_zero]; all_goals go_simp; all_goals (try with_reducible rfl))); (try simp only [Act.put, List.getElem_toArray, List.getElem_cons_succ, List.getElem_cons_zero, List.setIfInBounds_toArray, List.set_cons_zero, List.set_cons_succ])
  refine wpAnyH_take (i := 5) (v := ?_) (by rfl) (by kernel_rfl) (by kernel_rfl) (by kernel_rfl) (fun _ _ _ h => h) (Or.inl ⟨by kernel_rfl, ?_⟩) (by assumption) ?_; rotate_left 1; (focus (intro w hSw; (try dsimp only at hSw); simp only [List.getElem_toArray, List.getElem_cons_succ, List.getElem_cons_zero]; all_goals go_simp; all_goals (try with_reducible rfl))); (try simp only [Act.put, List.getElem_toArray, List.getElem_cons_succ, List.getElem_cons_zero, List.setIfInBounds_toArray, List.set_cons_zero, List.set_cons_succ])
  refine wpAnyH_take (i := 6) (v := ?_) (by rfl) (by kernel_rfl) (by kernel_rfl) (by kernel_rfl) (fun _ _ _ h => h) (Or.inl ⟨by kernel_rfl, ?_⟩) (by assumption) ?_; rotate_left 1; (focus (intro w hSw; (try dsimp only at hSw); simp only [List.getElem_toArray, List.getElem_cons_succ, List.getElem_cons_zero]; all_goals go_simp; all_goals (try with_reducible rfl))); (try simp only [Act.put, List.getElem_toArray, List.getElem_cons_succ, List.getElem_cons_zero, List.setIfInBounds_toArray, List.set_cons_zero, List.set_cons_succ])
  refine wpAnyH_take (i := 7) (v := ?_) (by rfl) (by kernel_rfl) (by kernel_rfl) (by kernel_rfl) (fun _ _ _ h => h) (Or.inl ⟨by kernel_rfl, ?_⟩) (by assumption) ?_; rotate_left 1; (focus (intro w hSw; (try dsimp only at hSw); simp only [List.getElem_toArray, List.getElem_cons_succ, List.getElem_cons_zero]; all_goals go_simp; all_goals (try with_reducible rfl))); (try simp only [Act.put, List.getElem_toArray, List.getElem_cons_succ, List.getElem_cons_zero, List.setIfInBounds_toArray, List.set_cons_zero, List.set_cons_succ])
  refine wpAnyH_take (i := 8) (v := ?_) (by rfl) (by kernel_rfl) (by kernel_rfl) (by kernel_rfl) (fun _ _ _ h => h) (Or.inl ⟨by kernel_rfl, ?_⟩) (by assumption) ?_; rotate_left 1; (focus (intro w hSw; (try dsimp only at hSw); simp only [List.getElem_toArray, List.getElem_cons_succ, List.getElem_cons_zero]; all_goals go_simp; all_goals (try with_reducible rfl))); (try simp only [Act.put, List.getElem_toArray, List.getElem_cons_succ, List.getElem_cons_zero, List.setIfInBounds_toArray, List.set_cons_zero, List.set_cons_succ])
  refine wpAnyH_take (i := 9) (v := ?_) (by rfl) (by kernel_rfl) (by kernel_rfl) (by kernel_rfl) (fun _ _ _ h => h) (Or.inl ⟨by kernel_rfl, ?_⟩) (by assumption) ?_; rotate_left 1; (focus (intro w hSw; (try dsimp only at hSw); simp only [List.getElem_toArray, List.getElem_cons_succ, List.getElem_cons_zero]; all_goals go_simp; all_goals (try with_reducible rfl))); (try simp only [Act.put, List.getElem_toArray, List.getElem_cons_succ, List.getElem_cons_zero, List.setIfInBounds_toArray, List.set_cons_zero, List.set_cons_succ])
  refine wpAnyH_take (i := 10) (v := ?_) (by rfl) (by kernel_rfl) (by kernel_rfl) (by kernel_rfl) (fun _ _ _ h => h) (Or.inl ⟨by kernel_rfl, ?_⟩) (by assumption) ?_; rotate_left 1; (focus (intro w hSw; (try dsimp only at hSw); simp only [List.getElem_toArray, List.getElem_cons_succ, List.getElem_cons_zero]; all_goals go_simp; all_goals (try with_reducible rfl))); (try simp only [Act.put, List.getElem_toArray, List.getElem_cons_succ, List.getElem_cons_zero, List.setIfInBounds_toArray, List.set_cons_zero, List.set_cons_succ])
  refine wpAnyH_take (i := 11) (v := ?_) (by rfl) (by kernel_rfl) (by kernel_rfl) (by kernel_rfl) (fun _ _ _ h => h) (Or.inl ⟨by kernel_rfl, ?_⟩) (by assumption) ?_; rotate_left 1; (focus (intro w hSw; (try dsimp only at hSw); simp only [List.getElem_toArray, List.getElem_cons_succ, List.getElem_cons_zero]; all_goals go_simp; all_goals (try with_reducible rfl))); (try simp only [Act.put, List.getElem_toArray, List.getElem_cons_succ, List.getElem_cons_zero, List.setIfInBounds_toArray, List.set_cons_zero, List.set_cons_succ])
  refine wpAnyH_ready (rs := [12]) (by kernel_rfl) (by simp) ?_; refine AllReadyH.cons (by rfl) (fun K hK => ?_) AllReadyH.nil; rw [if_pos (by kernel_rfl)]; simp only [List.getElem_toArray, List.getElem_cons_succ, List.getElem_cons_zero]
  have HPl := Lib.hid HM2.out.lo.p
  go_wp2_with (first
    | (go_at_call 97; (with_reducible refine (pwrite_is i x hi hx hti u _ HM2.out.sv.st.pg).mono ?_); rintro e w2 ⟨rfl, hP, hb⟩; have HF := Lib.hid (HM2.out.page hP hb HM2.out.ok); have HPB := Lib.hid hb; clear hP hb))
  have hN1 : N ≤ w1.heap.size := HM.out.nN
  have hqq : w2.heap[w1.heap.size]? = _ := HPB.out.2.2.2.2 w1.heap.size (by simp) (by have := HPl.out; omega) (by have := HPl.out; omega)
  refine hK.out _ _ ⟨HF.out.m0, HF.out.sv.st.s1, (World.cell?_of_block (a := ⟨w1.heap.size, 0, none⟩) hqq).trans HQ.out.c0, (World.cell?_of_block (a := ⟨w1.heap.size, 1, none⟩) hqq).trans HQ.out.c1⟩ (fun hHeld => ?_)
  clear hK K
  (try simp only [Act.put, List.getElem_toArray, List.getElem_cons_succ, List.getElem_cons_zero, List.setIfInBounds_toArray, List.set_cons_zero, List.set_cons_succ])
  refine wpAnyH_done (by kernel_rfl) ?_ _
  refine NoPanic.normal ?_
  go_wp2_with fail
  go_ret
  have hs := HK.out.1
  simp at hs
  have hs2 := HPB.out.2.2.2.1
  simp at hs2
  refine ⟨rfl, hits', v', E', HF.out, HG.out.1, HG.out.2.1, HG.out.2.2, ⟨by omega, fun k hkN hk hkc hkv => ?_⟩, HV.out.imp id (fun ⟨g, hg, e⟩ => ⟨g, by simp at hg; omega, e⟩)⟩
  rw [HPB.out.2.2.2.2 k (by simp; omega) (by have := HPl.out; omega) (by have := HPl.out; omega), (((Below.refl _ _).alloc (Nat.le_refl _) _ : Below w1.heap.size w1 _).drew).block k (by omega), HK.out.2 k (by simp; omega) hkc hkv]
  exact (HB.out _).block k hk
end Go.Proofs.YtjkbfhojjjkgnaaDoor
namespace Go.Proofs.YtjkbfhojjjkgnaaDoor
open Go.ChangeShapes Go.WideShapes Go.ChangeAt Go.RowKit
set_option linter.unusedVariables false
set_option linter.unusedSimpArgs false
set_option maxRecDepth 100000 in
theorem mover_ok (S : Nat) (z : Int) (h1 : 1 ≤ z) (h2 : z ≤ 64) (w : World) :
    Calls Tryd.prog 48 #[.pointer (some ⟨S, 0, none⟩), .int .i64 z] w fun e w' => ∃ mb cb, e = .returned (.tuple #[.pointer (some ⟨mb, 0, none⟩), .nilIface]) ∧ CacheAt w' w.heap.size cb z 0 (.slice none 0 0) [] ∧ (w.heap.size ≤ mb ∧ mb < w'.heap.size ∧ mb ≠ cb ∧ w'.cell? ⟨mb, 0, none⟩ = some (.pointer (some ⟨S, 0, none⟩)) ∧ w'.cell? ⟨mb, 1, none⟩ = some (.pointer (some ⟨cb, 0, none⟩))) ∧ Below w.heap.size w w' := by
  go_enter Tryd.func48, Tryd.ntmps48
  go_wp2_with (first
    | (go_at_call 69; (with_reducible refine (cnew_ok z h1 h2 _).mono ?_); rintro e w1 ⟨cb, rfl, hc, hb⟩; have HC := Lib.hid hc; have HB := Lib.hid hb; clear hc hb))
  go_ret2
  exact ⟨w1.heap.size, cb, rfl, HC.out.below ((Below.refl _ _).alloc (Nat.le_refl _) _), ⟨HB.out.size, by simp, by have := HC.out.cl; omega, by simp, by simp⟩, HB.out.alloc HB.out.size _⟩
set_option maxRecDepth 100000 in
theorem mnew_ok (x y z : Int) (n m : Nat) (hx : Hid (x = n)) (hy : Hid (y = m)) (h1 : 1 ≤ n) (h2 : n ≤ 256) (h3 : 1 ≤ m) (h4 : m ≤ 256) (z1 : 1 ≤ z) (z2 : z ≤ 64) (w : World) :
    Calls Tryd.prog 30 #[.int .i64 x, .int .i64 y, .int .i64 z] w fun e w' => ∃ mb S a b N cb, e = .returned (.tuple #[.pointer (some ⟨mb, 0, none⟩), .nilIface]) ∧ MemAt w w' mb S a b N cb z (fun _ => false) (fun _ => 0) (fun _ b => zc b) (fun _ => false) (fun _ => 0) (fun _ _ => 0) 0 (.slice none 0 0) [] ∧ Hid (a.n = n ∧ b.n = m) := by
  go_enter Tryd.func30, Tryd.ntmps30
  go_wp2_with (first
    | (go_at_call 47; (with_reducible refine (snew_ok x y n m hx hy h1 h2 h3 h4 _).mono ?_); rintro e w1 ⟨S, a, b, rfl, hs, hn, hb⟩; have HS : Hid (SV w w1 S a b _ _ _ _ _ _) := Lib.hid ⟨hb, by rw [hn.out.2.2]; exact Nat.le_refl _, hs⟩; have HN := Lib.hid hn.out; clear hs hn hb)
    | (go_at_call 48; (with_reducible refine (mover_ok S z z1 z2 _).mono ?_); rintro e w2 ⟨mb, cb, rfl, hc, hm, hb⟩; have HC := Lib.hid hc; have HM := Lib.hid hm; have HB := Lib.hid hb; clear hc hm hb))
  go_ret2
  obtain ⟨m1, m2, m3, m4, m5⟩ := HM.out
  exact ⟨mb, S, a, b, w1.heap.size, cb, rfl, ⟨HS.out.step HB.out, HS.out.st.lo, HS.out.bel.size, HB.out.size, m4, m5, m2, m1, ⟨m3, by simp [Value.ownBlock]⟩, HC.out, ways_nil⟩, Lib.hid ⟨HN.out.1, HN.out.2.1⟩⟩
end Go.Proofs.YtjkbfhojjjkgnaaDoor
namespace Go.Proofs.YtjkbfhojjjkgnaaDoor
open Go.ChangeShapes Go.WideShapes Go.ChangeAt Go.RowKit
set_option linter.unusedVariables false
set_option linter.unusedSimpArgs false
theorem MemAt.over {w0 : World} {mb S : Nat} {a b : Shp} {N cb : Nat} {size : Int} {th : Nat → Bool} {vr_ : Nat → Int} {W : Nat → Nat → Value} {th2 : Nat → Bool} {vr2 : Nat → Int} {W2 : Nat → Nat → Int} {hits : Int} {v : Value} {E : List EW} {w w1 : World} (h : (MemAt w0 w mb S a b N cb size th vr_ W th2 vr2 W2 hits v E)) (h1 : Below w1.heap.size w1 w0) : MemAt w1 w mb S a b N cb size th vr_ W th2 vr2 W2 hits v E :=
  ⟨⟨h1.trans (h.sv.bel.mono h1.size), Nat.le_trans h1.size h.sv.wb, h.sv.st⟩, h.lo, Nat.le_trans h1.size h.n0, h.nN, h.m0, h.m1, h.ml, h.mn, h.mo, h.ca, h.ok⟩
/-- What is written below a memory leaves it; it is one over an elder start. -/
theorem MemAt.low5 {w0 : World} {mb S : Nat} {a b : Shp} {N cb : Nat} {size : Int} {th : Nat → Bool} {vr_ : Nat → Int} {W : Nat → Nat → Value} {th2 : Nat → Bool} {vr2 : Nat → Int} {W2 : Nat → Nat → Int} {hits : Int} {v : Value} {E : List EW} {w w1 : World} (h : (MemAt w0 w mb S a b N cb size th vr_ W th2 vr2 W2 hits v E)) (h1 : Below w1.heap.size w1 w0) {g : Nat} (hg0 : w1.heap.size ≤ g) (hg : g < a.b) (hgN : g < N) (z0 z1 z2 z3 z4 : Int) : MemAt w1 (((((w.setCell ⟨g, 0, none⟩ (.int .i64 z0)).setCell ⟨g, 1, none⟩ (.int .i64 z1)).setCell ⟨g, 2, none⟩ (.int .i64 z2)).setCell ⟨g, 3, none⟩ (.int .i64 z3)).setCell ⟨g, 4, none⟩ (.int .u32 z4)) mb S a b N cb size th vr_ W th2 vr2 W2 hits v E := by
  have hk : ∀ k, k ≠ g → (((((w.setCell ⟨g, 0, none⟩ (.int .i64 z0)).setCell ⟨g, 1, none⟩ (.int .i64 z1)).setCell ⟨g, 2, none⟩ (.int .i64 z2)).setCell ⟨g, 3, none⟩ (.int .i64 z3)).setCell ⟨g, 4, none⟩ (.int .u32 z4)).heap[k]? = w.heap[k]? := fun k hk => by
    rw [set_heap _ _ _ _ _ hk, set_heap _ _ _ _ _ hk, set_heap _ _ _ _ _ hk, set_heap _ _ _ _ _ hk, set_heap _ _ _ _ _ hk]
  have hz : (((((w.setCell ⟨g, 0, none⟩ (.int .i64 z0)).setCell ⟨g, 1, none⟩ (.int .i64 z1)).setCell ⟨g, 2, none⟩ (.int .i64 z2)).setCell ⟨g, 3, none⟩ (.int .i64 z3)).setCell ⟨g, 4, none⟩ (.int .u32 z4)).heap.size = w.heap.size := by simp
  have e := hk mb (by have := h.mn; omega)
  have hb := below_set5 (h1.trans (h.sv.bel.mono h1.size)) hg0 z0 z1 z2 z3 z4
  exact ⟨⟨hb, by omega, h.sv.st.low5 g hg z0 z1 z2 z3 z4⟩, h.lo, by omega, by rw [hz]; exact h.nN, (World.cell?_of_block (a := ⟨mb, 0, none⟩) e).trans h.m0, (World.cell?_of_block (a := ⟨mb, 1, none⟩) e).trans h.m1, by rw [hz]; exact h.ml, h.mn, h.mo, h.ca.same (Nat.le_of_eq hz.symm) (fun k hkN _ => hk k (by omega)), h.ok⟩
theorem way_r0 {a b : Shp} {th : Nat → Bool} {vr_ : Nat → Int} {W : Nat → Nat → Value} {th2 : Nat → Bool} {vr2 : Nat → Int} {k0 k1 k2 k3 k4 below addr pg at_ f : Int} {ro r r' : Bool} {ids : List Int} (h : Way a b th vr_ W th2 vr2 k0 k1 k2 k3 k4 below addr ro ids pg at_ r f) (e : r = r') : Way a b th vr_ W th2 vr2 k0 k1 k2 k3 k4 below addr ro ids pg at_ r' f := e ▸ h
theorem KeyC.keep {w w' : World} {kb N cb : Nat} {v : Value} {k0 k1 k2 k3 k4 : Int} (h : KeyC w kb k0 k1 k2 k3 k4) (hk : KeepM w w' N cb v) (hN : N ≤ kb) (ho : OutC cb v kb) : KeyC w' kb k0 k1 k2 k3 k4 := h.same' hk.1 (hk.2 kb hN h.lt ho.1 ho.2)
theorem updA_hit (W : Nat → Nat → Int) (i x : Nat) (u : Int) : updA W i x u i x = u := by simp [updA]
end Go.Proofs.YtjkbfhojjjkgnaaDoor
namespace Go.Proofs.YtjkbfhojjjkgnaaDoor
open Go.ChangeShapes Go.WideShapes Go.ChangeAt Go.RowKit
set_option linter.unusedVariables false
set_option linter.unusedSimpArgs false
def ltB (i : Nat) : Nat → Bool := fun x => decide (x < i)
theorem ltB_0 : ltB 0 = fun _ => false := by funext x; simp [ltB]
theorem ltB_s (i : Nat) : upd (ltB i) i true = ltB (i + 1) := by
  funext x
  by_cases h : x = i
  · subst h
    rw [upd_at]
    simp [ltB]
  · rw [upd_other _ _ _ _ h]
    unfold ltB
    rw [decide_eq_decide]
    omega
def kkOf (k0 k1 k2 k3 k4 : Int) : Nat → Nat → Int := fun _ q => if q = 0 then k0 else if q = 1 then k1 else if q = 2 then k2 else if q = 3 then k3 else k4
theorem srcK1 (w : World) (k0 k1 k2 k3 k4 : Int) (T : TypeId) (B G : Nat) (h1 : B < w.heap.size) (h2 : G < w.heap.size) : SrcK (w.alloc (.cells #[.int .i64 k0, .int .i64 k1, .int .i64 k2, .int .i64 k3, .int .u32 k4] T (0, 0))) (some ⟨w.heap.size, 0, none⟩) 1 (kkOf k0 k1 k2 k3 k4) B G := ⟨fun i hi => by
  obtain rfl : i = 0 := by omega
  refine ⟨_, rfl, by simp, by simp; omega, by simp; omega, fun q hq => ?_⟩
  rcases five q hq with rfl | rfl | rfl | rfl | rfl <;> simp [kkOf, kval, Addr.add]⟩
theorem freeB_lt (i j : Nat) : freeB (ltB i) (fun _ => 0) j = !decide (j < i) := by simp [freeB, ltB]
theorem way_step {a b : Shp} {th2 : Nat → Bool} {vr2 : Nat → Int} {W : Nat → Nat → Value} {i : Nat} {k0 k1 k4 r : Int} {ids : List Int} {rof : Bool} (hn : i < a.n) (hi : i < 4)
    (h : ∀ (k3 below : Int) (ro : Bool), (i : Int) < below → Way a b (ltB i) (fun _ => 0) W th2 vr2 k0 k1 0 k3 k4 below 5 ro ids 0 5 ((ro || roB k3) || rof) 0) :
    ∀ (k3 below : Int) (ro : Bool), ((i + 1 : Nat) : Int) < below → Way a b (ltB (i + 1)) (fun _ => 0) (freshV W i (kcs (kkOf k0 k1 0 r k4) 1)) th2 vr2 2 i 0 k3 ((i + 1 : Nat) : Int) below 5 ro ((i : Int) :: ids) 0 5 ((ro || roB k3) || (roB r || rof)) 0 := by
  intro k3 below ro hb
  have e5 : ((5 : Nat) : Int) = 5 := rfl
  have hp : 32 ≤ 2 * 16 ^ (i + 1) := by
    have : i = 0 ∨ i = 1 ∨ i = 2 ∨ i = 3 := by omega
    rcases this with rfl | rfl | rfl | rfl <;> decide
  have hnext := h r ((i + 1 : Nat) : Int) (ro || roB k3) (by omega)
  rw [Bool.or_assoc (ro || roB k3) (roB r) rof] at hnext
  refine .node (i + 1) i 0 5 (2 * 16 ^ (i + 1)) 5 k0 k1 0 r k4 rfl rfl e5.symm (by omega) (by omega) (by omega) ?_ hb rfl hn (by simp [ltB]) (by decide) (by omega) ?_ (hnext.more ?_ rfl)
  · simp [liveB, thereB, ltB, hn]
  · exact freshV_key W i (kkOf k0 k1 0 r k4) 1 0 (by decide)
  · intro x hx ht
    have hxi : x < i := by simpa [ltB] using ht
    exact ⟨by simp [ltB]; omega, fun j y0 y1 y2 y3 y4 hk => freshV_rest W i _ x j (by omega) hk⟩
theorem right_node (i : Nat) (hi : i ≤ 3) (r : Int) (h0 : 0 ≤ r) (h7 : r ≤ 7) : rightB 2 i 0 r ((i + 1 : Nat) : Int) = true := by
  have h8 : r = 0 ∨ r = 1 ∨ r = 2 ∨ r = 3 ∨ r = 4 ∨ r = 5 ∨ r = 6 ∨ r = 7 := by omega
  have h4 : i = 0 ∨ i = 1 ∨ i = 2 ∨ i = 3 := by omega
  rcases h4 with rfl | rfl | rfl | rfl <;> rcases h8 with rfl | rfl | rfl | rfl | rfl | rfl | rfl | rfl <;> decide
end Go.Proofs.YtjkbfhojjjkgnaaDoor
